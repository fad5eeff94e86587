/- Layer plain: the reference's pos and Cost; the law's own Fine. – Layer comp: the reference's Bound (of layer 6). – Layer comp: the reference's Compile, given its Of. – Layer comp: the reference's Of, of an Ncc: the beginning that it builds for each of the Subs. – Layer comp: the reference's Of, of a Pos or a Neg; of all conditions. -/
import Derived.Test.YtiihjlafhiaigaaA8
import Derived.Test.YtiihjlafhiaigaaA2
import Derived.Test.YtiihjlafhiaigaaA16
import Derived.Test.YtiihjlafhiaigaaA6
import Derived.Test.YtiihjlafhiaigaaA5
namespace Go.Proofs.Ytiihjlafhiaigaa
section
open Go.RowKit
set_option maxRecDepth 100000

set_option maxHeartbeats 2000000 in
theorem pos_step (l : List Sh) (hc : countL l ≤ 5000) (IH : Hid (∀ hd sb, Sh.mk hd sb ∈ l → ∀ ok a cap w, Holds cR w ok (.slice a sb.length cap) sb → Calls Try.prog 48 #[.slice a sb.length cap] w fun e w' => e = .returned (.int .i64 (posAL sb : Int)) ∧ Kept Nil w w'))
    (ok : Nat → Nat → Prop) (a : Option Addr) (cap : Nat) (w : World) (h : Holds cR w ok (.slice a l.length cap) l) :
    Calls Try.prog 48 #[.slice a l.length cap] w fun e w' => e = .returned (.int .i64 (posAL l : Int)) ∧ Kept Nil w w' := by
  obtain ⟨len, hlen⟩ : ∃ len, l.length = len := ⟨_, rfl⟩
  have HH := Lib.hid h
  rw [hlen] at HH ⊢
  have HL := Lib.hid hlen
  have hLen : len ≤ 5000 := by have := length_countL l; omega
  have HC := Lib.hid hc
  clear h hlen hc
  go_enter Try.func48, Try.ntmps48
  go_wp2_with fail
  go_loopw [3, 8] (fun n i wr => ∃ j : Nat, j ≤ len ∧ i = .int .i64 j ∧ n = .int .i64 ((posAL (l.take j) : Nat) : Int) ∧ Kept Nil w wr) (fun _ i _ => len - (intOf i).toNat)
  case atStart => exact ⟨0, by omega, rfl, by rw [List.take_zero, posAL_nil]; rfl, Kept.refl _ _⟩
  case round =>
    obtain ⟨j, hj, rfl, rfl, hK⟩ := hrel
    have HK := Lib.hid hK
    clear hK
    by_cases hlt : j < len
    · obtain ⟨⟨⟨k', x0', x1', x2', n0', n1', n2'⟩, sb⟩, hx⟩ : ∃ x, l[j]? = some x := ⟨_, List.getElem?_eq_getElem (by have := HL.out; omega)⟩
      obtain ⟨b, o, a', cap', rfl, hok, hr, hs⟩ := (HH.out.keptN HK.out).at_ hx
      have HX := Lib.hid (IH.out _ _ (List.mem_of_getElem? hx))
      have HR := Lib.hid hr
      have HS := Lib.hid hs
      have HN := Lib.hid ((posAL_take_succ hx).trans (by rw [posA_mk]))
      have hb1 := posA_le.2 (l.take (j + 1))
      have hb2 := countL_take_le l (j + 1)
      have HB := Lib.hid (show posAL (l.take (j + 1)) ≤ 5000 by have := HC.out; omega)
      clear hx hr hs hok hb1 hb2
      generalize posAL (l.take j) = cn at *
      generalize posAL sb = cx at *
      have HCn : cn + cx ≤ 5000 := by have := HB.out; have := HN.out; omega
      generalize sb.length = len' at *
      by_cases e1 : k' = 1
      · subst e1
        have HN1 : Hid (posAL (l.take (j + 1)) = cn + 1 + cx) := Lib.hid (by have := HN.out; simp at this; omega)
        have HCn1 : cn + 1 + cx ≤ 5000 := by have := HB.out; have := HN1.out; omega
        go_wp2_with ((with_reducible refine wpList_load_R rfl (.tmp 10) rfl _ _ rfl ⟨1, x0', x1', x2', n0', n1', n2'⟩ (.slice a' len' cap') ?_ ?_)
                     · exact HR.out)
        refine (HX.out _ _ _ _ (HS.out.keptN ((Kept.refl Nil _).alloc _))).mono ?_
        rintro e w2 ⟨rfl, k2⟩
        go_wp2_with fail
        go_roundw
        case rel => exact ⟨j + 1, by omega, by go_num, by rw [HN1.out]; go_num, (HK.out.alloc _).trans k2 (fun _ _ g => g)⟩
        case measure => simp [intOf]; omega
      · have n1 : (k' == 1) = false := beq_eq_false_iff_ne.2 e1
        have HN1 : Hid (posAL (l.take (j + 1)) = cn + cx) := Lib.hid (by have := HN.out; simp [e1] at this; omega)
        clear e1
        go_wp2_with ((with_reducible refine wpList_load_R rfl (.tmp 10) rfl _ _ rfl ⟨k', x0', x1', x2', n0', n1', n2'⟩ (.slice a' len' cap') ?_ ?_)
                     · exact HR.out)
        refine (HX.out _ _ _ _ (HS.out.keptN ((Kept.refl Nil _).alloc _))).mono ?_
        rintro e w2 ⟨rfl, k2⟩
        go_wp2_with fail
        go_roundw
        case rel => exact ⟨j + 1, by omega, by go_num, by rw [HN1.out]; go_num, (HK.out.alloc _).trans k2 (fun _ _ g => g)⟩
        case measure => simp [intOf]; omega
    · obtain rfl : j = len := by omega
      have HE : Hid (l.take j = l) := Lib.hid (by rw [← HL.out]; simp)
      go_wp2_with fail
      go_ret
      exact ⟨by rw [HE.out]; rfl, HK.out⟩
theorem pos_any (l : List Sh) (hc : countL l ≤ 5000) (ok : Nat → Nat → Prop) (a : Option Addr) (cap : Nat) (w : World) (h : Holds cR w ok (.slice a l.length cap) l) :
    Calls Try.prog 48 #[.slice a l.length cap] w fun e w' => e = .returned (.int .i64 (posAL l : Int)) ∧ Kept Nil w w' :=
  (Sh.ind2 (P := fun s => countL s.subs ≤ 5000 → ∀ ok a cap w, Holds cR w ok (.slice a s.subs.length cap) s.subs → Calls Try.prog 48 #[.slice a s.subs.length cap] w fun e w' => e = .returned (.int .i64 (posAL s.subs : Int)) ∧ Kept Nil w w')
    (Q := fun l => (∀ hd sb, Sh.mk hd sb ∈ l → countL sb ≤ 5000 → ∀ ok a cap w, Holds cR w ok (.slice a sb.length cap) sb → Calls Try.prog 48 #[.slice a sb.length cap] w fun e w' => e = .returned (.int .i64 (posAL sb : Int)) ∧ Kept Nil w w'))
    (fun _ subs ih hc ok a cap w h => pos_step subs hc (Lib.hid fun hd sb hx => ih hd sb hx (by have := count_mem hx; simp only [Sh.count] at this; have : countL subs ≤ 5000 := hc; omega)) ok a cap w h)
    (fun _ _ hx => by cases hx) (fun x r hx hr hd sb hm => by
      rcases List.mem_cons.1 hm with e | hm
      · subst e; exact hx
      · exact hr hd sb hm)).1 (.mk zeroH l) hc ok a cap w h
/-- A bool; where it is true, something holds. -/
def Yes2 (T : Prop) (w : World) (e : Ending) (w' : World) : Prop := ∃ b : Bool, e = .returned (.bool b) ∧ Kept Nil w w' ∧ (b = true → T)
set_option maxHeartbeats 2000000 in
theorem cost_any (f : Nat) (hf : f ≤ 12) (l : List Sh) (hc : countL l ≤ 20) (ok : Nat → Nat → Prop) (a : Option Addr) (cap : Nat) (w : World) (h : Holds cR w ok (.slice a l.length cap) l) :
    Calls Try.prog 26 #[.int .i64 f, .slice a l.length cap, .int .i64 3000] w (Yes2 ((f + 1) ^ posAL l ≤ 3000) w) := by
  have CP := Lib.hid (pos_any l (by omega) ok a cap w h)
  have hp : posAL l ≤ 20 := Nat.le_trans (posA_le.2 l) hc
  generalize posAL l = p at *
  generalize l.length = len at *
  clear h
  go_enter Try.func26, Try.ntmps26
  go_wp2_with fail
  refine CP.out.mono ?_
  rintro e w1 ⟨rfl, k1⟩
  have K1 := Lib.hid k1
  clear k1 CP
  go_wp2_with fail
  go_loopw [7, 8] (fun n i wr => ∃ j m : Nat, j ≤ p ∧ i = .int .i64 ((p - j : Nat) : Int) ∧ n = .int .i64 (m : Int) ∧ m = (f + 1) ^ j ∧ m ≤ 39000 ∧ Kept Nil w wr) (fun _ i _ => (intOf i).toNat)
  case atStart => exact ⟨0, 1, Nat.zero_le _, rfl, rfl, rfl, by decide, K1.out⟩
  case round =>
    obtain ⟨j, m, hj, rfl, rfl, hm, hm39, hK⟩ := hrel
    have HK := Lib.hid hK
    have HM := Lib.hid hm
    clear hK hm
    by_cases hjp : j = p
    · subst hjp
      have e0 : j - j = 0 := Nat.sub_self j
      rw [e0]
      by_cases h3 : m ≤ 3000
      · have hd : decide (m ≤ 3000) = true := decide_eq_true h3
        go_wp2_with fail
        go_ret
        exact ⟨true, by simp; omega, HK.out, fun _ => HM.out ▸ h3⟩
      · have hd : decide (m ≤ 3000) = false := decide_eq_false h3
        go_wp2_with fail
        go_ret
        exact ⟨false, by simp; omega, HK.out, fun h => by cases h⟩
    · obtain ⟨q, hq⟩ : ∃ q, p - j = q + 1 := ⟨p - j - 1, by omega⟩
      rw [hq]
      have HQ := Lib.hid hq
      have hq20 : q ≤ 20 := by omega
      by_cases h3 : m ≤ 3000
      · have hd : decide (m ≤ 3000) = true := decide_eq_true h3
        have hmul : m * (f + 1) ≤ 39000 := Nat.le_trans (Nat.mul_le_mul h3 (show f + 1 ≤ 13 by omega)) (by decide)
        obtain ⟨m2, hm2⟩ : ∃ m2, m * (f + 1) = m2 := ⟨_, rfl⟩
        have HM2 := Lib.hid hm2
        have hmi : (m : Int) * ((f : Int) + 1) = (m2 : Int) := by rw [← hm2]; push_cast; rfl
        rw [hm2] at hmul
        clear hq hm2
        go_wp2_with fail
        go_roundw
        case rel =>
          refine ⟨j + 1, m2, by omega, ?_, ?_, by rw [Nat.pow_succ, ← HM.out, HM2.out], hmul, HK.out⟩
          · have := HQ.out
            rw [show p - (j + 1) = q by omega]
          · go_num
        case measure => simp [intOf]
      · have hd : decide (m ≤ 3000) = false := decide_eq_false h3
        clear hq
        go_wp2_with fail
        go_ret
        exact ⟨false, by simp; omega, HK.out, fun h => by cases h⟩
theorem fieldRule (nm : ByteArray) (s : Option Addr) (n c : Nat) (W : World) : (Instr.field 33 (.agg #[.string nm, .slice s n c]) 1).run Try.prog W = .ok (.slice s n c) W := by
  simp [Instr.field, run_underlying Try.underlying33, part, isAgg, run_underlying Try.underlying31, asAgg]
set_option maxHeartbeats 4000000 in
theorem fineP_any (nm : ByteArray) (hnm : nm.size ≤ maxLen) (l : List Sh) (ok : Nat → Nat → Prop) (a : Option Addr) (cap : Nat) (f : Nat) (hf : f ≤ maxLen) (w : World) (h : Holds cA w ok (.slice a l.length cap) l) (hok : ∀ b o, ok b o → b < w.heap.size) :
    Calls Try.prog 9 #[vRule nm (.slice a l.length cap), .int .i64 f] w (Yes2 (f ≤ 12 ∧ (countL l ≤ 16 ∧ chkL l 1 = 0 ∧ l.length ≠ 0) ∧ (f + 1) ^ posAL l ≤ 3000) w) := by
  unfold maxLen at hf
  have CF := Lib.hid (fun W (kW : Kept Nil w W) => fine_any nm hnm l ok a cap W (h.keptN kW) (fun b o hb => Nat.lt_of_lt_of_le (hok b o hb) kW.size))
  unfold BoolEnd at CF
  have CR : Hid (∀ w', Kept Nil w w' → countL l ≤ 20 → Calls Try.prog 12 #[vRule nm (.slice a l.length cap)] w' fun e w'' => ∃ a' cap', e = .returned (vRule nm (.slice a' l.length cap')) ∧ Holds cR w'' (okM w'.heap.size w'') (.slice a' l.length cap') l ∧ Kept Nil w' w'') := Lib.hid fun w' k hc => refRuleOf_any nm l (by omega) ok a cap w' (h.keptN k)
  have CC : Hid (∀ w' ok' a' cap', f ≤ 12 → countL l ≤ 20 → Holds cR w' ok' (.slice a' l.length cap') l → Calls Try.prog 26 #[.int .i64 f, .slice a' l.length cap', .int .i64 3000] w' (Yes2 ((f + 1) ^ posAL l ≤ 3000) w')) := Lib.hid fun w' ok' a' cap' hf hc hh => cost_any f hf l hc ok' a' cap' w' hh
  unfold Yes2 at CC
  obtain ⟨len, hlen⟩ : ∃ len, l.length = len := ⟨_, rfl⟩
  rw [hlen] at CF CR CC ⊢
  have HLn := Lib.hid hlen
  have K0 := Lib.hid ((Kept.refl Nil w).alloc (.cells #[.string nm, .slice a len cap] 24))
  have B0 := Lib.hid (Blk.new w 24 #[.string nm, .slice a len cap])
  clear h hok hlen hnm
  unfold vRule at CF CR ⊢
  go_enter Try.func9, Try.ntmps9
  go_wp2_with fail
  refine (CF.out _ K0.out).mono ?_
  rintro e w1 ⟨b, rfl, k1, hb⟩
  have K1 := Lib.hid (K0.out.trans k1 (fun _ _ g => g))
  have c0 := (B0.out.kept k1 id).cell 0
  have c1 := (B0.out.kept k1 id).cell 1
  simp at c0 c1
  have HB := Lib.hid hb
  clear k1 hb K0 B0 CF
  cases b
  · go_wp2_with fail
    go_ret
    exact ⟨false, rfl, K1.out, fun h => by cases h⟩
  have HB2 := Lib.hid (HB.out rfl)
  by_cases hf12 : f ≤ 12
  · have hd : decide (f ≤ 12) = true := decide_eq_true hf12
    go_wp2_with fail
    refine (CR.out _ K1.out HB2.out.1).mono ?_
    rintro e w2 ⟨a2, c2, rfl, h2, k2⟩
    have K2 := Lib.hid (K1.out.trans k2 (fun _ _ g => g))
    have H2 := Lib.hid h2
    have hfld := fieldRule nm a2 len c2
    clear k2 h2 c0 c1
    go_wp2_with fail
    refine (CC.out _ _ _ _ hf12 HB2.out.1 H2.out).mono ?_
    rintro e w3 ⟨q, rfl, k3, hq⟩
    have K3 := Lib.hid (K2.out.trans k3 (fun _ _ g => g))
    have HQ := Lib.hid hq
    clear k3 hq
    go_wp2_with fail
    go_ret
    refine ⟨q, rfl, K3.out, fun hq => ⟨hf12, ?_, HQ.out hq⟩⟩
    have := chkRule_zero.1 HB2.out.2.2
    exact ⟨this.2.2.2.1, this.2.2.1, by rw [← HLn.out]; exact this.2.1⟩
  · have hd : decide (f ≤ 12) = false := decide_eq_false hf12
    go_wp2_with fail
    go_ret
    exact ⟨false, rfl, K1.out, fun h => by cases h⟩
end
section
open Go.RowKit
set_option maxRecDepth 100000

theorem hitF_0 {h : Hd} {v : Int} (e0 : decide (true = h.x0 ∧ v = h.n0) = true) : hitF h v = 0 := by unfold hitF first3; rw [e0]; rfl
theorem hitF_1 {h : Hd} {v : Int} (e0 : decide (true = h.x0 ∧ v = h.n0) = false) (e1 : decide (true = h.x1 ∧ v = h.n1) = true) : hitF h v = 1 := by unfold hitF first3; rw [e0, e1]; rfl
theorem hitF_2 {h : Hd} {v : Int} (e0 : decide (true = h.x0 ∧ v = h.n0) = false) (e1 : decide (true = h.x1 ∧ v = h.n1) = false) (e2 : decide (true = h.x2 ∧ v = h.n2) = true) : hitF h v = 2 := by unfold hitF first3; rw [e0, e1, e2]; rfl
theorem hitF_no {h : Hd} {v : Int} (e0 : decide (true = h.x0 ∧ v = h.n0) = false) (e1 : decide (true = h.x1 ∧ v = h.n1) = false) (e2 : decide (true = h.x2 ∧ v = h.n2) = false) : hitF h v = -1 := by unfold hitF first3; rw [e0, e1, e2]; rfl
set_option maxHeartbeats 8000000 in
theorem refBound_any (l : List Sh) (hc : l.length ≤ 100) (v : Int) (ok : Nat → Nat → Prop) (a : Option Addr) (cap : Nat) (w : World) (h : Holds cR w ok (.slice a l.length cap) l) :
    Calls Try.prog 56 #[.slice a l.length cap, .int .i64 v] w (FpEnd l v w) := by
  obtain ⟨len, hlen⟩ : ∃ n, l.length = n := ⟨_, rfl⟩
  have HH := Lib.hid h
  rw [hlen] at HH hc ⊢
  have HL := Lib.hid hlen
  have P0 := Lib.hid (Blk.new w 114 zP)
  have K0 := Lib.hid ((Kept.refl Nil w).alloc (.cells zP 114))
  clear h hlen
  go_enter Try.func56, Try.ntmps56
  go_wp2_with fail
  go_loopw [6, 12] (fun bk i wr => ∃ j m : Nat, j ≤ len ∧ m ≤ j ∧ i = .int .i64 j ∧ bk = .int .i64 m ∧ fpL l v 0 = fpL (l.drop j) v m ∧ Blk wr w.heap.size 114 zP ∧ Kept Nil w wr) (fun _ i _ => len - (intOf i).toNat)
  case atStart => exact ⟨0, 0, by omega, by omega, rfl, rfl, rfl, P0.out, K0.out⟩
  case round =>
    rename World => wo
    obtain ⟨j, m, hj, hm, rfl, rfl, hf, hP, hK⟩ := hrel
    have HF := Lib.hid hf
    have HP := Lib.hid hP
    have HK := Lib.hid hK
    clear hf hP hK P0 K0
    by_cases hlt : j < len
    · obtain ⟨⟨⟨k', x0', x1', x2', n0', n1', n2'⟩, sb⟩, hx⟩ : ∃ x, l[j]? = some x := ⟨_, List.getElem?_eq_getElem (by have := HL.out; omega)⟩
      obtain ⟨b, o, a', cap', rfl, hok, hr, hs⟩ := (HH.out.keptN HK.out).at_ hx
      have HRng := Lib.hid hr
      have HD : Hid (fpL (l.drop j) v m = if k' = 1 then (if 0 ≤ hitF ⟨k', x0', x1', x2', n0', n1', n2'⟩ v then some (m, hitF ⟨k', x0', x1', x2', n0', n1', n2'⟩ v) else fpL (l.drop (j + 1)) v (m + 1)) else fpL (l.drop (j + 1)) v m) := Lib.hid (fpL_drop hx v m)
      generalize sb.length = len' at HRng
      clear hx hr hs hok
      by_cases hk1 : k' = 1
      · subst hk1
        have BY := Lib.hid (Blk.new wo 77 (arrR ⟨1, x0', x1', x2', n0', n1', n2'⟩ (.slice a' len' cap')))
        have KY := Lib.hid (HK.out.alloc (.cells (arrR ⟨1, x0', x1', x2', n0', n1', n2'⟩ (.slice a' len' cap')) 77))
        have PY := Lib.hid (HP.out.alloc (.cells (arrR ⟨1, x0', x1', x2', n0', n1', n2'⟩ (.slice a' len' cap')) 77))
        go_wp2_with ((with_reducible refine wpList_load_R rfl (.tmp 14) rfl _ _ rfl ⟨1, x0', x1', x2', n0', n1', n2'⟩ (.slice a' len' cap') ?_ ?_)
                     · exact HRng.out)
        go_loopw [9] (fun i wr => Blk wr wo.heap.size 77 (arrR ⟨1, x0', x1', x2', n0', n1', n2'⟩ (.slice a' len' cap')) ∧ Blk wr w.heap.size 114 zP ∧ Kept Nil w wr ∧ (i = .int .i64 0 ∨ (i = .int .i64 1 ∧ Hid (decide (true = x0' ∧ v = n0') = false)) ∨ (i = .int .i64 2 ∧ Hid (decide (true = x0' ∧ v = n0') = false) ∧ Hid (decide (true = x1' ∧ v = n1') = false)) ∨ (i = .int .i64 3 ∧ Hid (decide (true = x0' ∧ v = n0') = false) ∧ Hid (decide (true = x1' ∧ v = n1') = false) ∧ Hid (decide (true = x2' ∧ v = n2') = false)))) (fun i _ => (3 - intOf i).toNat)
        case atStart => exact ⟨BY.out, PY.out, KY.out, .inl rfl⟩
        case round =>
          obtain ⟨hb, hp, hkk, hi⟩ := hrel
          have HBk := Lib.hid hb
          have HPk := Lib.hid hp
          have HKk := Lib.hid hkk
          clear hb hp hkk BY KY PY HP
          rcases hi with rfl | ⟨rfl, g0⟩ | ⟨rfl, g0, g1⟩ | ⟨rfl, g0, g1, g2⟩
          · have e1 := HBk.out.cell 1
            have e2 := HBk.out.cell 2
            simp [isV] at e1 e2
            cases x0'
            · have G : Hid (decide (true = false ∧ v = n0') = false) := Lib.hid (by simp)
              simp at e1
              go_wp2_with fail
              go_roundw
              case rel => exact ⟨HBk.out, HPk.out, HKk.out, .inr (.inl ⟨rfl, G⟩)⟩
              case measure => decide
            · simp at e1
              by_cases hv : n0' = v
              · have hvb : (n0' == v) = true := by simpa using hv
                have HE : Hid (fpL l v 0 = some (m, 0)) := Lib.hid (by
                  rw [HF.out, HD.out, if_pos trivial, hitF_0 (h := ⟨1, _, _, _, _, _, _⟩)  (by simp [hv])]; rfl)
                have p0 := HPk.out.cell 0
                have p1 := HPk.out.cell 1
                have p2 := HPk.out.cell 2
                have f0 := HPk.out.frozen 0
                have f1 := HPk.out.frozen 1
                have f2 := HPk.out.frozen 2
                simp at p0 p1 p2
                go_wp2_with fail
                have BF : Blk (((wr.setCell ⟨w.heap.size, 0, none⟩ (.int .i64 v)).setCell ⟨w.heap.size, 1, none⟩ (.int .i64 (m : Int))).setCell ⟨w.heap.size, 2, none⟩ (.int .i64 0)) w.heap.size 114 #[.int .i64 v, .int .i64 (m : Int), .int .i64 0] := by
                  simpa using ((HPk.out.set_ 0 (.int .i64 v)).set_ 1 (.int .i64 (m : Int))).set_ 2 (.int .i64 0)
                refine bodyPost_ret (results_pair Try.results56 _ _ _ (.bool true) rfl rfl BF Try.underlying114 (by kernel_rfl)) rfl ⟨by rw [HE.out]; rfl, ?_⟩
                refine Kept.setCell (Kept.setCell (Kept.setCell HKk.out _ (.inr (Nat.le_refl _)) _) _ (.inr (Nat.le_refl _)) _) _ (.inr (Nat.le_refl _)) _
              · have hvb : (n0' == v) = false := by simpa using hv
                have G : Hid (decide (True ∧ v = n0') = false) := Lib.hid (by simp; exact fun e => hv e.symm)
                go_wp2_with fail
                go_roundw
                case rel => exact ⟨HBk.out, HPk.out, HKk.out, .inr (.inl ⟨rfl, G⟩)⟩
                case measure => decide
          · have e1 := HBk.out.cell 3
            have e2 := HBk.out.cell 4
            simp [isV] at e1 e2
            cases x1'
            · have G : Hid (decide (true = false ∧ v = n1') = false) := Lib.hid (by simp)
              simp at e1
              go_wp2_with fail
              go_roundw
              case rel => exact ⟨HBk.out, HPk.out, HKk.out, .inr (.inr (.inl ⟨rfl, g0, G⟩))⟩
              case measure => decide
            · simp at e1
              by_cases hv : n1' = v
              · have hvb : (n1' == v) = true := by simpa using hv
                have HE : Hid (fpL l v 0 = some (m, 1)) := Lib.hid (by
                  rw [HF.out, HD.out, if_pos trivial, hitF_1 (h := ⟨1, _, _, _, _, _, _⟩) g0.out (by simp [hv])]; rfl)
                have p0 := HPk.out.cell 0
                have p1 := HPk.out.cell 1
                have p2 := HPk.out.cell 2
                have f0 := HPk.out.frozen 0
                have f1 := HPk.out.frozen 1
                have f2 := HPk.out.frozen 2
                simp at p0 p1 p2
                go_wp2_with fail
                have BF : Blk (((wr.setCell ⟨w.heap.size, 0, none⟩ (.int .i64 v)).setCell ⟨w.heap.size, 1, none⟩ (.int .i64 (m : Int))).setCell ⟨w.heap.size, 2, none⟩ (.int .i64 1)) w.heap.size 114 #[.int .i64 v, .int .i64 (m : Int), .int .i64 1] := by
                  simpa using ((HPk.out.set_ 0 (.int .i64 v)).set_ 1 (.int .i64 (m : Int))).set_ 2 (.int .i64 1)
                refine bodyPost_ret (results_pair Try.results56 _ _ _ (.bool true) rfl rfl BF Try.underlying114 (by kernel_rfl)) rfl ⟨by rw [HE.out]; rfl, ?_⟩
                refine Kept.setCell (Kept.setCell (Kept.setCell HKk.out _ (.inr (Nat.le_refl _)) _) _ (.inr (Nat.le_refl _)) _) _ (.inr (Nat.le_refl _)) _
              · have hvb : (n1' == v) = false := by simpa using hv
                have G : Hid (decide (True ∧ v = n1') = false) := Lib.hid (by simp; exact fun e => hv e.symm)
                go_wp2_with fail
                go_roundw
                case rel => exact ⟨HBk.out, HPk.out, HKk.out, .inr (.inr (.inl ⟨rfl, g0, G⟩))⟩
                case measure => decide
          · have e1 := HBk.out.cell 5
            have e2 := HBk.out.cell 6
            simp [isV] at e1 e2
            cases x2'
            · have G : Hid (decide (true = false ∧ v = n2') = false) := Lib.hid (by simp)
              simp at e1
              go_wp2_with fail
              go_roundw
              case rel => exact ⟨HBk.out, HPk.out, HKk.out, .inr (.inr (.inr ⟨rfl, g0, g1, G⟩))⟩
              case measure => decide
            · simp at e1
              by_cases hv : n2' = v
              · have hvb : (n2' == v) = true := by simpa using hv
                have HE : Hid (fpL l v 0 = some (m, 2)) := Lib.hid (by
                  rw [HF.out, HD.out, if_pos trivial, hitF_2 (h := ⟨1, _, _, _, _, _, _⟩) g0.out g1.out (by simp [hv])]; rfl)
                have p0 := HPk.out.cell 0
                have p1 := HPk.out.cell 1
                have p2 := HPk.out.cell 2
                have f0 := HPk.out.frozen 0
                have f1 := HPk.out.frozen 1
                have f2 := HPk.out.frozen 2
                simp at p0 p1 p2
                go_wp2_with fail
                have BF : Blk (((wr.setCell ⟨w.heap.size, 0, none⟩ (.int .i64 v)).setCell ⟨w.heap.size, 1, none⟩ (.int .i64 (m : Int))).setCell ⟨w.heap.size, 2, none⟩ (.int .i64 2)) w.heap.size 114 #[.int .i64 v, .int .i64 (m : Int), .int .i64 2] := by
                  simpa using ((HPk.out.set_ 0 (.int .i64 v)).set_ 1 (.int .i64 (m : Int))).set_ 2 (.int .i64 2)
                refine bodyPost_ret (results_pair Try.results56 _ _ _ (.bool true) rfl rfl BF Try.underlying114 (by kernel_rfl)) rfl ⟨by rw [HE.out]; rfl, ?_⟩
                refine Kept.setCell (Kept.setCell (Kept.setCell HKk.out _ (.inr (Nat.le_refl _)) _) _ (.inr (Nat.le_refl _)) _) _ (.inr (Nat.le_refl _)) _
              · have hvb : (n2' == v) = false := by simpa using hv
                have G : Hid (decide (True ∧ v = n2') = false) := Lib.hid (by simp; exact fun e => hv e.symm)
                go_wp2_with fail
                go_roundw
                case rel => exact ⟨HBk.out, HPk.out, HKk.out, .inr (.inr (.inr ⟨rfl, g0, g1, G⟩))⟩
                case measure => decide
          · have HE : Hid (fpL l v 0 = fpL (l.drop (j + 1)) v (m + 1)) := Lib.hid (by
              rw [HF.out, HD.out, if_pos trivial, hitF_no (h := ⟨1, _, _, _, _, _, _⟩) g0.out g1.out g2.out, if_neg (by decide)])
            go_wp2_with fail
            go_roundw
            case rel => exact ⟨j + 1, m + 1, by omega, by omega, by go_num, by go_num, HE.out, HPk.out, HKk.out⟩
            case measure => simp [intOf]; omega
      · have hk1' : (k' != 1) = true := by simpa using hk1
        have HE : Hid (fpL l v 0 = fpL (l.drop (j + 1)) v m) := Lib.hid (by rw [HF.out, HD.out, if_neg hk1])
        go_wp2_with ((with_reducible refine wpList_load_R rfl (.tmp 14) rfl _ _ rfl ⟨k', x0', x1', x2', n0', n1', n2'⟩ (.slice a' len' cap') ?_ ?_)
                     · exact HRng.out)
        go_roundw
        case rel => exact ⟨j + 1, m, by omega, by omega, by go_num, by go_num, HE.out, HP.out.alloc _, HK.out.alloc _⟩
        case measure => simp [intOf]; omega
    · obtain rfl : j = len := by omega
      have HE : Hid (fpL l v 0 = none) := Lib.hid (by rw [HF.out, List.drop_eq_nil_of_le (by have := HL.out; omega)]; rfl)
      have p0 := HP.out.cell 0
      have p1 := HP.out.cell 1
      have p2 := HP.out.cell 2
      have f0 := HP.out.frozen 0
      have f1 := HP.out.frozen 1
      have f2 := HP.out.frozen 2
      simp at p0 p1 p2
      go_wp2_with fail
      have BF : Blk (((wo.setCell ⟨w.heap.size, 0, none⟩ (.int .i64 0)).setCell ⟨w.heap.size, 1, none⟩ (.int .i64 0)).setCell ⟨w.heap.size, 2, none⟩ (.int .i64 0)) w.heap.size 114 #[.int .i64 0, .int .i64 0, .int .i64 0] := by
        simpa using ((HP.out.set_ 0 (.int .i64 0)).set_ 1 (.int .i64 0)).set_ 2 (.int .i64 0)
      refine bodyPost_ret (results_pair Try.results56 _ _ _ (.bool false) rfl rfl BF Try.underlying114 (by kernel_rfl)) rfl ⟨by rw [HE.out]; rfl, ?_⟩
      refine Kept.setCell (Kept.setCell (Kept.setCell HK.out _ (.inr (Nat.le_refl _)) _) _ (.inr (Nat.le_refl _)) _) _ (.inr (Nat.le_refl _)) _
end
section
open Go.RowKit
set_option maxRecDepth 100000

/-- The reference's Of is the step of a condition behind a chain. -/
abbrev OfS (s : Sh) : Prop := ∀ (chl : List Sh) ok1 ok2 ac cc a cap w, Holds cR w ok1 (.slice ac chl.length cc) chl → Holds cR w ok2 (.slice a s.subs.length cap) s.subs → chl.length + s.count ≤ 100 → (∃ d, s.chk d = 0) →
  Calls Try.prog 35 #[.slice ac chl.length cc, vR s.hd (.slice a s.subs.length cap)] w (StEnd (s.st chl).hd (s.st chl).subs w)
set_option maxHeartbeats 8000000 in
theorem refCompile_of (hOf : ∀ s, OfS s) (l : List Sh) (hg : countL l ≤ 16 ∧ chkL l 1 = 0) (ok : Nat → Nat → Prop) (a : Option Addr) (cap : Nat) (w : World) (h : Holds cR w ok (.slice a l.length cap) l) :
    Calls Try.prog 15 #[.slice a l.length cap] w (StsEnd (stL l []) w) := by
  have HH := Lib.hid h
  have hfit := h.fits.2
  have hSL : (stL l []).length = l.length := stL_length l []
  obtain ⟨len, hlen⟩ : ∃ len, l.length = len := ⟨_, rfl⟩
  rw [hlen] at HH hSL hfit ⊢
  have HL := Lib.hid hlen
  have HSL := Lib.hid hSL
  have hLen : len ≤ 16 := by have := length_countL l; omega
  have hOf' := Lib.hid hOf
  have HG := Lib.hid hg
  clear h hlen hSL hOf hg
  go_enter Try.func15, Try.ntmps15
  go_wp2_with fail
  go_loopw [3, 8] (fun u i wr => ∃ (j : Nat) (ps : List SQ), j ≤ len ∧ i = .int .i64 j ∧ trS ps = stL (l.take j) [] ∧ GB kS 54 wr w.heap.size u ps ∧ Kept Nil w wr) (fun _ i _ => len - (intOf i).toNat)
  case atStart => exact ⟨0, [], by omega, rfl, by rw [List.take_zero, stL_nil]; rfl, GB.nil _, Kept.refl _ _⟩
  case round =>
    obtain ⟨j, ps, hj, rfl, hps, hG, hK⟩ := hrel
    have HGB := Lib.hid hG
    have HK := Lib.hid hK
    have HP := Lib.hid hps
    clear hG hps hK
    have hpl0 : ps.length = j := by have := congrArg List.length HP.out; rw [trS_len, stL_length, List.length_take] at this; have := HL.out; omega
    obtain ⟨au, cu, rfl, hcu⟩ := HGB.out.shape
    rw [hpl0] at HGB hcu ⊢
    by_cases hlt : j < len
    · obtain ⟨⟨⟨k', x0', x1', x2', n0', n1', n2'⟩, sb⟩, hx⟩ : ∃ x, l[j]? = some x := ⟨_, List.getElem?_eq_getElem (by have := HL.out; omega)⟩
      obtain ⟨b, o, a', cap', rfl, _, hr, hs⟩ := (HH.out.keptN HK.out).at_ hx
      have hljl : (l.take j).length = j := by rw [List.length_take]; have := HL.out; omega
      have hcm := count_mem (List.mem_of_getElem? hx)
      have HX : Hid (∀ W, Kept Nil wr W → Calls Try.prog 35 #[.slice (some ⟨b, o, none⟩) j cap, vR ⟨k', x0', x1', x2', n0', n1', n2'⟩ (.slice a' sb.length cap')] W (StEnd ((Sh.mk ⟨k', x0', x1', x2', n0', n1', n2'⟩ sb).st (l.take j)).hd ((Sh.mk ⟨k', x0', x1', x2', n0', n1', n2'⟩ sb).st (l.take j)).subs W)) := Lib.hid fun W kW => by
        have := hOf'.out (.mk ⟨k', x0', x1', x2', n0', n1', n2'⟩ sb) (l.take j) _ _ (some ⟨b, o, none⟩) cap a' cap' W (by rw [hljl]; exact (HH.out.first (by omega)).keptN (HK.out.trans kW (fun _ _ g => g))) (hs.keptN kW) (by have := HG.out.1; omega) ⟨1, chkL_all.1 HG.out.2 _ (List.mem_of_getElem? hx)⟩
        rw [hljl] at this
        exact this
      have HRow : Hid (wr.rangeAt b (o + j * 8) (cR ⟨k', x0', x1', x2', n0', n1', n2'⟩ (.slice a' sb.length cap'))) := Lib.hid hr
      have HN := Lib.hid (stL_take_succ (ch := []) hx)
      rw [List.nil_append] at HN
      unfold StEnd at HX
      generalize (Sh.mk ⟨k', x0', x1', x2', n0', n1', n2'⟩ sb).st (l.take j) = sj at HX HN
      obtain ⟨⟨jk, jk0, jk1, jk2, jts⟩, jsb⟩ := sj
      replace HX : Hid (∀ W, Kept Nil wr W → Calls Try.prog 35 #[.slice (some ⟨b, o, none⟩) j cap, vR ⟨k', x0', x1', x2', n0', n1', n2'⟩ (.slice a' sb.length cap')] W (fun e w' => ∃ t2 d2 a2 c2, e = .returned (vS ⟨jk, jk0, jk1, jk2, jts⟩ (.slice t2 jts.length d2) (.slice a2 jsb.length c2)) ∧ TsAt w' (okM W.heap.size w') (.slice t2 jts.length d2) jts ∧ SHolds w' (okM W.heap.size w') (.slice a2 jsb.length c2) jsb ∧ Kept Nil W w')) := HX
      clear hx hr hs hcm hljl
      generalize jts.length = tn' at HX
      generalize jsb.length = sn' at HX
      generalize sb.length = len' at HX HRow
      go_wp2_with ((with_reducible refine wpList_load_R rfl (.tmp 11) rfl _ _ rfl ⟨k', x0', x1', x2', n0', n1', n2'⟩ (.slice a' len' cap') ?_ ?_)
                   · exact HRow.out)
      obtain ⟨W1, hW1⟩ : ∃ W1, wr.alloc (.cells (arrR ⟨k', x0', x1', x2', n0', n1', n2'⟩ (.slice a' len' cap')) 77) = W1 := ⟨_, rfl⟩
      have KW : Kept Nil wr W1 := by rw [← hW1]; exact (Kept.refl Nil wr).alloc _
      have by0 : Blk W1 wr.heap.size 77 (arrR ⟨k', x0', x1', x2', n0', n1', n2'⟩ (.slice a' len' cap')) := by rw [← hW1]; exact Blk.new _ _ _
      rw [show wr.alloc (.cells #[.int .i64 k', .int .i64 (isV x0'), .int .i64 n0', .int .i64 (isV x1'), .int .i64 n1', .int .i64 (isV x2'), .int .i64 n2', .slice a' len' cap'] 77) = W1 from hW1]
      have KD := Lib.hid KW.drew
      have e0 := by0.cell 0
      have e1 := by0.cell 1
      have e2 := by0.cell 2
      have e3 := by0.cell 3
      have e4 := by0.cell 4
      have e5 := by0.cell 5
      have e6 := by0.cell 6
      have e7 := by0.cell 7
      simp at e0 e1 e2 e3 e4 e5 e6 e7
      have hj0 : (0 : Int) ≤ (j : Int) := by omega
      have hjl : (j : Int) ≤ (len : Int) := by omega
      have hjc : (j : Int) ≤ (cap : Int) := by omega
      have hjc2 : j ≤ cap := by omega
      have RND : ∀ t2 d2 a2 c2 w2, TsAt w2 (okM W1.drew.heap.size w2) (.slice t2 tn' d2) jts → SHolds w2 (okM W1.drew.heap.size w2) (.slice a2 sn' c2) jsb → Kept Nil W1.drew w2 → ∃ a3 n3 c3 w3, (Builtin.append_ #[39, 39] 39 #[.slice au j cu, .slice (some ⟨w2.heap.size, 0, none⟩) 1 1]).run Try.prog (w2.alloc (.cells (arrS ⟨jk, jk0, jk1, jk2, jts⟩ (.slice t2 tn' d2) (.slice a2 sn' c2)) 54)) = .ok (.slice a3 n3 c3) w3 ∧
          GB kS 54 w3 w.heap.size (.slice a3 n3 c3) (ps ++ [(.mk ⟨jk, jk0, jk1, jk2, jts⟩ jsb, .slice t2 tn' d2, .slice a2 sn' c2)]) ∧ Kept Nil w w3 := fun t2 d2 a2 c2 w2 h1 h2 k2 => by
        have k02 : Kept Nil wr w2 := KD.out.trans k2 (fun _ _ g => g)
        have hsz := HK.out.size
        have hs0 := KD.out.size
        have hs2 := k2.size
        have hq : kS.K w2 (okN w.heap.size w2 (.slice au j cu)) (St.mk ⟨jk, jk0, jk1, jk2, jts⟩ jsb, .slice t2 tn' d2, .slice a2 sn' c2) := kS.mono (ok := okM W1.drew.heap.size w2) ⟨h1, h2⟩ (fun b' o' hb' => ⟨hb'.less (by omega), fun eo => by have := HGB.out.lt b' eo; have := hb'.1; omega⟩)
        obtain ⟨a3, n3, c3, w3, r3, g3, k3⟩ := GB.append_one (P := Try.prog) (t := 39) elsQ 39 (HGB.out.kept k02) (St.mk ⟨jk, jk0, jk1, jk2, jts⟩ jsb, .slice t2 tn' d2, .slice a2 sn' c2) (arrS ⟨jk, jk0, jk1, jk2, jts⟩ (.slice t2 tn' d2) (.slice a2 sn' c2)) rfl 54 hq (by omega) (by omega)
        exact ⟨a3, n3, c3, w3, r3, g3, (HK.out.trans k02 (fun _ _ g => g)).trans k3 (fun i hi e => by have := HGB.out.base i e; omega)⟩
      have HF := Lib.hid RND
      clear hW1 KW by0 RND
      go_region_law (first
        | (refine step_append_run rfl (.tmp 13) (.tmp 19) 39 rfl _ _ rfl rfl r3 ?_)
        | (go_simp; go_at_call 35; refine (HX.out _ KD.out).mono ?_; rintro e w2 ⟨t2, d2, a2, c2, rfl, h1, h2, k2⟩; obtain ⟨a3, n3, c3, w3, r3, G3, K3⟩ := HF.out t2 d2 a2 c2 w2 h1 h2 k2; have G3' := Lib.hid G3; have K3' := Lib.hid K3; clear G3 K3 h1 h2 k2))
      all_goals
        go_wp2_with fail
        go_roundw
        case rel =>
          refine ⟨j + 1, ps ++ [(.mk ⟨jk, jk0, jk1, jk2, jts⟩ jsb, .slice t2 tn' d2, .slice a2 sn' c2)], by omega, by go_num, ?_, G3'.out, K3'.out⟩
          rw [trS_append, HP.out, HN.out]; rfl
        case measure => simp [intOf]; omega
    · obtain rfl : len = j := by omega
      have HE : Hid (trS ps = stL l []) := Lib.hid (by rw [HP.out, ← HL.out]; simp)
      go_wp2_with fail
      go_ret
      have hh := HGB.out.sholds
      rw [HE.out] at hh
      exact ⟨au, cu, by rw [HSL.out]; rfl, by rw [HSL.out]; exact hh, HK.out⟩
end
section
open Go.RowKit
set_option maxRecDepth 100000

theorem ORow.seenR {w : World} {B n cap : Nat} {a : Option Addr} {ps : Prs} (h : ORow cR 77 w B (.slice a n cap) ps) : n = ps.length ∧ n ≤ cap ∧ ∀ b o, a = some ⟨b, o, none⟩ → b < w.heap.size := by
  rcases h.2 with ⟨e1, e0⟩ | ⟨g, c, cur, e1, hb, hg, hn, _⟩
  · injection e1 with e1 e2 e3
    subst e1 e2 e3
    exact ⟨e0.symm, Nat.le_refl _, fun b o e => by cases e⟩
  · injection e1 with e1 e2 e3
    subst e1 e2 e3
    exact ⟨rfl, hn, fun b o e => by cases e; exact (Array.getElem?_eq_some_iff.1 hg).1⟩
/-- What is ahead of one of the Subs: the chain, and the Subs before it, in new memory. -/
theorem ref_begin {w W : World} (kW : Kept Nil w W) {chl subs : List Sh} {ac a : Option Addr} {cc len cap j : Nat} (h1 : Holds cR w (fun b _ => b < w.heap.size) (.slice ac chl.length cc) chl) (h2 : Holds cR w (fun b _ => b < w.heap.size) (.slice a len cap) subs) (hj : j ≤ len) (hl : chl.length + len ≤ 100) :
    ∃ a1 n1 c1 w1 a2 n2 c2 w2, (Builtin.append_ #[31, 31] 31 #[.slice none 0 0, .slice ac chl.length cc]).run Try.prog W = .ok (.slice a1 n1 c1) w1 ∧
      (Builtin.append_ #[31, 31] 31 #[.slice a1 n1 c1, .slice a j cap]).run Try.prog w1 = .ok (.slice a2 n2 c2) w2 ∧
      n2 = (chl ++ subs.take j).length ∧ Holds cR w2 (fun b _ => b < w2.heap.size) (.slice a2 n2 c2) (chl ++ subs.take j) ∧ Kept Nil W w1 ∧ Kept Nil W w2 := by
  have hws := kW.size
  obtain ⟨cps, hcps, hcl, hck⟩ := h1.pairs kindR
  obtain ⟨lps, hlps, hll, hlk⟩ := (h2.first hj).pairs kindR
  have hcn : cps.length = chl.length := by rw [← tr_len, hcps]
  have hfl := h2.fits.1
  have hln : lps.length = j := by rw [← tr_len, hlps, List.length_take]; omega
  have hcl' : Lies cR W (.slice ac chl.length cc) cps := by rw [← hcn] at hcl ⊢; exact At.keptN hcl kW
  obtain ⟨u1, w1, r1, o1, k1, _⟩ := ORow.append (P := Try.prog) (ok := fun b _ => b < W.heap.size) elsR kindR 31 (ORow.nil W : ORow cR 77 W W.heap.size (.slice none 0 0) []) hcl' (fun p hp => ((hck p hp).keptN kW).mono (fun b o hb => by omega)) (by simp; omega) (Nat.le_refl _)
  have kk1 : Kept Nil W w1 := (Kept.refl Nil W).trans k1 (fun i hi e => by cases e)
  have hs1 := kk1.size
  obtain ⟨a1, n1, c1, rfl⟩ : ∃ a n c, u1 = .slice a n c := by obtain ⟨x, y, e⟩ := (At.own o1).shape; exact ⟨x, _, y, e⟩
  rw [List.nil_append] at o1
  have hll' : Lies cR w1 (.slice a j cap) lps := by rw [← hln] at hll ⊢; exact At.keptN (At.keptN hll kW) kk1
  obtain ⟨u2, w2, r2, o2, k2, _⟩ := ORow.append (P := Try.prog) (ok := fun b _ => b < W.heap.size) elsR kindR 31 o1 hll' (fun p hp => (((hlk p hp).keptN kW).keptN kk1).mono (fun b o hb => by omega)) (by omega) (by omega)
  obtain ⟨a2, n2, c2, rfl⟩ : ∃ a n c, u2 = .slice a n c := by obtain ⟨x, y, e⟩ := (At.own o2).shape; exact ⟨x, _, y, e⟩
  have hs2 := k2.size
  have nf : ∀ b, b < W.heap.size → ¬ ((Value.slice a1 n1 c1).ownBlock = some b) := fun b hb e => by have := (ownsBlk o1 b e).1; omega
  have hkk : Kids cR w2 (fun b _ => b < w2.heap.size) (cps ++ lps) := fun p hp => by
    have h0 : Holds cR w (fun b _ => b < w.heap.size) p.2 p.1.subs := by
      rcases List.mem_append.1 hp with hp | hp
      · exact hck p hp
      · exact hlk p hp
    exact ((((h0.keptN kW).keptN kk1).kept k2 (fun b _ hb e => nf b (by omega) e))).mono (fun b o hb => by omega)
  obtain ⟨sn1, sn2, sn3⟩ := ORow.seenR o2
  have hh := Lies.holds kindR (ok := fun b _ => b < w2.heap.size) (a := a2) (n := n2) (cap := c2) (by have := At.own o2; rw [sn1] at this ⊢; exact this) hkk sn2 (fun b o e => sn3 b o e)
  rw [tr_append, hcps, hlps] at hh
  exact ⟨a1, n1, c1, w1, a2, n2, c2, w2, r1, r2, hh.fits.1, hh, kk1, kk1.trans k2 (fun i hi e => nf i hi e)⟩
theorem Holds.inbR {w : World} {ok : Nat → Nat → Prop} {v : Value} {l : List Sh} (h : Holds cR w ok v l) : Holds cR w (fun b _ => b < w.heap.size) v l := by
  induction h with
  | nil a cap => exact .nil a cap
  | row b o cap subs u hn hok hr _ ih =>
    rcases Nat.eq_zero_or_pos subs.length with h0 | hpos
    · obtain rfl := List.length_eq_zero_iff.1 h0
      exact .nil _ _
    · exact .row b o cap subs u hn (World.block_lt_of_cell? w _ (hr 0 _ (List.getElem?_eq_getElem hpos) 0 _ rfl)) hr ih
set_option maxHeartbeats 8000000 in
theorem ofNcc_any (x0 x1 x2 : Bool) (n0 n1 n2 : Int) (subs : List Sh) (IH : Hid (∀ x ∈ subs, OfS x)) (ok1 ok2 : Nat → Nat → Prop) (chl : List Sh) (ac : Option Addr) (cc : Nat) (a : Option Addr) (cap : Nat) (w : World) (h1 : Holds cR w ok1 (.slice ac chl.length cc) chl) (h2 : Holds cR w ok2 (.slice a subs.length cap) subs) (hc : chl.length + countL subs ≤ 100) (hk : ∃ d, chkL subs d = 0) :
    Calls Try.prog 35 #[.slice ac chl.length cc, vR ⟨3, x0, x1, x2, n0, n1, n2⟩ (.slice a subs.length cap)] w (StEnd ⟨3, 0, 0, 0, []⟩ (stL subs chl) w) := by
  have hcl := length_countL subs
  obtain ⟨len, hl1⟩ : ∃ n, subs.length = n := ⟨_, rfl⟩
  have hfit := h2.fits.2
  rw [hl1] at h2 hfit hcl ⊢
  have HL1 := Lib.hid hl1
  have HC1 : Hid (Holds cR w (fun b _ => b < w.heap.size) (.slice ac chl.length cc) chl) := Lib.hid h1.inbR
  have HC2 : Hid (Holds cR w (fun b _ => b < w.heap.size) (.slice a len cap) subs) := Lib.hid h2.inbR
  have HC := Lib.hid hc
  have HKd := Lib.hid hk
  have hLen : len ≤ 100 := by omega
  have hchn : chl.length ≤ 100 := by omega
  obtain ⟨n1', hn1⟩ : ∃ n, chl.length = n := ⟨_, rfl⟩
  have HBeg : Hid (∀ W, Kept Nil w W → ∀ j, j ≤ len → ∃ a1 n1 c1 w1 a2 n2 c2 w2, (Builtin.append_ #[31, 31] 31 #[.slice none 0 0, .slice ac n1' cc]).run Try.prog W = .ok (.slice a1 n1 c1) w1 ∧
      (Builtin.append_ #[31, 31] 31 #[.slice a1 n1 c1, .slice a j cap]).run Try.prog w1 = .ok (.slice a2 n2 c2) w2 ∧
      n2 = (chl ++ subs.take j).length ∧ Holds cR w2 (fun b _ => b < w2.heap.size) (.slice a2 n2 c2) (chl ++ subs.take j) ∧ Kept Nil W w1 ∧ Kept Nil W w2) := Lib.hid fun W kW j hj => by
    have := ref_begin kW HC1.out HC2.out hj (by omega)
    rwa [hn1] at this
  have HN1 := Lib.hid hn1
  rw [hn1]
  have R0 := Lib.hid ((Two2.start w 77 (arrR ⟨3, x0, x1, x2, n0, n1, n2⟩ (.slice a len cap)) 54 zS).alloc (.cells (arrS ⟨3, 0, 0, 0, []⟩ (.slice none 0 0) (.slice none 0 0)) 54))
  have B0 : Hid (Blk (((w.alloc (.cells (arrR ⟨3, x0, x1, x2, n0, n1, n2⟩ (.slice a len cap)) 77)).alloc (.cells zS 54)).alloc (.cells (arrS ⟨3, 0, 0, 0, []⟩ (.slice none 0 0) (.slice none 0 0)) 54)) (w.heap.size + 1 + 1) 54 (arrS ⟨3, 0, 0, 0, []⟩ (.slice none 0 0) (.slice none 0 0))) := Lib.hid (by
    have := Blk.new ((w.alloc (.cells (arrR ⟨3, x0, x1, x2, n0, n1, n2⟩ (.slice a len cap)) 77)).alloc (.cells zS 54)) 54 (arrS ⟨3, 0, 0, 0, []⟩ (.slice none 0 0) (.slice none 0 0))
    simpa using this)
  clear h1 h2 hl1 hc hk hcl hn1 hchn
  go_enter Try.func35, Try.ntmps35
  go_wp2_with fail
  go_loopw [22] (fun i wr => ∃ (j : Nat) (v : Value) (ps : List SQ), j ≤ len ∧ i = .int .i64 j ∧ trS ps = stL (subs.take j) chl ∧ Two2 w 77 (arrR ⟨3, x0, x1, x2, n0, n1, n2⟩ (.slice a len cap)) 54 zS wr ∧ Blk wr (w.heap.size + 1 + 1) 54 (arrS ⟨3, 0, 0, 0, []⟩ (.slice none 0 0) v) ∧ GB kS 54 wr (w.heap.size + 1 + 1 + 1) v ps) (fun i _ => len - (intOf i).toNat)
  case atStart => exact ⟨0, .slice none 0 0, [], by omega, rfl, by rw [List.take_zero, stL_nil]; rfl, R0.out, B0.out, GB.nil _⟩
  case round =>
    obtain ⟨j, v, ps, hj, rfl, hps, hR, hB, hG⟩ := hrel
    have HR := Lib.hid hR
    have HB := Lib.hid hB
    have HG := Lib.hid hG
    have HP := Lib.hid hps
    have hs : w.heap.size + 1 + 1 < wr.heap.size := hB.lt
    clear hR hB hG hps R0 B0
    have hpl0 : ps.length = j := by have := congrArg List.length HP.out; rw [trS_len, stL_length, List.length_take] at this; have := HL1.out; omega
    obtain ⟨sa, sc, rfl, hsc⟩ := HG.out.shape
    rw [hpl0] at HB HG hsc
    by_cases hlt : j < len
    · obtain ⟨⟨⟨k', x0', x1', x2', n0', n1'', n2'⟩, sb⟩, hx⟩ : ∃ x, subs[j]? = some x := ⟨_, List.getElem?_eq_getElem (by have := HL1.out; omega)⟩
      obtain ⟨b, o, a', cap', rfl, _, hr, hsb⟩ := (HC2.out.keptN HR.out.kept).at_ hx
      have hcm := count_mem (List.mem_of_getElem? hx)
      have hjl : (subs.take j).length = j := by rw [List.length_take]; have := HL1.out; omega
      have hsum := countL_take_succ hx
      have hle := countL_take_le subs (j + 1)
      have hlj := length_countL (subs.take j)
      obtain ⟨W1, hW1⟩ : ∃ W1, wr.alloc (.cells (arrR ⟨k', x0', x1', x2', n0', n1'', n2'⟩ (.slice a' sb.length cap')) 77) = W1 := ⟨_, rfl⟩
      have KW : Kept Nil wr W1 := by rw [← hW1]; exact (Kept.refl Nil wr).alloc _
      have by0 : Blk W1 wr.heap.size 77 (arrR ⟨k', x0', x1', x2', n0', n1'', n2'⟩ (.slice a' sb.length cap')) := by rw [← hW1]; exact Blk.new _ _ _
      obtain ⟨a1, m1, c1, w1, a2, m2, c2, w2, r1, r2, hm2, hh2, k1, k2⟩ := HBeg.out W1 (HR.out.kept.trans KW (fun _ _ g => g)) j (by omega)
      have kw2 : Kept Nil wr w2 := KW.trans k2 (fun _ _ g => g)
      have HX : Hid (∀ W, Kept Nil w2 W → Calls Try.prog 35 #[.slice a2 m2 c2, vR ⟨k', x0', x1', x2', n0', n1'', n2'⟩ (.slice a' sb.length cap')] W (StEnd ((Sh.mk ⟨k', x0', x1', x2', n0', n1'', n2'⟩ sb).st (chl ++ subs.take j)).hd ((Sh.mk ⟨k', x0', x1', x2', n0', n1'', n2'⟩ sb).st (chl ++ subs.take j)).subs W)) := Lib.hid fun W kW2 => by
        have := IH.out _ (List.mem_of_getElem? hx) (chl ++ subs.take j) _ _ a2 c2 a' cap' W (by rw [← hm2]; exact hh2.keptN kW2) (hsb.keptN (kw2.trans kW2 (fun _ _ g => g))) (by rw [List.length_append, hjl]; have := HC.out; omega) (by obtain ⟨d, hd⟩ := HKd.out; exact ⟨d, chkL_all.1 hd _ (List.mem_of_getElem? hx)⟩)
        rw [← hm2] at this
        exact this
      have HN := Lib.hid (stL_take_succ (ch := chl) hx)
      have HRow : Hid (wr.rangeAt b (o + j * 8) (cR ⟨k', x0', x1', x2', n0', n1'', n2'⟩ (.slice a' sb.length cap'))) := Lib.hid hr
      have RW := Lib.hid (HR.out.step kw2)
      have BW := Lib.hid (HB.out.kept kw2 id)
      have GW := Lib.hid (HG.out.kept kw2)
      have RA := (HR.out.step (KW.trans k1 (fun _ _ g => g))).b0.cell 7
      have RB7 := RW.out.b0.cell 7
      have by2 := by0.kept k2 id
      have e0 := by2.cell 0
      have e1 := by2.cell 1
      have e2 := by2.cell 2
      have e3 := by2.cell 3
      have e4 := by2.cell 4
      have e5 := by2.cell 5
      have e6 := by2.cell 6
      have e7 := by2.cell 7
      have x5 := BW.out.cell 5
      simp at e0 e1 e2 e3 e4 e5 e6 e7 x5 RA RB7
      have hXW : w.heap.size + 1 + 1 < w2.heap.size := by have := kw2.size; omega
      have hwr2 : wr.heap.size < w2.heap.size := by2.lt
      have hY1 : w.heap.size < w1.heap.size := (HR.out.step (KW.trans k1 (fun _ _ g => g))).b0.lt
      unfold StEnd at HX
      generalize (Sh.mk ⟨k', x0', x1', x2', n0', n1'', n2'⟩ sb).st (chl ++ subs.take j) = sj at HX HN
      obtain ⟨⟨jk, jk0, jk1, jk2, jts⟩, jsb⟩ := sj
      replace HX : Hid (∀ W, Kept Nil w2 W → Calls Try.prog 35 #[.slice a2 m2 c2, vR ⟨k', x0', x1', x2', n0', n1'', n2'⟩ (.slice a' sb.length cap')] W (fun e w' => ∃ t2 d2 a2 c2, e = .returned (vS ⟨jk, jk0, jk1, jk2, jts⟩ (.slice t2 jts.length d2) (.slice a2 jsb.length c2)) ∧ TsAt w' (okM W.heap.size w') (.slice t2 jts.length d2) jts ∧ SHolds w' (okM W.heap.size w') (.slice a2 jsb.length c2) jsb ∧ Kept Nil W w')) := HX
      have RR1 := Lib.hid r1
      have RR2 := Lib.hid r2
      clear hx hr hsb hcm hjl hsum hle hlj KW by0 by2 hm2 hh2 k1 k2 kw2 r1 r2
      generalize jts.length = tn' at HX
      generalize jsb.length = sn' at HX
      generalize sb.length = len' at HX HRow e7 hW1
      have hj0 : (0 : Int) ≤ (j : Int) := by omega
      have hjl : (j : Int) ≤ (len : Int) := by omega
      have hjc : (j : Int) ≤ (cap : Int) := by omega
      have hjc2 : j ≤ cap := by omega
      have KD := Lib.hid (Kept.refl Nil w2).drew
      have RND : Hid (∀ t2 d2 a2 c2 w3, TsAt w3 (okM w2.drew.heap.size w3) (.slice t2 tn' d2) jts → SHolds w3 (okM w2.drew.heap.size w3) (.slice a2 sn' c2) jsb → Kept Nil w2.drew w3 → _) := Lib.hid fun t2 d2 a2 c2 w3 h1 h2 k3 =>
        GB.round (P := Try.prog) (t := 39) (D := kS) elsQ 39 (Nat.lt_succ_self _) (by omega) BW.out (i := 5) rfl GW.out (by omega) ((Kept.refl Nil w2).drew) k3 (.mk ⟨jk, jk0, jk1, jk2, jts⟩ jsb, .slice t2 tn' d2, .slice a2 sn' c2) (arrS ⟨jk, jk0, jk1, jk2, jts⟩ (.slice t2 tn' d2) (.slice a2 sn' c2)) rfl 54 ⟨h1, h2⟩
      subst hW1
      go_wp2_with (first
        | ((with_reducible refine wpList_load_R rfl (.tmp 25) rfl _ _ rfl ⟨k', x0', x1', x2', n0', n1'', n2'⟩ (.slice a' len' cap') ?_ ?_)
           · exact HRow.out)
        | (at_builtin; refine wpList_append_run rfl (.tmp 27) (.tmp 28) 31 rfl _ _ rfl rfl RR1.out ?_)
        | (at_builtin; refine wpList_append_run rfl (.tmp 30) (.tmp 34) 31 rfl _ _ rfl rfl RR2.out ?_))
      go_region_law (first
        | (refine step_append_run rfl (.tmp 37) (.tmp 41) 39 rfl _ _ rfl rfl r3 ?_)
        | (go_simp; go_at_call 35; refine (HX.out _ KD.out).mono ?_; rintro e w4 ⟨t2, d2, a5, c5, rfl, h1, h2, k4⟩; obtain ⟨c52, hX2, a3, n3, c3, w3, r3, c53, f53, hX3, F0, F1, F2⟩ := RND.out t2 d2 a5 c5 w4 h1 h2 k4; have F0' := Lib.hid F0; have F1' := Lib.hid F1; have F2' := Lib.hid F2; clear F0 F1 F2 h1 h2 k4))
      all_goals
        have R3 := Lib.hid (RW.out.far F0'.out (fun i e => by
          rcases e with e | e
          · omega
          · have := GW.out.base i e; omega))
        have B3 : Hid (Blk (w3.setCell ⟨w.heap.size + 1 + 1, 5, none⟩ (.slice a3 n3 c3)) (w.heap.size + 1 + 1) 54 (arrS ⟨3, 0, 0, 0, []⟩ (.slice none 0 0) (.slice a3 n3 c3))) := Lib.hid (by simpa using F1'.out)
        go_wp2_with fail
        go_roundw
        case rel =>
          refine ⟨j + 1, _, ps ++ [(.mk ⟨jk, jk0, jk1, jk2, jts⟩ jsb, .slice t2 tn' d2, .slice a5 sn' c5)], by omega, by go_num, ?_, R3.out, B3.out, F2'.out⟩
          rw [trS_append, HP.out, HN.out]; rfl
        case measure => simp [intOf]; omega
    · obtain rfl : len = j := by omega
      have HE2 : Hid (trS ps = stL subs chl) := Lib.hid (by rw [HP.out, ← HL1.out]; simp)
      have HSL : Hid ((stL subs chl).length = len) := Lib.hid (by rw [stL_length, HL1.out])
      go_wp2_with (first
        | ((with_reducible refine wpList_load_Q rfl (.tmp 5) rfl _ _ rfl ⟨3, 0, 0, 0, []⟩ (.slice none 0 0) (.slice sa len sc) ?_ ?_)
           · exact World.rangeAt_of_block HB.out 0 6)
        | ((with_reducible refine wpList_store_Q rfl (.tmp 4) _ rfl _ ⟨3, 0, 0, 0, []⟩ _ _ _ _ _ _ rfl rfl zS rfl ?_ ?_)
           · exact HR.out.b1
           intro W kW bW
           have KW := Lib.hid kW
           have BW := Lib.hid bW
           clear kW bW))
      refine bodyPost_ret (results_cell_row Try.results35 _ _ _ _ _ _ _ rfl BW.out Try.underlying54 rfl (by kernel_rfl)) rfl ?_
      have hh := HG.out.sholds
      rw [HE2.out] at hh
      refine ⟨none, 0, sa, sc, by rw [HSL.out]; rfl, .nil none 0, ?_, HR.out.kept.trans KW.out (fun i hi e => by omega)⟩
      rw [HSL.out]
      exact (hh.kept KW.out (fun b o hb e => by have := hb.1; omega)).mono (fun b o hb => (hb.kept KW.out (fun e => by have := hb.1; omega)).less (by omega))
end
section
open Go.RowKit
set_option maxRecDepth 100000

structure OfR (w : World) (arr : Array Value) (k K0 K1 K2 : Int) (u : Value) (ts : List Tst) (W : World) : Prop where
  t : Two2 w 77 arr 54 zS W
  b : Blk W (w.heap.size + 1 + 1) 54 (arrS ⟨k, K0, K1, K2, []⟩ u (.slice none 0 0))
  g : GB kT 89 W (w.heap.size + 1 + 1 + 1) u ts
section
variable {w W W' : World} {arr : Array Value} {k K0 K1 K2 : Int} {u : Value} {ts : List Tst}
theorem OfR.step (r : OfR w arr k K0 K1 K2 u ts W) (kk : Kept Nil W W') : OfR w arr k K0 K1 K2 u ts W' := ⟨r.t.step kk, r.b.kept kk id, r.g.kept kk⟩
theorem OfR.far (r : OfR w arr k K0 K1 K2 u ts W) (i : Nat) (v : Value) : Two2 w 77 arr 54 zS (W.setCell ⟨w.heap.size + 1 + 1, i, none⟩ v) ∧ GB kT 89 (W.setCell ⟨w.heap.size + 1 + 1, i, none⟩ v) (w.heap.size + 1 + 1 + 1) u ts :=
  have kk := (Kept.refl (fun i => i = w.heap.size + 1 + 1) W).setCell ⟨w.heap.size + 1 + 1, i, none⟩ (.inl rfl) v
  ⟨⟨r.t.kept.trans kk (fun i hi e => by omega), r.t.b0.kept kk (fun e => by omega), r.t.b1.kept kk (fun e => by omega)⟩, r.g.keptF kk (fun k e => by omega)⟩
theorem OfR.key0 (r : OfR w arr k K0 K1 K2 u ts W) (n : Int) : OfR w arr k n K1 K2 u ts (W.setCell ⟨w.heap.size + 1 + 1, 1, none⟩ (.int .i64 n)) := ⟨(r.far _ _).1, by simpa using r.b.set_ 1 (.int .i64 n), (r.far _ _).2⟩
theorem OfR.key1 (r : OfR w arr k K0 K1 K2 u ts W) (n : Int) : OfR w arr k K0 n K2 u ts (W.setCell ⟨w.heap.size + 1 + 1, 2, none⟩ (.int .i64 n)) := ⟨(r.far _ _).1, by simpa using r.b.set_ 2 (.int .i64 n), (r.far _ _).2⟩
theorem OfR.key2 (r : OfR w arr k K0 K1 K2 u ts W) (n : Int) : OfR w arr k K0 K1 n u ts (W.setCell ⟨w.heap.size + 1 + 1, 3, none⟩ (.int .i64 n)) := ⟨(r.far _ _).1, by simpa using r.b.set_ 3 (.int .i64 n), (r.far _ _).2⟩
/-- A test is put behind the others. -/
theorem OfR.test (r : OfR w arr k K0 K1 K2 u ts W) (hl : ts.length ≤ 100) (t : Tst) : ∃ a3 n3 c3 w3, (Builtin.append_ #[52, 52] 52 #[u, .slice (some ⟨W.heap.size, 0, none⟩) 1 1]).run Try.prog (W.alloc (.cells #[.int .i64 t.1, .int .i64 t.2.1, .int .i64 t.2.2] 89)) = .ok (.slice a3 n3 c3) w3 ∧
    w3.cell? ⟨w.heap.size + 1 + 1, 4, none⟩ = some u ∧ w3.frozen? ⟨w.heap.size + 1 + 1, 4, none⟩ = false ∧ w.heap.size + 1 + 1 < w3.heap.size ∧ OfR w arr k K0 K1 K2 (.slice a3 n3 c3) (ts ++ [t]) (w3.setCell ⟨w.heap.size + 1 + 1, 4, none⟩ (.slice a3 n3 c3)) := by
  obtain ⟨a, c, rfl, _⟩ := r.g.shape
  have hX := r.b.lt
  obtain ⟨_, _, a3, n3, c3, w3, r3, y4, f4, hX3, k3, b3, g3⟩ := GB.round (P := Try.prog) (t := 52) (D := kT) elsU 52 (Nat.lt_succ_self _) (by omega) r.b (i := 4) rfl r.g (by omega) (Kept.refl Nil W) (Kept.refl Nil W) t #[.int .i64 t.1, .int .i64 t.2.1, .int .i64 t.2.2] rfl 89 trivial
  exact ⟨a3, n3, c3, w3, r3, y4, f4, hX3, r.t.far k3 (fun i e => by
    rcases e with e | e
    · omega
    · have := r.g.base i e; omega), by simpa using b3, g3⟩
end
end
end Go.Proofs.Ytiihjlafhiaigaa
