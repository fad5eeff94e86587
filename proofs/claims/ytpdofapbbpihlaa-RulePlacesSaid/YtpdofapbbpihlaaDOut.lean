/- Layer rule: the reference's rest and Out. -/
import Derived.Test.YtpdofapbbpihlaaCRefHas
import Derived.Test.YtpdofapbbpihlaaDRuleM
namespace Go.Proofs.Ytpdofapbbpihlaa
open Go.RowKit

/-- All in a list are of moderate size. -/
theorem mem_count {l : List Sh} (hc : countL l ≤ 5000) {x : Sh} (hx : x ∈ l) : x.count ≤ 5000 := by have := count_mem hx; omega
set_option maxHeartbeats 2000000 in
theorem refRest_any (l : List Sh) (len : Nat) (HL : Hid (l.length = len)) (hLen : len ≤ 5000) (HC : Hid (countL l ≤ 5000)) (ok : Nat → Nat → Prop) (a : Option Addr) (cap : Nat) (w : World) (HH : Hid (Holds cR w ok (.slice a len cap) l)) (n : Nat) (v : Int) :
    Calls Try.prog 43 #[.slice a len cap, .int .i64 n, .int .i64 v] w fun e w' => e = .returned (.bool (hasL (l.drop n) v)) ∧ Kept Nil w w' := by
  go_enter Try.func43, Try.ntmps43
  go_wp2_with fail
  go_loopw [7] (fun i wr => ∃ j : Nat, n ≤ j ∧ (j ≤ len ∨ j = n) ∧ i = .int .i64 j ∧ hasL (l.drop n) v = hasL (l.drop j) v ∧ Kept Nil w wr) (fun i _ => len - (intOf i).toNat)
  case atStart => exact ⟨n, by omega, .inr rfl, rfl, rfl, Kept.refl _ _⟩
  case round =>
    obtain ⟨j, hnj, hj, rfl, hch, hK⟩ := hrel
    have HK := Lib.hid hK
    have HCh := Lib.hid hch
    have HJ := Lib.hid hj
    clear hK hch hj
    by_cases hlt : j < len
    · obtain ⟨⟨⟨k', x0', x1', x2', n0', n1', n2'⟩, sb⟩, hx⟩ : ∃ x, l[j]? = some x := ⟨_, List.getElem?_eq_getElem (by have := HL.out; omega)⟩
      obtain ⟨b, o, a', cap', rfl, hok, hr, hs⟩ := (HH.out.keptN HK.out).at_ hx
      have HX : Hid (∀ W, Kept Nil wr W → Calls Try.prog 42 #[vR ⟨k', x0', x1', x2', n0', n1', n2'⟩ (.slice a' sb.length cap'), .int .i64 v] W fun e w' => e = .returned (.bool ((Sh.mk ⟨k', x0', x1', x2', n0', n1', n2'⟩ sb).has v)) ∧ Kept Nil W w') := Lib.hid fun W kW => refHas_any (.mk ⟨k', x0', x1', x2', n0', n1', n2'⟩ sb) (mem_count HC.out (List.mem_of_getElem? hx)) v ok a' cap' W (hs.keptN kW)
      have HR := Lib.hid hr
      have HN := Lib.hid (hasL_drop hx v)
      clear hx hr hs hok
      generalize (Sh.mk ⟨k', x0', x1', x2', n0', n1', n2'⟩ sb).has v = q at HX HN
      generalize sb.length = len' at HR HX
      go_wp2_with ((with_reducible refine wpList_load_R rfl (.tmp 17) rfl _ _ rfl ⟨k', x0', x1', x2', n0', n1', n2'⟩ (.slice a' len' cap') ?_ ?_)
                   · exact HR.out)
      refine (HX.out _ (Kept.refl _ _)).mono ?_
      rintro e w2 ⟨rfl, k2⟩
      cases q
      · go_wp2_with fail
        go_roundw
        case rel => exact ⟨j + 1, by omega, .inl (by omega), by go_num, by rw [HCh.out, HN.out]; rfl, HK.out.trans k2 (fun _ _ g => g)⟩
        case measure => simp [intOf]; omega
      · go_wp2_with fail
        go_ret
        exact ⟨by rw [HCh.out, HN.out]; rfl, HK.out.trans k2 (fun _ _ g => g)⟩
    · have HE : Hid (hasL (l.drop j) v = false) := Lib.hid (by rw [List.drop_eq_nil_of_le (by have := HL.out; omega)]; rfl)
      have hd : decide ((j : Int) < (len : Int)) = false := decide_eq_false (by omega)
      go_wp2_with fail
      go_ret
      exact ⟨by rw [HCh.out, HE.out]; rfl, HK.out⟩
abbrev OutIH (l : List Sh) (v : Int) : Prop := ∀ hd sb, Sh.mk hd sb ∈ l → ∀ ok a cap w, Holds cR w ok (.slice a sb.length cap) sb →
  Calls Try.prog 27 #[.slice a sb.length cap, .int .i64 v] w fun e w' => e = .returned (.int .i64 (outL sb v)) ∧ Kept Nil w w'
set_option maxHeartbeats 2000000 in
theorem refOut_step (l : List Sh) (len : Nat) (HL : Hid (l.length = len)) (hLen : len ≤ 5000) (HC : Hid (countL l ≤ 5000)) (v : Int) (IH : Hid (OutIH l v)) (ok : Nat → Nat → Prop) (a : Option Addr) (cap : Nat) (w : World) (HH : Hid (Holds cR w ok (.slice a len cap) l)) :
    Calls Try.prog 27 #[.slice a len cap, .int .i64 v] w fun e w' => e = .returned (.int .i64 (outL l v)) ∧ Kept Nil w w' := by
  have CT := Lib.hid (fun W (kW : Kept Nil w W) (n : Nat) => refRest_any l len HL hLen HC ok a cap W (HH.out.keptN kW) n v)
  go_enter Try.func27, Try.ntmps27
  go_wp2_with fail
  go_loopw [9] (fun i wr => ∃ j : Nat, j ≤ len ∧ i = .int .i64 j ∧ outL l v = outL (l.drop j) v ∧ Kept Nil w wr) (fun i _ => len - (intOf i).toNat)
  case atStart => exact ⟨0, by omega, rfl, rfl, Kept.refl _ _⟩
  case round =>
    obtain ⟨j, hj, rfl, hch, hK⟩ := hrel
    have HK := Lib.hid hK
    have HCh := Lib.hid hch
    clear hK hch
    by_cases hlt : j < len
    · obtain ⟨⟨⟨k', x0', x1', x2', n0', n1', n2'⟩, sb⟩, hx⟩ : ∃ x, l[j]? = some x := ⟨_, List.getElem?_eq_getElem (by have := HL.out; omega)⟩
      obtain ⟨b, o, a', cap', rfl, hok, hr, hs⟩ := (HH.out.keptN HK.out).at_ hx
      have HX : Hid (∀ W, Kept Nil wr W → Calls Try.prog 42 #[vR ⟨k', x0', x1', x2', n0', n1', n2'⟩ (.slice a' sb.length cap'), .int .i64 v] W fun e w' => e = .returned (.bool ((Sh.mk ⟨k', x0', x1', x2', n0', n1', n2'⟩ sb).has v)) ∧ Kept Nil W w') := Lib.hid fun W kW => refHas_any (.mk ⟨k', x0', x1', x2', n0', n1', n2'⟩ sb) (mem_count HC.out (List.mem_of_getElem? hx)) v ok a' cap' W (hs.keptN kW)
      have HO : Hid (∀ W, Kept Nil wr W → Calls Try.prog 27 #[.slice a' sb.length cap', .int .i64 v] W fun e w' => e = .returned (.int .i64 (outL sb v)) ∧ Kept Nil W w') := Lib.hid fun W kW => IH.out _ _ (List.mem_of_getElem? hx) ok a' cap' W (hs.keptN kW)
      have HR := Lib.hid hr
      have HN : Hid (outL (l.drop j) v = if (Sh.mk ⟨k', x0', x1', x2', n0', n1', n2'⟩ sb).has v = false then outL (l.drop (j + 1)) v else if k' = 1 then 2 else if hasL (l.drop (j + 1)) v = true then 1 else if k' = 3 ∧ outL sb v = 1 then 1 else 0) := Lib.hid (outL_drop hx v)
      clear hx hr hs hok
      generalize (Sh.mk ⟨k', x0', x1', x2', n0', n1', n2'⟩ sb).has v = q at HX HN
      generalize outL sb v = oo at HO HN
      generalize sb.length = len' at HR HX HO
      have CT2 : Hid (∀ W, Kept Nil w W → Calls Try.prog 43 #[.slice (some ⟨b, o, none⟩) len cap, .int .i64 ((j : Int) + 1), .int .i64 v] W fun e w' => e = .returned (.bool (hasL (l.drop (j + 1)) v)) ∧ Kept Nil W w') := Lib.hid fun W kW => by
        have := CT.out W kW (j + 1)
        rwa [Int.natCast_add, show ((1 : Nat) : Int) = 1 from rfl] at this
      generalize hasL (l.drop (j + 1)) v = hr2 at CT2 HN
      have BK := Lib.hid (Blk.new wr 59 (arrR ⟨k', x0', x1', x2', n0', n1', n2'⟩ (.slice a' len' cap')))
      go_wp2_with ((with_reducible refine wpList_load_R rfl (.tmp 12) rfl _ _ rfl ⟨k', x0', x1', x2', n0', n1', n2'⟩ (.slice a' len' cap') ?_ ?_)
                   · exact HR.out)
      refine (HX.out _ ((Kept.refl Nil wr).alloc _)).mono ?_
      rintro e w2 ⟨rfl, k2⟩
      have B2 := Lib.hid (BK.out.kept k2 id)
      have K2 := Lib.hid (((Kept.refl Nil wr).alloc _).trans k2 (fun _ _ g => g))
      clear k2 BK
      cases q
      · go_wp2_with fail
        go_roundw
        case rel => exact ⟨j + 1, by omega, by go_num, by rw [HCh.out, HN.out]; simp, HK.out.trans K2.out (fun _ _ g => g)⟩
        case measure => simp [intOf]; omega
      · have c0 := B2.out.cell 0
        simp at c0
        by_cases hk1 : k' = 1
        · subst hk1
          go_wp2_with fail
          go_ret
          exact ⟨by rw [HCh.out, HN.out]; simp, HK.out.trans K2.out (fun _ _ g => g)⟩
        · have hk1' : (k' == 1) = false := by simpa using hk1
          go_wp2_with fail
          refine (CT2.out _ (HK.out.trans K2.out (fun _ _ g => g))).mono ?_
          rintro e w3 ⟨rfl, k3⟩
          have B3 := Lib.hid (B2.out.kept k3 id)
          have K3 := Lib.hid (K2.out.trans k3 (fun _ _ g => g))
          clear k3 c0
          cases hr2
          · have c0 := B3.out.cell 0
            have c7 := B3.out.cell 7
            simp at c0 c7
            by_cases hk3 : k' = 3
            · subst hk3
              go_wp2_with fail
              refine (HO.out _ K3.out).mono ?_
              rintro e w4 ⟨rfl, k4⟩
              by_cases ho : oo = 1
              · subst ho
                go_wp2_with fail
                go_ret
                exact ⟨by rw [HCh.out, HN.out]; simp, (HK.out.trans K3.out (fun _ _ g => g)).trans k4 (fun _ _ g => g)⟩
              · have ho' : (oo == 1) = false := by simpa using ho
                have HO2 := Lib.hid ho
                clear ho
                go_wp2_with fail
                go_ret
                exact ⟨by rw [HCh.out, HN.out]; simp [HO2.out], (HK.out.trans K3.out (fun _ _ g => g)).trans k4 (fun _ _ g => g)⟩
            · have hk3' : (k' == 3) = false := by simpa using hk3
              have HK3 := Lib.hid hk3
              have HK1 := Lib.hid hk1
              clear hk3 hk1
              go_wp2_with fail
              go_ret
              exact ⟨by rw [HCh.out, HN.out]; simp [HK3.out, HK1.out], HK.out.trans K3.out (fun _ _ g => g)⟩
          · have HK1 := Lib.hid hk1
            clear hk1
            go_wp2_with fail
            go_ret
            exact ⟨by rw [HCh.out, HN.out]; simp [HK1.out], HK.out.trans K3.out (fun _ _ g => g)⟩
    · obtain rfl : j = len := by omega
      have HE : Hid (outL (l.drop j) v = 0) := Lib.hid (by rw [← HL.out, List.drop_length, outL_nil])
      go_wp2_with fail
      go_ret
      exact ⟨by rw [HCh.out, HE.out]; rfl, HK.out⟩
theorem refOut_tree (v : Int) : ∀ s : Sh, s.count ≤ 5000 → ∀ ok a cap w, Holds cR w ok (.slice a s.subs.length cap) s.subs →
    Calls Try.prog 27 #[.slice a s.subs.length cap, .int .i64 v] w fun e w' => e = .returned (.int .i64 (outL s.subs v)) ∧ Kept Nil w w' := by
  refine Sh.ind fun hd subs ih hc ok a cap w h => ?_
  have hc' : 1 + countL subs ≤ 5000 := by simpa [Sh.count] using hc
  have hl := length_countL subs
  exact refOut_step subs _ rfl (by omega) (show _ ≤ _ by omega) v (fun hd' sb hx => ih _ hx (by have := count_mem hx; omega)) ok a cap w h
theorem refOut_any (v : Int) (l : List Sh) (hc : countL l ≤ 4999) (ok : Nat → Nat → Prop) (a : Option Addr) (cap : Nat) (w : World) (h : Holds cR w ok (.slice a l.length cap) l) :
    Calls Try.prog 27 #[.slice a l.length cap, .int .i64 v] w fun e w' => e = .returned (.int .i64 (outL l v)) ∧ Kept Nil w w' :=
  refOut_tree v (.mk zeroH l) (by simp only [Sh.count]; omega) ok a cap w h
end Go.Proofs.Ytpdofapbbpihlaa
