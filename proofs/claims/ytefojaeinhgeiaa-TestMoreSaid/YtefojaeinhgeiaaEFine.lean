/- Layer scope: the law's own Fine: what it tells of is right, and few. -/
import Derived.Test.YtefojaeinhgeiaaERef
import Derived.Test.YtefojaeinhgeiaaCSmall
import Derived.Test.YtefojaeinhgeiaaCRefCheck
namespace Go.Proofs.Ytefojaeinhgeiaa
open Go.RowKit
set_option maxRecDepth 100000

/-- A bool; where it is true, something holds. -/
def YesEnd (T : Prop) (w : World) (e : Ending) (w' : World) : Prop := ∃ b : Bool, e = .returned (.bool b) ∧ Kept Nil w w' ∧ (b = true → T)
set_option maxHeartbeats 2000000 in
theorem fineL_any (l : List Sh) (ok : Nat → Nat → Prop) (a : Option Addr) (cap : Nat) (w : World) (h : Holds cA w ok (.slice a l.length cap) l) (hok : ∀ b o, ok b o → b < w.heap.size) :
    Calls Try.prog 6 #[.slice a l.length cap] w (YesEnd (countL l ≤ 16 ∧ chkL l 1 = 0) w) := by
  have CS : Hid (∀ w', Kept Nil w w' → Calls Try.prog 18 #[vA zeroH (.slice a l.length cap), .int .i64 18] w' fun e w'' => ∃ b : Bool, e = .returned (.bool b) ∧ Kept Nil w' w'' ∧ (b = true → 1 + countL l ≤ 18)) := Lib.hid fun w' k => by
    have := smallM_any 18 (by omega) (.mk zeroH l) ok a cap w' (h.keptN k) (fun b o hb => Nat.lt_of_lt_of_le (hok b o hb) k.size)
    refine this.mono ?_
    rintro e w'' ⟨b, h1, h2, h3⟩
    exact ⟨b, h1, h2, fun hb => by have := h3 hb; simpa only [Sh.count] using this⟩
  have CR : Hid (∀ w', Kept Nil w w' → countL l ≤ 5000 → Calls Try.prog 11 #[.slice a l.length cap] w' (ListEnd l w')) := Lib.hid fun w' k hc => refL_any l hc ok a cap w' (h.keptN k)
  obtain ⟨len, hlen⟩ : ∃ n, l.length = n := ⟨_, rfl⟩
  have HL := Lib.hid hlen
  rw [hlen] at CS CR ⊢
  clear h hok hlen
  go_enter Try.func6, Try.ntmps6
  go_wp2_with fail
  refine (CS.out _ (Kept.refl _ _)).mono ?_
  rintro e w1 ⟨b, rfl, k1, hb⟩
  have K1 := Lib.hid k1
  have HB := Lib.hid hb
  clear k1 hb CS
  cases b
  · go_wp2_with fail
    go_ret
    exact ⟨false, rfl, K1.out, fun h => by cases h⟩
  · have HCn : Hid (countL l ≤ 17) := Lib.hid (by have := HB.out rfl; omega)
    go_wp2_with fail
    refine (CR.out _ K1.out (by have := HCn.out; omega)).mono ?_
    rintro e w2 ⟨a2, c2, rfl, h2, k2⟩
    have K2 := Lib.hid (K1.out.trans k2 (fun _ _ g => g))
    have H2 := Lib.hid h2
    rw [HL.out] at H2 ⊢
    have hLen : len ≤ 17 := by have := length_countL l; have := HCn.out; have := HL.out; omega
    clear k2 h2 CR HB
    go_wp2_with fail
    go_loopw [3, 13] (fun n i wr => ∃ j m : Nat, j ≤ len ∧ i = .int .i64 j ∧ n = .int .i64 m ∧ m = countL (l.take j) ∧ chkL (l.take j) 1 = 0 ∧ Kept Nil w2 wr) (fun _ i _ => len - (intOf i).toNat)
    case atStart => exact ⟨0, 0, by omega, rfl, rfl, by rw [List.take_zero]; rfl, by rw [List.take_zero]; rfl, Kept.refl _ _⟩
    case round =>
      obtain ⟨j, m, hj, rfl, rfl, hm, hk, hK⟩ := hrel
      have HK := Lib.hid hK
      have HM := Lib.hid hm
      have HCk := Lib.hid hk
      clear hK hm hk
      by_cases hlt : j < len
      · obtain ⟨⟨⟨k', x0', x1', x2', n0', n1', n2'⟩, sb⟩, hx⟩ : ∃ x, l[j]? = some x := ⟨_, List.getElem?_eq_getElem (by have := HL.out; omega)⟩
        obtain ⟨b, o, a', cap', rfl, hok, hr, hs⟩ := (H2.out.keptN HK.out).at_ hx
        have hm5 : (Sh.mk ⟨k', x0', x1', x2', n0', n1', n2'⟩ sb).count ≤ 5000 := mem_count (Nat.le_trans HCn.out (show 17 ≤ 5000 by decide)) (List.mem_of_getElem? hx)
        have hsum := countL_take_succ hx
        have hle := countL_take_le l (j + 1)
        have HX1 : Hid (∀ W, Kept Nil wr W → Calls Try.prog 19 #[vR ⟨k', x0', x1', x2', n0', n1', n2'⟩ (.slice a' sb.length cap'), .int .i64 1] W fun e w' => e = .returned (.int .i64 ((Sh.mk ⟨k', x0', x1', x2', n0', n1', n2'⟩ sb).chk 1)) ∧ Kept Nil W w') := Lib.hid fun W kW => refCheck_any _ hm5 _ a' cap' W 1 (by omega) (hs.keptN kW)
        have HX2 : Hid (∀ W, Kept Nil wr W → Calls Try.prog 20 #[vR ⟨k', x0', x1', x2', n0', n1', n2'⟩ (.slice a' sb.length cap')] W fun e w' => e = .returned (.int .i64 ((Sh.mk ⟨k', x0', x1', x2', n0', n1', n2'⟩ sb).count : Int)) ∧ Kept Nil W w') := Lib.hid fun W kW => refSize_any _ hm5 _ a' cap' W (hs.keptN kW)
        have HRng := Lib.hid hr
        have h16 : m + (Sh.mk ⟨k', x0', x1', x2', n0', n1', n2'⟩ sb).count ≤ 17 := by have := HCn.out; have := HM.out; omega
        have HS : Hid (m + (Sh.mk ⟨k', x0', x1', x2', n0', n1', n2'⟩ sb).count = countL (l.take (j + 1))) := Lib.hid (by rw [HM.out, hsum])
        have HCk1 : Hid ((Sh.mk ⟨k', x0', x1', x2', n0', n1', n2'⟩ sb).chk 1 = 0 → chkL (l.take (j + 1)) 1 = 0) := Lib.hid fun h0 => chkL_all.2 fun s hs' => by
          rw [List.take_add_one, hx] at hs'
          rcases List.mem_append.1 hs' with hs' | hs'
          · exact chkL_all.1 HCk.out s hs'
          · simp at hs'; subst hs'; exact h0
        generalize (Sh.mk ⟨k', x0', x1', x2', n0', n1', n2'⟩ sb).count = c at HX2 HS h16
        generalize (Sh.mk ⟨k', x0', x1', x2', n0', n1', n2'⟩ sb).chk 1 = q at HX1 HCk1
        generalize sb.length = len' at HX1 HX2 HRng
        clear hx hr hs hok hm5 hsum hle
        have hw : IntKind.i64.wrap ((m : Int) + (c : Int)) = ((m + c : Nat) : Int) := by rw [IntKind.wrap_i64]; omega
        go_wp2_with ((with_reducible refine wpList_load_R rfl (.tmp 15) rfl _ _ rfl ⟨k', x0', x1', x2', n0', n1', n2'⟩ (.slice a' len' cap') ?_ ?_)
                     · exact HRng.out)
        have KA := Lib.hid ((Kept.refl Nil wr).alloc (.cells (arrR ⟨k', x0', x1', x2', n0', n1', n2'⟩ (.slice a' len' cap')) 45))
        refine (HX1.out _ KA.out).mono ?_
        rintro e w3 ⟨rfl, k3⟩
        have K3 := Lib.hid (KA.out.trans k3 (fun _ _ g => g))
        have B3 := Lib.hid ((Blk.new wr 45 (arrR ⟨k', x0', x1', x2', n0', n1', n2'⟩ (.slice a' len' cap'))).kept k3 id)
        clear k3 KA
        by_cases hq : q = 0
        · subst hq
          have HCk2 := Lib.hid (HCk1.out rfl)
          go_wp2_with ((with_reducible refine wpList_load_R rfl (.tmp 5) rfl _ _ rfl ⟨k', x0', x1', x2', n0', n1', n2'⟩ (.slice a' len' cap') ?_ ?_)
                       · exact World.rangeAt_of_block B3.out 0 8)
          refine (HX2.out _ K3.out).mono ?_
          rintro e w4 ⟨rfl, k4⟩
          have K4 := Lib.hid (HK.out.trans (K3.out.trans k4 (fun _ _ g => g)) (fun _ _ g => g))
          clear k4
          go_wp2_with fail
          go_roundw
          case rel => exact ⟨j + 1, m + c, by omega, by go_num, by go_num, HS.out, HCk2.out, K4.out⟩
          case measure => simp [intOf]; omega
        · have hq' : (q != 0) = true := by simpa using hq
          clear hq
          go_wp2_with fail
          go_ret
          exact ⟨false, rfl, K2.out.trans (HK.out.trans K3.out (fun _ _ g => g)) (fun _ _ g => g), fun h => by cases h⟩
      · obtain rfl : j = len := by omega
        have HE : Hid (l.take j = l) := Lib.hid (by rw [← HL.out]; simp)
        go_wp2_with fail
        go_ret
        refine ⟨decide ((m : Int) ≤ 16), rfl, K2.out.trans HK.out (fun _ _ g => g), fun h => ?_⟩
        have h1 := HM.out
        have h2 := HCk.out
        rw [HE.out] at h1 h2
        exact ⟨by have := of_decide_eq_true h; omega, h2⟩
end Go.Proofs.Ytefojaeinhgeiaa
