/- Trees at int: Up, Facts. -/
import Derived.Test.YtbaplplaokbnnaaMiG
namespace Go.Proofs.Ytbaplplaokbnnaa
open Go.RowKit Go.Maps Go.WideMaps
set_option maxRecDepth 100000

section
variable {w : World} {c : Nat → Nat} {p : Nat} {L : List (Tok Int)}
set_option maxHeartbeats 4000000 in
theorem up_i (h : Trei w c p L) (hwf : WF L) (hl : L.length ≤ 1000) {id : Int} (hw : (Lit.int .i64 id).wf = true) (at_ : Int) :
    Calls Try.prog 19 #[.pointer (some ⟨p, 0, none⟩), .int .i64 id, .int .i64 at_] w fun e w' => e = .returned (.tuple #[.int .i64 (upI L id at_), .bool (upI L id at_ != 0)]) ∧ Kept Nil w w' := by
  have C := Lib.hid (like_i w at_)
  have HT := Lib.hid h
  have HWF := Lib.hid hwf
  clear h hwf
  go_enter Try.func19, Try.ntmps19
  go_wp2_with fail
  refine C.out.mono ?_
  rintro e w1 ⟨rfl, rfl⟩
  clear C
  go_wp2_with fail
  go_loopg [1] (id.toNat + 1) (fun k s1 wr => ∃ x : Int, s1 = .int .i64 x ∧ (Lit.int .i64 x).wf = true ∧ upI L x at_ = upI L id at_ ∧ (if x = 0 then 0 else x.toNat + 1) ≤ k ∧ Kept Nil w1 wr)
  case atStart => exact ⟨id, rfl, hw, rfl, by split <;> omega, Kept.refl _ _⟩
  case round =>
    obtain ⟨x, rfl, hwx, hU, hM, hK⟩ := hrel
    have HK := Lib.hid hK
    have HU := Lib.hid hU
    have HMx := Lib.hid hM
    have HWx := Lib.hid hwx
    clear hU hM hK
    by_cases hx0 : x = 0
    · subst hx0
      have h0 : Hid (upI L id at_ = 0) := Lib.hid (by rw [← HU.out]; exact upI_none at_ (tok_low (by omega)))
      clear hwx
      go_wp2_with fail
      go_ret2
      rw [h0.out]
      exact ⟨rfl, HK.out⟩
    · have hb : (x != 0) = true := bne_iff_ne.2 hx0
      have CP := Lib.hid (place_i (HT.out.keptN HK.out) hwx)
      have CPa := fun W (k : Kept Nil w1 W) => Lib.hid (parent_i (HT.out.keptN k) hwx)
      cases ht : tok L x with
      | none =>
        have hp0 : parI L x = 0 := parI_none ht
        have hU0 : Hid (upI L x at_ = 0) := Lib.hid (upI_none at_ ht)
        rw [ht] at CP
        simp only [hp0] at CPa
        clear ht hp0 hwx
        have HX0 := Lib.hid hx0
        clear hx0
        go_wp2_with fail
        refine CP.out.mono ?_
        rintro e w2 ⟨rfl, k2⟩
        have K2 := Lib.hid (HK.out.trans k2 (fun _ _ e => e))
        have CP2 := CPa w2 K2.out
        clear k2 CP CPa
        go_wp2_with fail
        refine CP2.out.mono ?_
        rintro e w3 ⟨rfl, rfl⟩
        go_wp2_with fail
        go_roundg 0
        case measure => have := HMx.out; rw [if_neg HX0.out] at this; omega
        case rel => exact ⟨0, rfl, by decide, by rw [← HU.out, hU0.out]; exact upI_none at_ (tok_low (by omega)), by simp, K2.out⟩
      | some z =>
        have hl1 : locI_i L x = z.loc := by unfold locI_i; rw [ht]; rfl
        have hp1 : parI L x = z.par := parI_some ht
        have hbd := HWF.out x z ht
        rw [ht, hl1] at CP
        simp only [hp1] at CPa
        have HX0 := Lib.hid hx0
        have HZ := Lib.hid ht
        obtain ⟨pa, k, f, xo⟩ := z
        simp only at CP CPa hbd
        have HBd := Lib.hid hbd
        have hwp : (Lit.int .i64 pa).wf = true := by have := tok_bound HZ.out; exact WalkArith.wf_i64 (by omega)
        clear ht hl1 hp1 hwx hbd hx0
        by_cases hka : k = at_
        · subst hka
          go_wp2_with fail
          refine CP.out.mono ?_
          rintro e w2 ⟨rfl, k2⟩
          have K2 := Lib.hid (HK.out.trans k2 (fun _ _ e => e))
          clear k2 CP CPa
          go_wp2_with fail
          go_ret2
          have e : upI L id k = x := by rw [← HU.out]; exact upI_here HWF.out HZ.out rfl
          rw [e]
          exact ⟨by rw [bne_iff_ne.2 HX0.out]; rfl, K2.out⟩
        · have hkb : (k == at_) = false := by simpa using hka
          have HKa := Lib.hid hka
          clear hka
          go_wp2_with fail
          refine CP.out.mono ?_
          rintro e w2 ⟨rfl, k2⟩
          have K2 := Lib.hid (HK.out.trans k2 (fun _ _ e => e))
          have CP2 := CPa w2 K2.out
          clear k2 CP CPa
          go_wp2_with fail
          refine CP2.out.mono ?_
          rintro e w3 ⟨rfl, rfl⟩
          go_wp2_with fail
          go_roundg (if pa = 0 then 0 else pa.toNat + 1)
          case measure => have := HMx.out; rw [if_neg HX0.out] at this; have := HBd.out; have := tok_bound HZ.out; split <;> omega
          case rel => exact ⟨pa, rfl, hwp, by rw [← HU.out]; exact (upI_up HWF.out HZ.out HKa.out).symm, Nat.le_refl _, K2.out⟩
end
end Go.Proofs.Ytbaplplaokbnnaa
