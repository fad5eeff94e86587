/- Trees at string: Up, Facts. -/
import Derived.Test.YtbaplplaokbnnaaMsG
namespace Go.Proofs.Ytbaplplaokbnnaa
open Go.RowKit Go.Maps Go.WideMaps
set_option maxRecDepth 100000

section
variable {w : World} {c : Nat → Nat} {p : Nat} {L : List (Tok ByteArray)}
set_option maxHeartbeats 4000000 in
theorem up_s (h : Tres w c p L) (hwf : WF L) (hl : L.length ≤ 1000) {id : Int} (hw : (Lit.int .i64 id).wf = true) (at_ : ByteArray) :
    Calls Try.prog 41 #[.pointer (some ⟨p, 0, none⟩), .int .i64 id, .string at_] w fun e w' => e = .returned (.tuple #[.int .i64 (upI L id at_), .bool (upI L id at_ != 0)]) ∧ Kept Nil w w' := by
  have C := Lib.hid (like_s w at_)
  have HT := Lib.hid h
  have HWF := Lib.hid hwf
  clear h hwf
  go_enter Try.func41, Try.ntmps41
  go_wp2_with fail
  refine C.out.mono ?_
  rintro e w1 ⟨rfl, rfl⟩
  clear C
  go_wp2_with fail
  go_loopg [1] (id.toNat + 1) (fun k s1 wr => ∃ x : Int, s1 = .int .i64 x ∧ (Lit.int .i64 x).wf = true ∧ upI L x at_ = upI L id at_ ∧ (if x = 0 then 0 else x.toNat + 1) ≤ k ∧ Kept Nil w1 wr)
  case atStart => exact ⟨id, rfl, hw, rfl, by split <;> omega, Kept.refl _ _⟩
  case round =>
    obtain ⟨x, rfl, hwx, hU, hM, hK⟩ := hrel
    have HK := Lib.hid hK
    have HU := Lib.hid hU
    have HMx := Lib.hid hM
    have HWx := Lib.hid hwx
    clear hU hM hK
    by_cases hx0 : x = 0
    · subst hx0
      have h0 : Hid (upI L id at_ = 0) := Lib.hid (by rw [← HU.out]; exact upI_none at_ (tok_low (by omega)))
      clear hwx
      go_wp2_with fail
      go_ret2
      rw [h0.out]
      exact ⟨rfl, HK.out⟩
    · have hb : (x != 0) = true := bne_iff_ne.2 hx0
      have CP := Lib.hid (place_s (HT.out.keptN HK.out) hwx)
      have CPa := fun W (k : Kept Nil w1 W) => Lib.hid (parent_s (HT.out.keptN k) hwx)
      cases ht : tok L x with
      | none =>
        have hp0 : parI L x = 0 := parI_none ht
        have hU0 : Hid (upI L x at_ = 0) := Lib.hid (upI_none at_ ht)
        rw [ht] at CP
        simp only [hp0] at CPa
        clear ht hp0 hwx
        have HX0 := Lib.hid hx0
        clear hx0
        go_wp2_with fail
        refine CP.out.mono ?_
        rintro e w2 ⟨rfl, k2⟩
        have K2 := Lib.hid (HK.out.trans k2 (fun _ _ e => e))
        have CP2 := CPa w2 K2.out
        clear k2 CP CPa
        go_wp2_with fail
        refine CP2.out.mono ?_
        rintro e w3 ⟨rfl, rfl⟩
        go_wp2_with fail
        go_roundg 0
        case measure => have := HMx.out; rw [if_neg HX0.out] at this; omega
        case rel => exact ⟨0, rfl, by decide, by rw [← HU.out, hU0.out]; exact upI_none at_ (tok_low (by omega)), by simp, K2.out⟩
      | some z =>
        have hl1 : locI_s L x = z.loc := by unfold locI_s; rw [ht]; rfl
        have hp1 : parI L x = z.par := parI_some ht
        have hbd := HWF.out x z ht
        rw [ht, hl1] at CP
        simp only [hp1] at CPa
        have HX0 := Lib.hid hx0
        have HZ := Lib.hid ht
        obtain ⟨pa, k, f, xo⟩ := z
        simp only at CP CPa hbd
        have HBd := Lib.hid hbd
        have hwp : (Lit.int .i64 pa).wf = true := by have := tok_bound HZ.out; exact WalkArith.wf_i64 (by omega)
        clear ht hl1 hp1 hwx hbd hx0
        by_cases hka : k = at_
        · subst hka
          go_wp2_with fail
          refine CP.out.mono ?_
          rintro e w2 ⟨rfl, k2⟩
          have K2 := Lib.hid (HK.out.trans k2 (fun _ _ e => e))
          clear k2 CP CPa
          go_wp2_with fail
          go_ret2
          have e : upI L id k = x := by rw [← HU.out]; exact upI_here HWF.out HZ.out rfl
          rw [e]
          exact ⟨by rw [bne_iff_ne.2 HX0.out]; rfl, K2.out⟩
        · have hkb : (k.toList == at_.toList) = false := str_ne hka
          have HKa := Lib.hid hka
          clear hka
          go_wp2_with fail
          refine CP.out.mono ?_
          rintro e w2 ⟨rfl, k2⟩
          have K2 := Lib.hid (HK.out.trans k2 (fun _ _ e => e))
          have CP2 := CPa w2 K2.out
          clear k2 CP CPa
          go_wp2_with fail
          refine CP2.out.mono ?_
          rintro e w3 ⟨rfl, rfl⟩
          go_wp2_with fail
          go_roundg (if pa = 0 then 0 else pa.toNat + 1)
          case measure => have := HMx.out; rw [if_neg HX0.out] at this; have := HBd.out; have := tok_bound HZ.out; split <;> omega
          case rel => exact ⟨pa, rfl, hwp, by rw [← HU.out]; exact (upI_up HWF.out HZ.out HKa.out).symm, Nat.le_refl _, K2.out⟩
set_option maxHeartbeats 4000000 in
theorem facts_s (h : Tres w c p L) (hwf : WF L) (hl : L.length ≤ 1000) {id : Int} (hw : (Lit.int .i64 id).wf = true) :
    Calls Try.prog 27 #[.pointer (some ⟨p, 0, none⟩), .int .i64 id] w fun e w' => ∃ a cap, e = .returned (.slice a (factsI L id).length cap) ∧ Row cN 3 1 w' w.heap.size (.slice a (factsI L id).length cap) (factsI L id) ∧ Kept Nil w w' := by
  have HT := Lib.hid h
  have HWF := Lib.hid hwf
  have HLn := Lib.hid (factsI_length hwf id)
  have HF : Hid (factsI L id = (factsOf L (line L id)).reverse) := Lib.hid rfl
  clear h hwf
  go_enter Try.func27, Try.ntmps27
  go_wp2_with fail
  go_loopg [1, 5] (id.toNat + 1) (fun k s1 s5 wr => ∃ (x : Int) (fs : List Int) (a : Option Addr) (n cap : Nat), s1 = .int .i64 x ∧ s5 = .slice a n cap ∧ n = fs.length ∧ (Lit.int .i64 x).wf = true ∧ fs ++ factsOf L (line L x) = factsOf L (line L id) ∧ (if x = 0 then 0 else x.toNat + 1) ≤ k ∧ Row cN 3 1 wr w.heap.size (.slice a n cap) fs ∧ Kept Nil w wr)
  case atStart => exact ⟨id, [], none, 0, 0, rfl, rfl, rfl, hw, rfl, by split <;> omega, Row.nil _ _, Kept.refl _ _⟩
  case round =>
    obtain ⟨x, fs, a, n, cap, rfl, rfl, hn, hwx, hU, hM, hR, hK⟩ := hrel
    have HK := Lib.hid hK
    have HU := Lib.hid hU
    have HMx := Lib.hid hM
    have HR := Lib.hid hR
    have HN := Lib.hid hn
    have hsz := hK.size
    have hfl : fs.length ≤ 1000 := by
      have e := congrArg List.length hU
      have := HLn.out
      rw [HF.out, List.length_reverse] at this
      rw [List.length_append] at e
      omega
    clear hU hM hK hR
    by_cases hx0 : x = 0
    · subst hx0
      have h0 : Hid (fs = factsOf L (line L id)) := Lib.hid (by rw [← HU.out, line_none (tok_low (by omega)), factsOf, List.append_nil])
      have HRv := Lib.hid (reverse_any HR.out (by omega))
      clear hwx hn hfl hsz
      go_wp2_with fail
      refine HRv.out.mono ?_
      rintro e w2 ⟨rfl, r2, k2⟩
      have R2 := Lib.hid r2
      have K2 := Lib.hid (HK.out.trans k2 (fun b hb e => by
        have := (HR.out.lt b e).1
        omega))
      clear r2 k2 HRv
      go_wp2_with fail
      go_ret
      have e1 : (factsI L id).length = n := by rw [HF.out, ← h0.out, List.length_reverse]; exact HN.out.symm
      rw [e1, HF.out, ← h0.out]
      exact ⟨a, cap, rfl, R2.out, K2.out⟩
    · have hb : (x != 0) = true := bne_iff_ne.2 hx0
      have CF := Lib.hid (fact_s (HT.out.keptN HK.out) hwx)
      have CPa := fun W (k : Kept Nil w W) => Lib.hid (parent_s (HT.out.keptN k) hwx)
      have HX0 := Lib.hid hx0
      have HFl := Lib.hid hfl
      -- what the next is
      obtain ⟨pa, f, hp1, hf1, hln, hpm, hwp⟩ : ∃ pa f : Int, parI L x = pa ∧ factI L x = f ∧ factsOf L (line L x) = (if f ≠ 0 then f :: factsOf L (line L pa) else factsOf L (line L pa)) ∧ (if pa = 0 then 0 else pa.toNat + 1) < x.toNat + 1 ∧ (Lit.int .i64 pa).wf = true := by
        cases ht : tok L x with
        | none =>
          refine ⟨0, 0, parI_none ht, factI_none ht, ?_, by simp, by decide⟩
          rw [line_none ht, line_none (tok_low (by omega))]; simp
        | some z =>
          have hbd := HWF.out x z ht
          have hb2 := tok_bound ht
          refine ⟨z.par, z.fact, parI_some ht, factI_some ht, ?_, by split <;> omega, WalkArith.wf_i64 (by omega)⟩
          rw [line_some HWF.out ht, factsOf, factI_some ht]
      rw [hf1] at CF
      simp only [hp1] at CPa
      have HLn2 := Lib.hid hln
      have HPm := Lib.hid hpm
      clear hf1 hp1 hln hpm hx0 hwx hfl hn
      by_cases hf0 : f = 0
      · subst hf0
        have HL3 : Hid (factsOf L (line L x) = factsOf L (line L pa)) := Lib.hid (by rw [HLn2.out, if_neg (by simp)])
        go_wp2_with fail
        refine CF.out.mono ?_
        rintro e w2 ⟨rfl, rfl⟩
        have CP2 := CPa _ HK.out
        clear CF CPa
        go_wp2_with fail
        refine CP2.out.mono ?_
        rintro e w3 ⟨rfl, rfl⟩
        go_wp2_with fail
        go_roundg (if pa = 0 then 0 else pa.toNat + 1)
        case measure => have := HMx.out; rw [if_neg HX0.out] at this; have := HPm.out; omega
        case rel => exact ⟨pa, fs, a, n, cap, rfl, rfl, HN.out, hwp, by rw [← HL3.out]; exact HU.out, Nat.le_refl _, HR.out, HK.out⟩
      · have hfb : (f != 0) = true := bne_iff_ne.2 hf0
        have HL3 : Hid (factsOf L (line L x) = f :: factsOf L (line L pa)) := Lib.hid (by rw [HLn2.out, if_pos hf0])
        clear hf0
        obtain ⟨a3, c3, W3, r3, o3, k3, own3⟩ := HR.out.push2 elsI1 cN_len cN_one 38 hsz (by have := HFl.out; omega) f #[.int .i64 f] rfl
        have R3 := Lib.hid r3
        have HR3 := Lib.hid o3
        have K3 := Lib.hid (HK.out.trans k3 (fun b hb e => by have := (HR.out.lt b e).1; omega))
        clear r3 o3 k3 own3
        go_wp2_with fail
        refine CF.out.mono ?_
        rintro e w2 ⟨rfl, rfl⟩
        have CP2 := CPa _ K3.out
        clear CF CPa
        go_wp2_with (at_builtin; refine wpList_append_run rfl (.tmp 17) (.tmp 19) 38 rfl _ _ rfl rfl R3.out ?_)
        refine CP2.out.mono ?_
        rintro e w3 ⟨rfl, rfl⟩
        go_wp2_with fail
        go_roundg (if pa = 0 then 0 else pa.toNat + 1)
        case measure => have := HMx.out; rw [if_neg HX0.out] at this; have := HPm.out; omega
        case rel => exact ⟨pa, fs ++ [f], a3, n + 1, c3, rfl, rfl, by rw [List.length_append, HN.out]; rfl, hwp, by rw [← HU.out, HL3.out]; simp, Nat.le_refl _, HR3.out, K3.out⟩
end
end Go.Proofs.Ytbaplplaokbnnaa
