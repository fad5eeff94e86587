/- Trees at int: fromBelow. -/
import Derived.Test.YtbaplplaokbnnaaMiE
import Derived.Test.YtbaplplaokbnnaaMRow
import Derived.Test.YtbaplplaokbnnaaMRev
import Derived.Deep.LoopGhost
namespace Go.Proofs.Ytbaplplaokbnnaa
open Go.RowKit Go.Maps Go.WideMaps
set_option maxRecDepth 100000

theorem infoI1 : (Try.prog.info? 3).map (fun i => (i.zero, i.size, i.bytes)) = some (some (.int .i64 0), 1, 8) := by kernel_rfl
theorem elsI1 : Els Try.prog 38 3 1 := Els.of Try.underlying38 infoI1 rfl (by decide) (by decide)
set_option maxHeartbeats 8000000 in
theorem fromBelow_i {w : World} {c : Nat → Nat} {p : Nat} {L : List (Tok Int)} (h : Trei w c p L) (hwf : WF L) (hl : L.length ≤ 1000) {id : Int} (hid : tok L id ≠ none) :
    Calls Try.prog 46 #[.pointer (some ⟨p, 0, none⟩), .int .i64 id] w fun e w' => ∃ a cap, e = .returned (.slice a (below L id).length cap) ∧ Row cN 3 1 w' w.heap.size (.slice a (below L id).length cap) (below L id) ∧ Kept Nil w w' := by
  have HT := Lib.hid h
  have HWF := Lib.hid hwf
  have HID := Lib.hid hid
  have HBL := Lib.hid (below_length hwf hid)
  have R0 := Lib.hid (Row.lit1 (cells := cN) (e := 3) (size := 1) w id #[.int .i64 id] rfl rfl)
  have K0 := Lib.hid ((Kept.refl Nil w).alloc (.cells #[.int .i64 id] 3))
  clear h hwf hid
  go_enter Try.func46, Try.ntmps46
  go_wp2_with fail
  go_loopg [1, 5, 6] (below L id).length (fun k s1 s5 s6 wr => ∃ (x : Int) (os fs : List Int) (a1 a2 : Option Addr) (n1 n2 c1 c2 : Nat), s1 = .int .i64 x ∧ s5 = .slice a1 n1 c1 ∧ s6 = .slice a2 n2 c2 ∧ n1 = fs.length ∧ n2 = os.length ∧ k = (os.flatMap (below L)).length ∧ Row cN 3 1 wr w.heap.size (.slice a1 n1 c1) fs ∧ Row cN 3 1 wr w.heap.size (.slice a2 n2 c2) os ∧
    (∀ b, (Value.slice a1 n1 c1).ownBlock = some b → (Value.slice a2 n2 c2).ownBlock = some b → False) ∧ os.flatMap (below L) ++ fs.reverse = below L id ∧ (∀ o ∈ os, tok L o ≠ none) ∧ Kept Nil w wr)
  case atStart => exact ⟨id, [id], [], none, _, 0, 1, 0, 1, rfl, rfl, rfl, rfl, rfl, by simp, Row.nil _ _, R0.out, fun b e => (by cases e), by simp, fun o ho => by rw [List.mem_singleton.1 ho]; exact HID.out, K0.out⟩
  case round =>
    obtain ⟨x, os, fs, a1, a2, n1, n2, c1, c2, rfl, rfl, rfl, hn1, hn2, hk, h1, h2, hne, hE, hO, hK⟩ := hrel
    have HKW := Lib.hid hK
    have H1 := Lib.hid h1
    have h1' := Lib.hid h1
    have HE := Lib.hid hE
    have HO := Lib.hid hO
    have HNE := Lib.hid hne
    have HN1 := Lib.hid hn1
    have hsz := hK.size
    have hfl : fs.length ≤ 1000 := by
      have e := congrArg List.length hE
      rw [List.length_append, List.length_reverse] at e
      have := HBL.out
      omega
    have hosl : os.length ≤ 1000 := by
      have e := congrArg List.length hE
      rw [List.length_append, List.length_reverse] at e
      have := HBL.out
      have := flat_below_le L os
      omega
    clear hK hne hO hE
    rcases List.eq_nil_or_concat os with rfl | ⟨os', o, e⟩
    · obtain rfl : n2 = 0 := hn2
      have HRv := Lib.hid (reverse_any H1.out (by omega))
      have HEq : Hid (fs.reverse = below L id) := Lib.hid (by have := HE.out; simpa using this)
      clear h1 h2 hk H1 hn1 hsz
      go_wp2_with fail
      refine HRv.out.mono ?_
      rintro e w2 ⟨rfl, r2, k2⟩
      have R2 := Lib.hid r2
      have K2 := Lib.hid (HKW.out.trans k2 (fun b hb e => by
        have := (h1'.out.lt b e).1
        omega))
      clear r2 k2 HRv
      go_wp2_with fail
      go_ret
      have e1 : (below L id).length = n1 := by rw [← HEq.out, List.length_reverse]; exact HN1.out.symm
      rw [e1, ← HEq.out]
      exact ⟨a1, c1, rfl, R2.out, K2.out⟩
    · rw [List.concat_eq_append] at e
      subst e
      obtain ⟨m, hm⟩ : ∃ m, n2 = m + 1 := ⟨os'.length, by rw [hn2]; simp⟩
      have hcap : n2 ≤ c2 := h2.caps.2.1
      obtain ⟨b2, rfl, hb2, hB2, hc⟩ := h2.get cN_len (by decide) (j := m) (x := o) (by
        rw [List.length_append, List.length_singleton] at hn2
        rw [List.getElem?_append_right (by omega), show m - os'.length = 0 by omega]; rfl)
      have z0 := hc 0 _ rfl
      simp only [Nat.mul_one, Nat.add_zero] at z0
      have hmb : m ≤ 1000 := by rw [← hn2] at hosl; omega
      have s1 : IntKind.i64.wrap ((n2 : Int) - 1) = (m : Int) := by rw [IntKind.wrap_i64]; omega
      have g0 : (0 : Int) ≤ (m : Int) := by omega
      have g1 : (m : Int) < (n2 : Int) := by omega
      have g2 : (m : Int) ≤ (c2 : Int) := by omega
      have g3 : decide (0 < n2) = true := decide_eq_true (by omega)
      have h3 : Row cN 3 1 wr w.heap.size (.slice (some ⟨b2, 0, none⟩) m c2) os' := by rw [hm] at h2; exact h2.init cN_len
      have HMm := Lib.hid hm
      have H3 := Lib.hid h3
      have HO' : Hid (tok L o ≠ none) := Lib.hid (HO.out o (by simp))
      have HOs : Hid (∀ y ∈ os', tok L y ≠ none) := Lib.hid fun y hy => HO.out y (by simp [hy])
      have HM : Hid (gk = (os'.flatMap (below L)).length + (below L o).length) := Lib.hid (by rw [hk, List.flatMap_append, List.length_append]; simp)
      have HEq := Lib.hid (below_eq HWF.out o)
      have how : (Lit.int .i64 o).wf = true := by
        cases e : tok L o with
        | none => exact absurd e HO'.out
        | some z => have := tok_bound e; exact WalkArith.wf_i64 (by omega)
      have HB2 := Lib.hid (And.intro hb2 hB2)
      have HW := Lib.hid hsz
      have HFl := Lib.hid hfl
      have HOl := Lib.hid hosl
      clear h1 h2 h3 hk hn1 hn2 hc HO hb2 hB2 hm hosl hfl h1'
      go_upto_region 4 with fail
      go_region
      have kD := (Kept.refl Nil wr).drew
      have H1d := Lib.hid (H1.out.keptN kD)
      have H3d := Lib.hid (H3.out.keptN kD)
      have KD := Lib.hid (HKW.out.trans kD (fun _ _ e => e))
      have hWd : w.heap.size ≤ wr.drew.heap.size := hsz
      clear kD H1 H3 HKW s1 g0 g1 g2 g3 z0 hcap hmb
      generalize wr.drew = W1 at *
      obtain ⟨a3, c3, W2, r2, o2, k2, own2⟩ := H1d.out.push2 elsI1 cN_len cN_one 38 hWd (by have := HFl.out; omega) o #[.int .i64 o] rfl
      have R2 := Lib.hid r2
      have H12 := Lib.hid o2
      have H32 := Lib.hid (H3d.out.keptF k2 (fun b hb e => HNE.out b e hb))
      have K2 := Lib.hid (KD.out.trans k2 (fun b hb e => by have := (H1d.out.lt b e).1; omega))
      have HNE2 : Hid (∀ b, (Value.slice a3 (n1 + 1) c3).ownBlock = some b → (Value.slice (some ⟨b2, 0, none⟩) m c2).ownBlock = some b → False) := Lib.hid fun b e1 e2 => by
        rcases own2 b e1 with e | e
        · exact HNE.out b e e2
        · have := (H3d.out.lt b e2).2
          omega
      clear r2 o2 k2 own2 H1d H3d KD HNE
      go_wp2_with (at_builtin; refine wpList_append_run rfl (.tmp 23) (.tmp 25) 38 rfl _ _ rfl rfl R2.out ?_)
      have HKi := Lib.hid (HT.out.keptN K2.out)
      have CK := Lib.hid (kids_i HKi.out (by omega) (k := o) how)
      have HKb := Lib.hid (ids_length L (fun x => decide (x.par = o ∧ o ≠ 0)))
      obtain ⟨nk, hnk⟩ : ∃ nk, (kids L o).length = nk := ⟨_, rfl⟩
      rw [hnk] at CK
      have HNK := Lib.hid hnk
      clear hnk
      refine CK.out.mono ?_
      rintro e W3 ⟨ak, ck, rfl, h3k, k3⟩
      have H13 := Lib.hid (H12.out.keptN k3)
      have H33 := Lib.hid (H32.out.keptN k3)
      have K3 := Lib.hid (K2.out.trans k3 (fun _ _ e => e))
      obtain ⟨a4, c4, W4, r4, o4, k4, own4⟩ := H33.out.pushAll2 elsI1 cN_len cN_one (by decide) 38 K3.out.size (by have := HOl.out; rw [List.length_append] at this; omega) (h3k.toIn cN_len (by decide)) (c2 := ck) (by have := HKb.out; unfold kids; omega)
      have R4 := Lib.hid r4
      have H24 := Lib.hid o4
      have H14 := Lib.hid (H13.out.keptF k4 (fun b e1 e2 => HNE2.out b e1 e2))
      have K4 := Lib.hid (K3.out.trans k4 (fun b hb e => by have := (H33.out.lt b e).1; omega))
      have HNE4 : Hid (∀ b, (Value.slice a3 (n1 + 1) c3).ownBlock = some b → (Value.slice a4 (m + nk) c4).ownBlock = some b → False) := Lib.hid fun b e1 e2 => by
        rcases own4 b e2 with e | e
        · exact HNE2.out b e1 e
        · have := (H13.out.lt b e1).2
          omega
      clear r4 o4 k4 own4 h3k k3 H12 H32 K2 CK HKi HNE2 H33 H13 K3
      go_wp2_with (at_builtin; refine wpList_append_run rfl (.tmp 27) (.tmp 30) 38 rfl _ _ rfl rfl R4.out ?_)
      go_roundg ((os'.flatMap (below L)).length + ((kids L o).flatMap (below L)).length)
      case measure =>
        rw [HM.out]
        have := congrArg List.length HEq.out
        rw [List.length_append, List.length_singleton] at this
        omega
      case rel =>
        refine ⟨o, os' ++ kids L o, fs ++ [o], a3, a4, n1 + 1, m + nk, c3, c4, rfl, rfl, rfl, by rw [List.length_append, HN1.out]; rfl, ?_, by rw [List.flatMap_append, List.length_append], H14.out, H24.out, HNE4.out, ?_, fun y hy => ?_, K4.out⟩
        · have e := (H24.out.caps).1
          exact e
        · have e := HE.out
          rw [List.flatMap_append, List.flatMap_cons, List.flatMap_nil, List.append_nil, HEq.out] at e
          rw [← e, List.flatMap_append, List.reverse_append]
          simp
        · rcases List.mem_append.1 hy with hy | hy
          · exact HOs.out y hy
          · obtain ⟨_, z, e, _⟩ := mem_kids.1 hy
            rw [e]; simp
end Go.Proofs.Ytbaplplaokbnnaa
