/- Layer comp: the reference's Compile, given its Of. -/
import Derived.Test.YtefojaeinhgeiaaGRefBd
import Derived.Test.YtefojaeinhgeiaaGE
namespace Go.Proofs.Ytefojaeinhgeiaa
open Go.RowKit
set_option maxRecDepth 100000

/-- The reference's Of is the step of a condition behind a chain. -/
abbrev OfS (s : Sh) : Prop := ∀ (chl : List Sh) ok1 ok2 ac cc a cap w, Holds cR w ok1 (.slice ac chl.length cc) chl → Holds cR w ok2 (.slice a s.subs.length cap) s.subs → chl.length + s.count ≤ 100 → (∃ d, s.chk d = 0) →
  Calls Try.prog 16 #[.slice ac chl.length cc, vR s.hd (.slice a s.subs.length cap)] w (StEnd (s.st chl).hd (s.st chl).subs w)
set_option maxHeartbeats 8000000 in
theorem refCompile_of (hOf : ∀ s, OfS s) (l : List Sh) (hg : countL l ≤ 16 ∧ chkL l 1 = 0) (ok : Nat → Nat → Prop) (a : Option Addr) (cap : Nat) (w : World) (h : Holds cR w ok (.slice a l.length cap) l) :
    Calls Try.prog 10 #[.slice a l.length cap] w (StsEnd (stL l []) w) := by
  have HH := Lib.hid h
  have hfit := h.fits.2
  have hSL : (stL l []).length = l.length := stL_length l []
  obtain ⟨len, hlen⟩ : ∃ len, l.length = len := ⟨_, rfl⟩
  rw [hlen] at HH hSL hfit ⊢
  have HL := Lib.hid hlen
  have HSL := Lib.hid hSL
  have hLen : len ≤ 16 := by have := length_countL l; omega
  have hOf' := Lib.hid hOf
  have HG := Lib.hid hg
  clear h hlen hSL hOf hg
  go_enter Try.func10, Try.ntmps10
  go_wp2_with fail
  go_loopw [3, 8] (fun u i wr => ∃ (j : Nat) (ps : List SQ), j ≤ len ∧ i = .int .i64 j ∧ trS ps = stL (l.take j) [] ∧ GB kS 57 wr w.heap.size u ps ∧ Kept Nil w wr) (fun _ i _ => len - (intOf i).toNat)
  case atStart => exact ⟨0, [], by omega, rfl, by rw [List.take_zero, stL_nil]; rfl, GB.nil _, Kept.refl _ _⟩
  case round =>
    obtain ⟨j, ps, hj, rfl, hps, hG, hK⟩ := hrel
    have HGB := Lib.hid hG
    have HK := Lib.hid hK
    have HP := Lib.hid hps
    clear hG hps hK
    have hpl0 : ps.length = j := by have := congrArg List.length HP.out; rw [trS_len, stL_length, List.length_take] at this; have := HL.out; omega
    obtain ⟨au, cu, rfl, hcu⟩ := HGB.out.shape
    rw [hpl0] at HGB hcu ⊢
    by_cases hlt : j < len
    · obtain ⟨⟨⟨k', x0', x1', x2', n0', n1', n2'⟩, sb⟩, hx⟩ : ∃ x, l[j]? = some x := ⟨_, List.getElem?_eq_getElem (by have := HL.out; omega)⟩
      obtain ⟨b, o, a', cap', rfl, _, hr, hs⟩ := (HH.out.keptN HK.out).at_ hx
      have hljl : (l.take j).length = j := by rw [List.length_take]; have := HL.out; omega
      have hcm := count_mem (List.mem_of_getElem? hx)
      have HX : Hid (∀ W, Kept Nil wr W → Calls Try.prog 16 #[.slice (some ⟨b, o, none⟩) j cap, vR ⟨k', x0', x1', x2', n0', n1', n2'⟩ (.slice a' sb.length cap')] W (StEnd ((Sh.mk ⟨k', x0', x1', x2', n0', n1', n2'⟩ sb).st (l.take j)).hd ((Sh.mk ⟨k', x0', x1', x2', n0', n1', n2'⟩ sb).st (l.take j)).subs W)) := Lib.hid fun W kW => by
        have := hOf'.out (.mk ⟨k', x0', x1', x2', n0', n1', n2'⟩ sb) (l.take j) _ _ (some ⟨b, o, none⟩) cap a' cap' W (by rw [hljl]; exact (HH.out.first (by omega)).keptN (HK.out.trans kW (fun _ _ g => g))) (hs.keptN kW) (by have := HG.out.1; omega) ⟨1, chkL_all.1 HG.out.2 _ (List.mem_of_getElem? hx)⟩
        rw [hljl] at this
        exact this
      have HRow : Hid (wr.rangeAt b (o + j * 8) (cR ⟨k', x0', x1', x2', n0', n1', n2'⟩ (.slice a' sb.length cap'))) := Lib.hid hr
      have HN := Lib.hid (stL_take_succ (ch := []) hx)
      rw [List.nil_append] at HN
      unfold StEnd at HX
      generalize (Sh.mk ⟨k', x0', x1', x2', n0', n1', n2'⟩ sb).st (l.take j) = sj at HX HN
      obtain ⟨⟨jk, jk0, jk1, jk2, jts⟩, jsb⟩ := sj
      replace HX : Hid (∀ W, Kept Nil wr W → Calls Try.prog 16 #[.slice (some ⟨b, o, none⟩) j cap, vR ⟨k', x0', x1', x2', n0', n1', n2'⟩ (.slice a' sb.length cap')] W (fun e w' => ∃ t2 d2 a2 c2, e = .returned (vS ⟨jk, jk0, jk1, jk2, jts⟩ (.slice t2 jts.length d2) (.slice a2 jsb.length c2)) ∧ TsAt w' (okM W.heap.size w') (.slice t2 jts.length d2) jts ∧ SHolds w' (okM W.heap.size w') (.slice a2 jsb.length c2) jsb ∧ Kept Nil W w')) := HX
      clear hx hr hs hcm hljl
      generalize jts.length = tn' at HX
      generalize jsb.length = sn' at HX
      generalize sb.length = len' at HX HRow
      go_wp2_with ((with_reducible refine wpList_load_R rfl (.tmp 11) rfl _ _ rfl ⟨k', x0', x1', x2', n0', n1', n2'⟩ (.slice a' len' cap') ?_ ?_)
                   · exact HRow.out)
      obtain ⟨W1, hW1⟩ : ∃ W1, wr.alloc (.cells (arrR ⟨k', x0', x1', x2', n0', n1', n2'⟩ (.slice a' len' cap')) 45) = W1 := ⟨_, rfl⟩
      have KW : Kept Nil wr W1 := by rw [← hW1]; exact (Kept.refl Nil wr).alloc _
      have by0 : Blk W1 wr.heap.size 45 (arrR ⟨k', x0', x1', x2', n0', n1', n2'⟩ (.slice a' len' cap')) := by rw [← hW1]; exact Blk.new _ _ _
      rw [show wr.alloc (.cells #[.int .i64 k', .int .i64 (isV x0'), .int .i64 n0', .int .i64 (isV x1'), .int .i64 n1', .int .i64 (isV x2'), .int .i64 n2', .slice a' len' cap'] 45) = W1 from hW1]
      have KD := Lib.hid KW.drew
      have e0 := by0.cell 0
      have e1 := by0.cell 1
      have e2 := by0.cell 2
      have e3 := by0.cell 3
      have e4 := by0.cell 4
      have e5 := by0.cell 5
      have e6 := by0.cell 6
      have e7 := by0.cell 7
      simp at e0 e1 e2 e3 e4 e5 e6 e7
      have hj0 : (0 : Int) ≤ (j : Int) := by omega
      have hjl : (j : Int) ≤ (len : Int) := by omega
      have hjc : (j : Int) ≤ (cap : Int) := by omega
      have hjc2 : j ≤ cap := by omega
      have RND : ∀ t2 d2 a2 c2 w2, TsAt w2 (okM W1.drew.heap.size w2) (.slice t2 tn' d2) jts → SHolds w2 (okM W1.drew.heap.size w2) (.slice a2 sn' c2) jsb → Kept Nil W1.drew w2 → ∃ a3 n3 c3 w3, (Builtin.append_ #[29, 29] 29 #[.slice au j cu, .slice (some ⟨w2.heap.size, 0, none⟩) 1 1]).run Try.prog (w2.alloc (.cells (arrS ⟨jk, jk0, jk1, jk2, jts⟩ (.slice t2 tn' d2) (.slice a2 sn' c2)) 57)) = .ok (.slice a3 n3 c3) w3 ∧
          GB kS 57 w3 w.heap.size (.slice a3 n3 c3) (ps ++ [(.mk ⟨jk, jk0, jk1, jk2, jts⟩ jsb, .slice t2 tn' d2, .slice a2 sn' c2)]) ∧ Kept Nil w w3 := fun t2 d2 a2 c2 w2 h1 h2 k2 => by
        have k02 : Kept Nil wr w2 := KD.out.trans k2 (fun _ _ g => g)
        have hsz := HK.out.size
        have hs0 := KD.out.size
        have hs2 := k2.size
        have hq : kS.K w2 (okN w.heap.size w2 (.slice au j cu)) (St.mk ⟨jk, jk0, jk1, jk2, jts⟩ jsb, .slice t2 tn' d2, .slice a2 sn' c2) := kS.mono (ok := okM W1.drew.heap.size w2) ⟨h1, h2⟩ (fun b' o' hb' => ⟨hb'.less (by omega), fun eo => by have := HGB.out.lt b' eo; have := hb'.1; omega⟩)
        obtain ⟨a3, n3, c3, w3, r3, g3, k3⟩ := GB.append_one (P := Try.prog) (t := 29) elsQ 29 (HGB.out.kept k02) (St.mk ⟨jk, jk0, jk1, jk2, jts⟩ jsb, .slice t2 tn' d2, .slice a2 sn' c2) (arrS ⟨jk, jk0, jk1, jk2, jts⟩ (.slice t2 tn' d2) (.slice a2 sn' c2)) rfl 57 hq (by omega) (by omega)
        exact ⟨a3, n3, c3, w3, r3, g3, (HK.out.trans k02 (fun _ _ g => g)).trans k3 (fun i hi e => by have := HGB.out.base i e; omega)⟩
      have HF := Lib.hid RND
      clear hW1 KW by0 RND
      go_region_law (first
        | (refine step_append_run rfl (.tmp 13) (.tmp 19) 29 rfl _ _ rfl rfl r3 ?_)
        | (go_simp; go_at_call 16; refine (HX.out _ KD.out).mono ?_; rintro e w2 ⟨t2, d2, a2, c2, rfl, h1, h2, k2⟩; obtain ⟨a3, n3, c3, w3, r3, G3, K3⟩ := HF.out t2 d2 a2 c2 w2 h1 h2 k2; have G3' := Lib.hid G3; have K3' := Lib.hid K3; clear G3 K3 h1 h2 k2))
      all_goals
        go_wp2_with fail
        go_roundw
        case rel =>
          refine ⟨j + 1, ps ++ [(.mk ⟨jk, jk0, jk1, jk2, jts⟩ jsb, .slice t2 tn' d2, .slice a2 sn' c2)], by omega, by go_num, ?_, G3'.out, K3'.out⟩
          rw [trS_append, HP.out, HN.out]; rfl
        case measure => simp [intOf]; omega
    · obtain rfl : len = j := by omega
      have HE : Hid (trS ps = stL l []) := Lib.hid (by rw [HP.out, ← HL.out]; simp)
      go_wp2_with fail
      go_ret
      have hh := HGB.out.sholds
      rw [HE.out] at hh
      exact ⟨au, cu, by rw [HSL.out]; rfl, by rw [HSL.out]; exact hh, HK.out⟩
end Go.Proofs.Ytefojaeinhgeiaa
