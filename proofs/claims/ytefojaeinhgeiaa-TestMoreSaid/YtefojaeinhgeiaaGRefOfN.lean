/- Layer comp: the reference's Of, of an Ncc: the beginning that it builds for each of the Subs. -/
import Derived.Test.YtefojaeinhgeiaaGRefCo
namespace Go.Proofs.Ytefojaeinhgeiaa
open Go.RowKit
set_option maxRecDepth 100000

theorem ORow.seenR {w : World} {B n cap : Nat} {a : Option Addr} {ps : Prs} (h : ORow cR 45 w B (.slice a n cap) ps) : n = ps.length ∧ n ≤ cap ∧ ∀ b o, a = some ⟨b, o, none⟩ → b < w.heap.size := by
  rcases h.2 with ⟨e1, e0⟩ | ⟨g, c, cur, e1, hb, hg, hn, _⟩
  · injection e1 with e1 e2 e3
    subst e1 e2 e3
    exact ⟨e0.symm, Nat.le_refl _, fun b o e => by cases e⟩
  · injection e1 with e1 e2 e3
    subst e1 e2 e3
    exact ⟨rfl, hn, fun b o e => by cases e; exact (Array.getElem?_eq_some_iff.1 hg).1⟩
/-- What is ahead of one of the Subs: the chain, and the Subs before it, in new memory. -/
theorem ref_begin {w W : World} (kW : Kept Nil w W) {chl subs : List Sh} {ac a : Option Addr} {cc len cap j : Nat} (h1 : Holds cR w (fun b _ => b < w.heap.size) (.slice ac chl.length cc) chl) (h2 : Holds cR w (fun b _ => b < w.heap.size) (.slice a len cap) subs) (hj : j ≤ len) (hl : chl.length + len ≤ 100) :
    ∃ a1 n1 c1 w1 a2 n2 c2 w2, (Builtin.append_ #[31, 31] 31 #[.slice none 0 0, .slice ac chl.length cc]).run Try.prog W = .ok (.slice a1 n1 c1) w1 ∧
      (Builtin.append_ #[31, 31] 31 #[.slice a1 n1 c1, .slice a j cap]).run Try.prog w1 = .ok (.slice a2 n2 c2) w2 ∧
      n2 = (chl ++ subs.take j).length ∧ Holds cR w2 (fun b _ => b < w2.heap.size) (.slice a2 n2 c2) (chl ++ subs.take j) ∧ Kept Nil W w1 ∧ Kept Nil W w2 := by
  have hws := kW.size
  obtain ⟨cps, hcps, hcl, hck⟩ := h1.pairs kindR
  obtain ⟨lps, hlps, hll, hlk⟩ := (h2.first hj).pairs kindR
  have hcn : cps.length = chl.length := by rw [← tr_len, hcps]
  have hfl := h2.fits.1
  have hln : lps.length = j := by rw [← tr_len, hlps, List.length_take]; omega
  have hcl' : Lies cR W (.slice ac chl.length cc) cps := by rw [← hcn] at hcl ⊢; exact At.keptN hcl kW
  obtain ⟨u1, w1, r1, o1, k1, _⟩ := ORow.append (P := Try.prog) (ok := fun b _ => b < W.heap.size) elsR kindR 31 (ORow.nil W : ORow cR 45 W W.heap.size (.slice none 0 0) []) hcl' (fun p hp => ((hck p hp).keptN kW).mono (fun b o hb => by omega)) (by simp; omega) (Nat.le_refl _)
  have kk1 : Kept Nil W w1 := (Kept.refl Nil W).trans k1 (fun i hi e => by cases e)
  have hs1 := kk1.size
  obtain ⟨a1, n1, c1, rfl⟩ : ∃ a n c, u1 = .slice a n c := by obtain ⟨x, y, e⟩ := (At.own o1).shape; exact ⟨x, _, y, e⟩
  rw [List.nil_append] at o1
  have hll' : Lies cR w1 (.slice a j cap) lps := by rw [← hln] at hll ⊢; exact At.keptN (At.keptN hll kW) kk1
  obtain ⟨u2, w2, r2, o2, k2, _⟩ := ORow.append (P := Try.prog) (ok := fun b _ => b < W.heap.size) elsR kindR 31 o1 hll' (fun p hp => (((hlk p hp).keptN kW).keptN kk1).mono (fun b o hb => by omega)) (by omega) (by omega)
  obtain ⟨a2, n2, c2, rfl⟩ : ∃ a n c, u2 = .slice a n c := by obtain ⟨x, y, e⟩ := (At.own o2).shape; exact ⟨x, _, y, e⟩
  have hs2 := k2.size
  have nf : ∀ b, b < W.heap.size → ¬ ((Value.slice a1 n1 c1).ownBlock = some b) := fun b hb e => by have := (ownsBlk o1 b e).1; omega
  have hkk : Kids cR w2 (fun b _ => b < w2.heap.size) (cps ++ lps) := fun p hp => by
    have h0 : Holds cR w (fun b _ => b < w.heap.size) p.2 p.1.subs := by
      rcases List.mem_append.1 hp with hp | hp
      · exact hck p hp
      · exact hlk p hp
    exact ((((h0.keptN kW).keptN kk1).kept k2 (fun b _ hb e => nf b (by omega) e))).mono (fun b o hb => by omega)
  obtain ⟨sn1, sn2, sn3⟩ := ORow.seenR o2
  have hh := Lies.holds kindR (ok := fun b _ => b < w2.heap.size) (a := a2) (n := n2) (cap := c2) (by have := At.own o2; rw [sn1] at this ⊢; exact this) hkk sn2 (fun b o e => sn3 b o e)
  rw [tr_append, hcps, hlps] at hh
  exact ⟨a1, n1, c1, w1, a2, n2, c2, w2, r1, r2, hh.fits.1, hh, kk1, kk1.trans k2 (fun i hi e => nf i hi e)⟩
theorem Holds.inbR {w : World} {ok : Nat → Nat → Prop} {v : Value} {l : List Sh} (h : Holds cR w ok v l) : Holds cR w (fun b _ => b < w.heap.size) v l := by
  induction h with
  | nil a cap => exact .nil a cap
  | row b o cap subs u hn hok hr _ ih =>
    rcases Nat.eq_zero_or_pos subs.length with h0 | hpos
    · obtain rfl := List.length_eq_zero_iff.1 h0
      exact .nil _ _
    · exact .row b o cap subs u hn (World.block_lt_of_cell? w _ (hr 0 _ (List.getElem?_eq_getElem hpos) 0 _ rfl)) hr ih
set_option maxHeartbeats 8000000 in
theorem ofNcc_any (x0 x1 x2 : Bool) (n0 n1 n2 : Int) (subs : List Sh) (IH : Hid (∀ x ∈ subs, OfS x)) (ok1 ok2 : Nat → Nat → Prop) (chl : List Sh) (ac : Option Addr) (cc : Nat) (a : Option Addr) (cap : Nat) (w : World) (h1 : Holds cR w ok1 (.slice ac chl.length cc) chl) (h2 : Holds cR w ok2 (.slice a subs.length cap) subs) (hc : chl.length + countL subs ≤ 100) (hk : ∃ d, chkL subs d = 0) :
    Calls Try.prog 16 #[.slice ac chl.length cc, vR ⟨3, x0, x1, x2, n0, n1, n2⟩ (.slice a subs.length cap)] w (StEnd ⟨3, 0, 0, 0, []⟩ (stL subs chl) w) := by
  have hcl := length_countL subs
  obtain ⟨len, hl1⟩ : ∃ n, subs.length = n := ⟨_, rfl⟩
  have hfit := h2.fits.2
  rw [hl1] at h2 hfit hcl ⊢
  have HL1 := Lib.hid hl1
  have HC1 : Hid (Holds cR w (fun b _ => b < w.heap.size) (.slice ac chl.length cc) chl) := Lib.hid h1.inbR
  have HC2 : Hid (Holds cR w (fun b _ => b < w.heap.size) (.slice a len cap) subs) := Lib.hid h2.inbR
  have HC := Lib.hid hc
  have HKd := Lib.hid hk
  have hLen : len ≤ 100 := by omega
  have hchn : chl.length ≤ 100 := by omega
  obtain ⟨n1', hn1⟩ : ∃ n, chl.length = n := ⟨_, rfl⟩
  have HBeg : Hid (∀ W, Kept Nil w W → ∀ j, j ≤ len → ∃ a1 n1 c1 w1 a2 n2 c2 w2, (Builtin.append_ #[31, 31] 31 #[.slice none 0 0, .slice ac n1' cc]).run Try.prog W = .ok (.slice a1 n1 c1) w1 ∧
      (Builtin.append_ #[31, 31] 31 #[.slice a1 n1 c1, .slice a j cap]).run Try.prog w1 = .ok (.slice a2 n2 c2) w2 ∧
      n2 = (chl ++ subs.take j).length ∧ Holds cR w2 (fun b _ => b < w2.heap.size) (.slice a2 n2 c2) (chl ++ subs.take j) ∧ Kept Nil W w1 ∧ Kept Nil W w2) := Lib.hid fun W kW j hj => by
    have := ref_begin kW HC1.out HC2.out hj (by omega)
    rwa [hn1] at this
  have HN1 := Lib.hid hn1
  rw [hn1]
  have R0 := Lib.hid ((Two2.start w 45 (arrR ⟨3, x0, x1, x2, n0, n1, n2⟩ (.slice a len cap)) 57 zS).alloc (.cells (arrS ⟨3, 0, 0, 0, []⟩ (.slice none 0 0) (.slice none 0 0)) 57))
  have B0 : Hid (Blk (((w.alloc (.cells (arrR ⟨3, x0, x1, x2, n0, n1, n2⟩ (.slice a len cap)) 45)).alloc (.cells zS 57)).alloc (.cells (arrS ⟨3, 0, 0, 0, []⟩ (.slice none 0 0) (.slice none 0 0)) 57)) (w.heap.size + 1 + 1) 57 (arrS ⟨3, 0, 0, 0, []⟩ (.slice none 0 0) (.slice none 0 0))) := Lib.hid (by
    have := Blk.new ((w.alloc (.cells (arrR ⟨3, x0, x1, x2, n0, n1, n2⟩ (.slice a len cap)) 45)).alloc (.cells zS 57)) 57 (arrS ⟨3, 0, 0, 0, []⟩ (.slice none 0 0) (.slice none 0 0))
    simpa using this)
  clear h1 h2 hl1 hc hk hcl hn1 hchn
  go_enter Try.func16, Try.ntmps16
  go_wp2_with fail
  go_loopw [22] (fun i wr => ∃ (j : Nat) (v : Value) (ps : List SQ), j ≤ len ∧ i = .int .i64 j ∧ trS ps = stL (subs.take j) chl ∧ Two2 w 45 (arrR ⟨3, x0, x1, x2, n0, n1, n2⟩ (.slice a len cap)) 57 zS wr ∧ Blk wr (w.heap.size + 1 + 1) 57 (arrS ⟨3, 0, 0, 0, []⟩ (.slice none 0 0) v) ∧ GB kS 57 wr (w.heap.size + 1 + 1 + 1) v ps) (fun i _ => len - (intOf i).toNat)
  case atStart => exact ⟨0, .slice none 0 0, [], by omega, rfl, by rw [List.take_zero, stL_nil]; rfl, R0.out, B0.out, GB.nil _⟩
  case round =>
    obtain ⟨j, v, ps, hj, rfl, hps, hR, hB, hG⟩ := hrel
    have HR := Lib.hid hR
    have HB := Lib.hid hB
    have HG := Lib.hid hG
    have HP := Lib.hid hps
    have hs : w.heap.size + 1 + 1 < wr.heap.size := hB.lt
    clear hR hB hG hps R0 B0
    have hpl0 : ps.length = j := by have := congrArg List.length HP.out; rw [trS_len, stL_length, List.length_take] at this; have := HL1.out; omega
    obtain ⟨sa, sc, rfl, hsc⟩ := HG.out.shape
    rw [hpl0] at HB HG hsc
    by_cases hlt : j < len
    · obtain ⟨⟨⟨k', x0', x1', x2', n0', n1'', n2'⟩, sb⟩, hx⟩ : ∃ x, subs[j]? = some x := ⟨_, List.getElem?_eq_getElem (by have := HL1.out; omega)⟩
      obtain ⟨b, o, a', cap', rfl, _, hr, hsb⟩ := (HC2.out.keptN HR.out.kept).at_ hx
      have hcm := count_mem (List.mem_of_getElem? hx)
      have hjl : (subs.take j).length = j := by rw [List.length_take]; have := HL1.out; omega
      have hsum := countL_take_succ hx
      have hle := countL_take_le subs (j + 1)
      have hlj := length_countL (subs.take j)
      obtain ⟨W1, hW1⟩ : ∃ W1, wr.alloc (.cells (arrR ⟨k', x0', x1', x2', n0', n1'', n2'⟩ (.slice a' sb.length cap')) 45) = W1 := ⟨_, rfl⟩
      have KW : Kept Nil wr W1 := by rw [← hW1]; exact (Kept.refl Nil wr).alloc _
      have by0 : Blk W1 wr.heap.size 45 (arrR ⟨k', x0', x1', x2', n0', n1'', n2'⟩ (.slice a' sb.length cap')) := by rw [← hW1]; exact Blk.new _ _ _
      obtain ⟨a1, m1, c1, w1, a2, m2, c2, w2, r1, r2, hm2, hh2, k1, k2⟩ := HBeg.out W1 (HR.out.kept.trans KW (fun _ _ g => g)) j (by omega)
      have kw2 : Kept Nil wr w2 := KW.trans k2 (fun _ _ g => g)
      have HX : Hid (∀ W, Kept Nil w2 W → Calls Try.prog 16 #[.slice a2 m2 c2, vR ⟨k', x0', x1', x2', n0', n1'', n2'⟩ (.slice a' sb.length cap')] W (StEnd ((Sh.mk ⟨k', x0', x1', x2', n0', n1'', n2'⟩ sb).st (chl ++ subs.take j)).hd ((Sh.mk ⟨k', x0', x1', x2', n0', n1'', n2'⟩ sb).st (chl ++ subs.take j)).subs W)) := Lib.hid fun W kW2 => by
        have := IH.out _ (List.mem_of_getElem? hx) (chl ++ subs.take j) _ _ a2 c2 a' cap' W (by rw [← hm2]; exact hh2.keptN kW2) (hsb.keptN (kw2.trans kW2 (fun _ _ g => g))) (by rw [List.length_append, hjl]; have := HC.out; omega) (by obtain ⟨d, hd⟩ := HKd.out; exact ⟨d, chkL_all.1 hd _ (List.mem_of_getElem? hx)⟩)
        rw [← hm2] at this
        exact this
      have HN := Lib.hid (stL_take_succ (ch := chl) hx)
      have HRow : Hid (wr.rangeAt b (o + j * 8) (cR ⟨k', x0', x1', x2', n0', n1'', n2'⟩ (.slice a' sb.length cap'))) := Lib.hid hr
      have RW := Lib.hid (HR.out.step kw2)
      have BW := Lib.hid (HB.out.kept kw2 id)
      have GW := Lib.hid (HG.out.kept kw2)
      have RA := (HR.out.step (KW.trans k1 (fun _ _ g => g))).b0.cell 7
      have RB7 := RW.out.b0.cell 7
      have by2 := by0.kept k2 id
      have e0 := by2.cell 0
      have e1 := by2.cell 1
      have e2 := by2.cell 2
      have e3 := by2.cell 3
      have e4 := by2.cell 4
      have e5 := by2.cell 5
      have e6 := by2.cell 6
      have e7 := by2.cell 7
      have x5 := BW.out.cell 5
      simp at e0 e1 e2 e3 e4 e5 e6 e7 x5 RA RB7
      have hXW : w.heap.size + 1 + 1 < w2.heap.size := by have := kw2.size; omega
      have hwr2 : wr.heap.size < w2.heap.size := by2.lt
      have hY1 : w.heap.size < w1.heap.size := (HR.out.step (KW.trans k1 (fun _ _ g => g))).b0.lt
      unfold StEnd at HX
      generalize (Sh.mk ⟨k', x0', x1', x2', n0', n1'', n2'⟩ sb).st (chl ++ subs.take j) = sj at HX HN
      obtain ⟨⟨jk, jk0, jk1, jk2, jts⟩, jsb⟩ := sj
      replace HX : Hid (∀ W, Kept Nil w2 W → Calls Try.prog 16 #[.slice a2 m2 c2, vR ⟨k', x0', x1', x2', n0', n1'', n2'⟩ (.slice a' sb.length cap')] W (fun e w' => ∃ t2 d2 a2 c2, e = .returned (vS ⟨jk, jk0, jk1, jk2, jts⟩ (.slice t2 jts.length d2) (.slice a2 jsb.length c2)) ∧ TsAt w' (okM W.heap.size w') (.slice t2 jts.length d2) jts ∧ SHolds w' (okM W.heap.size w') (.slice a2 jsb.length c2) jsb ∧ Kept Nil W w')) := HX
      have RR1 := Lib.hid r1
      have RR2 := Lib.hid r2
      clear hx hr hsb hcm hjl hsum hle hlj KW by0 by2 hm2 hh2 k1 k2 kw2 r1 r2
      generalize jts.length = tn' at HX
      generalize jsb.length = sn' at HX
      generalize sb.length = len' at HX HRow e7 hW1
      have hj0 : (0 : Int) ≤ (j : Int) := by omega
      have hjl : (j : Int) ≤ (len : Int) := by omega
      have hjc : (j : Int) ≤ (cap : Int) := by omega
      have hjc2 : j ≤ cap := by omega
      have KD := Lib.hid (Kept.refl Nil w2).drew
      have RND : Hid (∀ t2 d2 a2 c2 w3, TsAt w3 (okM w2.drew.heap.size w3) (.slice t2 tn' d2) jts → SHolds w3 (okM w2.drew.heap.size w3) (.slice a2 sn' c2) jsb → Kept Nil w2.drew w3 → _) := Lib.hid fun t2 d2 a2 c2 w3 h1 h2 k3 =>
        GB.round (P := Try.prog) (t := 29) (D := kS) elsQ 29 (Nat.lt_succ_self _) (by omega) BW.out (i := 5) rfl GW.out (by omega) ((Kept.refl Nil w2).drew) k3 (.mk ⟨jk, jk0, jk1, jk2, jts⟩ jsb, .slice t2 tn' d2, .slice a2 sn' c2) (arrS ⟨jk, jk0, jk1, jk2, jts⟩ (.slice t2 tn' d2) (.slice a2 sn' c2)) rfl 57 ⟨h1, h2⟩
      subst hW1
      go_wp2_with (first
        | ((with_reducible refine wpList_load_R rfl (.tmp 25) rfl _ _ rfl ⟨k', x0', x1', x2', n0', n1'', n2'⟩ (.slice a' len' cap') ?_ ?_)
           · exact HRow.out)
        | (at_builtin; refine wpList_append_run rfl (.tmp 27) (.tmp 28) 31 rfl _ _ rfl rfl RR1.out ?_)
        | (at_builtin; refine wpList_append_run rfl (.tmp 30) (.tmp 34) 31 rfl _ _ rfl rfl RR2.out ?_))
      go_region_law (first
        | (refine step_append_run rfl (.tmp 37) (.tmp 41) 29 rfl _ _ rfl rfl r3 ?_)
        | (go_simp; go_at_call 16; refine (HX.out _ KD.out).mono ?_; rintro e w4 ⟨t2, d2, a5, c5, rfl, h1, h2, k4⟩; obtain ⟨c52, hX2, a3, n3, c3, w3, r3, c53, f53, hX3, F0, F1, F2⟩ := RND.out t2 d2 a5 c5 w4 h1 h2 k4; have F0' := Lib.hid F0; have F1' := Lib.hid F1; have F2' := Lib.hid F2; clear F0 F1 F2 h1 h2 k4))
      all_goals
        have R3 := Lib.hid (RW.out.far F0'.out (fun i e => by
          rcases e with e | e
          · omega
          · have := GW.out.base i e; omega))
        have B3 : Hid (Blk (w3.setCell ⟨w.heap.size + 1 + 1, 5, none⟩ (.slice a3 n3 c3)) (w.heap.size + 1 + 1) 57 (arrS ⟨3, 0, 0, 0, []⟩ (.slice none 0 0) (.slice a3 n3 c3))) := Lib.hid (by simpa using F1'.out)
        go_wp2_with fail
        go_roundw
        case rel =>
          refine ⟨j + 1, _, ps ++ [(.mk ⟨jk, jk0, jk1, jk2, jts⟩ jsb, .slice t2 tn' d2, .slice a5 sn' c5)], by omega, by go_num, ?_, R3.out, B3.out, F2'.out⟩
          rw [trS_append, HP.out, HN.out]; rfl
        case measure => simp [intOf]; omega
    · obtain rfl : len = j := by omega
      have HE2 : Hid (trS ps = stL subs chl) := Lib.hid (by rw [HP.out, ← HL1.out]; simp)
      have HSL : Hid ((stL subs chl).length = len) := Lib.hid (by rw [stL_length, HL1.out])
      go_wp2_with (first
        | ((with_reducible refine wpList_load_Q rfl (.tmp 5) rfl _ _ rfl ⟨3, 0, 0, 0, []⟩ (.slice none 0 0) (.slice sa len sc) ?_ ?_)
           · exact World.rangeAt_of_block HB.out 0 6)
        | ((with_reducible refine wpList_store_Q rfl (.tmp 4) _ rfl _ ⟨3, 0, 0, 0, []⟩ _ _ _ _ _ _ rfl rfl zS rfl ?_ ?_)
           · exact HR.out.b1
           intro W kW bW
           have KW := Lib.hid kW
           have BW := Lib.hid bW
           clear kW bW))
      refine bodyPost_ret (results_cell_row Try.results16 _ _ _ _ _ _ _ rfl BW.out Try.underlying57 rfl (by kernel_rfl)) rfl ?_
      have hh := HG.out.sholds
      rw [HE2.out] at hh
      refine ⟨none, 0, sa, sc, by rw [HSL.out]; rfl, .nil none 0, ?_, HR.out.kept.trans KW.out (fun i hi e => by omega)⟩
      rw [HSL.out]
      exact (hh.kept KW.out (fun b o hb e => by have := hb.1; omega)).mono (fun b o hb => (hb.kept KW.out (fun e => by have := hb.1; omega)).less (by omega))
end Go.Proofs.Ytefojaeinhgeiaa
