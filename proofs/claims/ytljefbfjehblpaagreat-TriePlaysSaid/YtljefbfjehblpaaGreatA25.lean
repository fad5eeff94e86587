/- Layer comp: the reference's Of, of an Ncc: the beginning that it builds for each of the Subs. – Layer comp: the reference's Of, of a Pos or a Neg; of all conditions. – Layer comp: the reference's Of, of a Pos or a Neg: the walk. – Layer scope: the law's own Ref of conditions: the reference's conditions, in new memory. -/
import Derived.Test.YtljefbfjehblpaaGreatA24
import Derived.Test.YtljefbfjehblpaaGreatA3
namespace Go.Proofs.YtljefbfjehblpaaGreat
section
open Go.RowKit
set_option maxRecDepth 100000

theorem ORow.seenR {w : World} {B n cap : Nat} {a : Option Addr} {ps : Prs} (h : ORow cR 77 w B (.slice a n cap) ps) : n = ps.length ∧ n ≤ cap ∧ ∀ b o, a = some ⟨b, o, none⟩ → b < w.heap.size := by
  rcases h.2 with ⟨e1, e0⟩ | ⟨g, c, cur, e1, hb, hg, hn, _⟩
  · injection e1 with e1 e2 e3
    subst e1 e2 e3
    exact ⟨e0.symm, Nat.le_refl _, fun b o e => by cases e⟩
  · injection e1 with e1 e2 e3
    subst e1 e2 e3
    exact ⟨rfl, hn, fun b o e => by cases e; exact (Array.getElem?_eq_some_iff.1 hg).1⟩
/-- What is ahead of one of the Subs: the chain, and the Subs before it, in new memory. -/
theorem ref_begin {w W : World} (kW : Kept Nil w W) {chl subs : List Sh} {ac a : Option Addr} {cc len cap j : Nat} (h1 : Holds cR w (fun b _ => b < w.heap.size) (.slice ac chl.length cc) chl) (h2 : Holds cR w (fun b _ => b < w.heap.size) (.slice a len cap) subs) (hj : j ≤ len) (hl : chl.length + len ≤ 100) :
    ∃ a1 n1 c1 w1 a2 n2 c2 w2, (Builtin.append_ #[37, 37] 37 #[.slice none 0 0, .slice ac chl.length cc]).run Tryz.prog W = .ok (.slice a1 n1 c1) w1 ∧
      (Builtin.append_ #[37, 37] 37 #[.slice a1 n1 c1, .slice a j cap]).run Tryz.prog w1 = .ok (.slice a2 n2 c2) w2 ∧
      n2 = (chl ++ subs.take j).length ∧ Holds cR w2 (fun b _ => b < w2.heap.size) (.slice a2 n2 c2) (chl ++ subs.take j) ∧ Kept Nil W w1 ∧ Kept Nil W w2 := by
  have hws := kW.size
  obtain ⟨cps, hcps, hcl, hck⟩ := h1.pairs kindR
  obtain ⟨lps, hlps, hll, hlk⟩ := (h2.first hj).pairs kindR
  have hcn : cps.length = chl.length := by rw [← tr_len, hcps]
  have hfl := h2.fits.1
  have hln : lps.length = j := by rw [← tr_len, hlps, List.length_take]; omega
  have hcl' : Lies cR W (.slice ac chl.length cc) cps := by rw [← hcn] at hcl ⊢; exact At.keptN hcl kW
  obtain ⟨u1, w1, r1, o1, k1, _⟩ := ORow.append (P := Tryz.prog) (ok := fun b _ => b < W.heap.size) elsR kindR 37 (ORow.nil W : ORow cR 77 W W.heap.size (.slice none 0 0) []) hcl' (fun p hp => ((hck p hp).keptN kW).mono (fun b o hb => by omega)) (by simp; omega) (Nat.le_refl _)
  have kk1 : Kept Nil W w1 := (Kept.refl Nil W).trans k1 (fun i hi e => by cases e)
  have hs1 := kk1.size
  obtain ⟨a1, n1, c1, rfl⟩ : ∃ a n c, u1 = .slice a n c := by obtain ⟨x, y, e⟩ := (At.own o1).shape; exact ⟨x, _, y, e⟩
  rw [List.nil_append] at o1
  have hll' : Lies cR w1 (.slice a j cap) lps := by rw [← hln] at hll ⊢; exact At.keptN (At.keptN hll kW) kk1
  obtain ⟨u2, w2, r2, o2, k2, _⟩ := ORow.append (P := Tryz.prog) (ok := fun b _ => b < W.heap.size) elsR kindR 37 o1 hll' (fun p hp => (((hlk p hp).keptN kW).keptN kk1).mono (fun b o hb => by omega)) (by omega) (by omega)
  obtain ⟨a2, n2, c2, rfl⟩ : ∃ a n c, u2 = .slice a n c := by obtain ⟨x, y, e⟩ := (At.own o2).shape; exact ⟨x, _, y, e⟩
  have hs2 := k2.size
  have nf : ∀ b, b < W.heap.size → ¬ ((Value.slice a1 n1 c1).ownBlock = some b) := fun b hb e => by have := (ownsBlk o1 b e).1; omega
  have hkk : Kids cR w2 (fun b _ => b < w2.heap.size) (cps ++ lps) := fun p hp => by
    have h0 : Holds cR w (fun b _ => b < w.heap.size) p.2 p.1.subs := by
      rcases List.mem_append.1 hp with hp | hp
      · exact hck p hp
      · exact hlk p hp
    exact ((((h0.keptN kW).keptN kk1).kept k2 (fun b _ hb e => nf b (by omega) e))).mono (fun b o hb => by omega)
  obtain ⟨sn1, sn2, sn3⟩ := ORow.seenR o2
  have hh := Lies.holds kindR (ok := fun b _ => b < w2.heap.size) (a := a2) (n := n2) (cap := c2) (by have := At.own o2; rw [sn1] at this ⊢; exact this) hkk sn2 (fun b o e => sn3 b o e)
  rw [tr_append, hcps, hlps] at hh
  exact ⟨a1, n1, c1, w1, a2, n2, c2, w2, r1, r2, hh.fits.1, hh, kk1, kk1.trans k2 (fun i hi e => nf i hi e)⟩
theorem Holds.inbR {w : World} {ok : Nat → Nat → Prop} {v : Value} {l : List Sh} (h : Holds cR w ok v l) : Holds cR w (fun b _ => b < w.heap.size) v l := by
  induction h with
  | nil a cap => exact .nil a cap
  | row b o cap subs u hn hok hr _ ih =>
    rcases Nat.eq_zero_or_pos subs.length with h0 | hpos
    · obtain rfl := List.length_eq_zero_iff.1 h0
      exact .nil _ _
    · exact .row b o cap subs u hn (World.block_lt_of_cell? w _ (hr 0 _ (List.getElem?_eq_getElem hpos) 0 _ rfl)) hr ih
set_option maxHeartbeats 8000000 in
theorem ofNcc_any (x0 x1 x2 : Bool) (n0 n1 n2 : Int) (subs : List Sh) (IH : Hid (∀ x ∈ subs, OfS x)) (ok1 ok2 : Nat → Nat → Prop) (chl : List Sh) (ac : Option Addr) (cc : Nat) (a : Option Addr) (cap : Nat) (w : World) (h1 : Holds cR w ok1 (.slice ac chl.length cc) chl) (h2 : Holds cR w ok2 (.slice a subs.length cap) subs) (hc : chl.length + countL subs ≤ 100) (hk : ∃ d, chkL subs d = 0) :
    Calls Tryz.prog 21 #[.slice ac chl.length cc, vR ⟨3, x0, x1, x2, n0, n1, n2⟩ (.slice a subs.length cap)] w (StEnd ⟨3, 0, 0, 0, []⟩ (stL subs chl) w) := by
  have hcl := length_countL subs
  obtain ⟨len, hl1⟩ : ∃ n, subs.length = n := ⟨_, rfl⟩
  have hfit := h2.fits.2
  rw [hl1] at h2 hfit hcl ⊢
  have HL1 := Lib.hid hl1
  have HC1 : Hid (Holds cR w (fun b _ => b < w.heap.size) (.slice ac chl.length cc) chl) := Lib.hid h1.inbR
  have HC2 : Hid (Holds cR w (fun b _ => b < w.heap.size) (.slice a len cap) subs) := Lib.hid h2.inbR
  have HC := Lib.hid hc
  have HKd := Lib.hid hk
  have hLen : len ≤ 100 := by omega
  have hchn : chl.length ≤ 100 := by omega
  obtain ⟨n1', hn1⟩ : ∃ n, chl.length = n := ⟨_, rfl⟩
  have HBeg : Hid (∀ W, Kept Nil w W → ∀ j, j ≤ len → ∃ a1 n1 c1 w1 a2 n2 c2 w2, (Builtin.append_ #[37, 37] 37 #[.slice none 0 0, .slice ac n1' cc]).run Tryz.prog W = .ok (.slice a1 n1 c1) w1 ∧
      (Builtin.append_ #[37, 37] 37 #[.slice a1 n1 c1, .slice a j cap]).run Tryz.prog w1 = .ok (.slice a2 n2 c2) w2 ∧
      n2 = (chl ++ subs.take j).length ∧ Holds cR w2 (fun b _ => b < w2.heap.size) (.slice a2 n2 c2) (chl ++ subs.take j) ∧ Kept Nil W w1 ∧ Kept Nil W w2) := Lib.hid fun W kW j hj => by
    have := ref_begin kW HC1.out HC2.out hj (by omega)
    rwa [hn1] at this
  have HN1 := Lib.hid hn1
  rw [hn1]
  have R0 := Lib.hid ((Two2.start w 77 (arrR ⟨3, x0, x1, x2, n0, n1, n2⟩ (.slice a len cap)) 82 zS).alloc (.cells (arrS ⟨3, 0, 0, 0, []⟩ (.slice none 0 0) (.slice none 0 0)) 82))
  have B0 : Hid (Blk (((w.alloc (.cells (arrR ⟨3, x0, x1, x2, n0, n1, n2⟩ (.slice a len cap)) 77)).alloc (.cells zS 82)).alloc (.cells (arrS ⟨3, 0, 0, 0, []⟩ (.slice none 0 0) (.slice none 0 0)) 82)) (w.heap.size + 1 + 1) 82 (arrS ⟨3, 0, 0, 0, []⟩ (.slice none 0 0) (.slice none 0 0))) := Lib.hid (by
    have := Blk.new ((w.alloc (.cells (arrR ⟨3, x0, x1, x2, n0, n1, n2⟩ (.slice a len cap)) 77)).alloc (.cells zS 82)) 82 (arrS ⟨3, 0, 0, 0, []⟩ (.slice none 0 0) (.slice none 0 0))
    simpa using this)
  clear h1 h2 hl1 hc hk hcl hn1 hchn
  go_enter Tryz.func21, Tryz.ntmps21
  go_wp2_with fail
  go_loopw [22] (fun i wr => ∃ (j : Nat) (v : Value) (ps : List SQ), j ≤ len ∧ i = .int .i64 j ∧ trS ps = stL (subs.take j) chl ∧ Two2 w 77 (arrR ⟨3, x0, x1, x2, n0, n1, n2⟩ (.slice a len cap)) 82 zS wr ∧ Blk wr (w.heap.size + 1 + 1) 82 (arrS ⟨3, 0, 0, 0, []⟩ (.slice none 0 0) v) ∧ GB kS 82 wr (w.heap.size + 1 + 1 + 1) v ps) (fun i _ => len - (intOf i).toNat)
  case atStart => exact ⟨0, .slice none 0 0, [], by omega, rfl, by rw [List.take_zero, stL_nil]; rfl, R0.out, B0.out, GB.nil _⟩
  case round =>
    obtain ⟨j, v, ps, hj, rfl, hps, hR, hB, hG⟩ := hrel
    have HR := Lib.hid hR
    have HB := Lib.hid hB
    have HG := Lib.hid hG
    have HP := Lib.hid hps
    have hs : w.heap.size + 1 + 1 < wr.heap.size := hB.lt
    clear hR hB hG hps R0 B0
    have hpl0 : ps.length = j := by have := congrArg List.length HP.out; rw [trS_len, stL_length, List.length_take] at this; have := HL1.out; omega
    obtain ⟨sa, sc, rfl, hsc⟩ := HG.out.shape
    rw [hpl0] at HB HG hsc
    by_cases hlt : j < len
    · obtain ⟨⟨⟨k', x0', x1', x2', n0', n1'', n2'⟩, sb⟩, hx⟩ : ∃ x, subs[j]? = some x := ⟨_, List.getElem?_eq_getElem (by have := HL1.out; omega)⟩
      obtain ⟨b, o, a', cap', rfl, _, hr, hsb⟩ := (HC2.out.keptN HR.out.kept).at_ hx
      have hcm := count_mem (List.mem_of_getElem? hx)
      have hjl : (subs.take j).length = j := by rw [List.length_take]; have := HL1.out; omega
      have hsum := countL_take_succ hx
      have hle := countL_take_le subs (j + 1)
      have hlj := length_countL (subs.take j)
      obtain ⟨W1, hW1⟩ : ∃ W1, wr.alloc (.cells (arrR ⟨k', x0', x1', x2', n0', n1'', n2'⟩ (.slice a' sb.length cap')) 77) = W1 := ⟨_, rfl⟩
      have KW : Kept Nil wr W1 := by rw [← hW1]; exact (Kept.refl Nil wr).alloc _
      have by0 : Blk W1 wr.heap.size 77 (arrR ⟨k', x0', x1', x2', n0', n1'', n2'⟩ (.slice a' sb.length cap')) := by rw [← hW1]; exact Blk.new _ _ _
      obtain ⟨a1, m1, c1, w1, a2, m2, c2, w2, r1, r2, hm2, hh2, k1, k2⟩ := HBeg.out W1 (HR.out.kept.trans KW (fun _ _ g => g)) j (by omega)
      have kw2 : Kept Nil wr w2 := KW.trans k2 (fun _ _ g => g)
      have HX : Hid (∀ W, Kept Nil w2 W → Calls Tryz.prog 21 #[.slice a2 m2 c2, vR ⟨k', x0', x1', x2', n0', n1'', n2'⟩ (.slice a' sb.length cap')] W (StEnd ((Sh.mk ⟨k', x0', x1', x2', n0', n1'', n2'⟩ sb).st (chl ++ subs.take j)).hd ((Sh.mk ⟨k', x0', x1', x2', n0', n1'', n2'⟩ sb).st (chl ++ subs.take j)).subs W)) := Lib.hid fun W kW2 => by
        have := IH.out _ (List.mem_of_getElem? hx) (chl ++ subs.take j) _ _ a2 c2 a' cap' W (by rw [← hm2]; exact hh2.keptN kW2) (hsb.keptN (kw2.trans kW2 (fun _ _ g => g))) (by rw [List.length_append, hjl]; have := HC.out; omega) (by obtain ⟨d, hd⟩ := HKd.out; exact ⟨d, chkL_all.1 hd _ (List.mem_of_getElem? hx)⟩)
        rw [← hm2] at this
        exact this
      have HN := Lib.hid (stL_take_succ (ch := chl) hx)
      have HRow : Hid (wr.rangeAt b (o + j * 8) (cR ⟨k', x0', x1', x2', n0', n1'', n2'⟩ (.slice a' sb.length cap'))) := Lib.hid hr
      have RW := Lib.hid (HR.out.step kw2)
      have BW := Lib.hid (HB.out.kept kw2 id)
      have GW := Lib.hid (HG.out.kept kw2)
      have RA := (HR.out.step (KW.trans k1 (fun _ _ g => g))).b0.cell 7
      have RB7 := RW.out.b0.cell 7
      have by2 := by0.kept k2 id
      have e0 := by2.cell 0
      have e1 := by2.cell 1
      have e2 := by2.cell 2
      have e3 := by2.cell 3
      have e4 := by2.cell 4
      have e5 := by2.cell 5
      have e6 := by2.cell 6
      have e7 := by2.cell 7
      have x5 := BW.out.cell 5
      simp at e0 e1 e2 e3 e4 e5 e6 e7 x5 RA RB7
      have hXW : w.heap.size + 1 + 1 < w2.heap.size := by have := kw2.size; omega
      have hwr2 : wr.heap.size < w2.heap.size := by2.lt
      have hY1 : w.heap.size < w1.heap.size := (HR.out.step (KW.trans k1 (fun _ _ g => g))).b0.lt
      unfold StEnd at HX
      generalize (Sh.mk ⟨k', x0', x1', x2', n0', n1'', n2'⟩ sb).st (chl ++ subs.take j) = sj at HX HN
      obtain ⟨⟨jk, jk0, jk1, jk2, jts⟩, jsb⟩ := sj
      replace HX : Hid (∀ W, Kept Nil w2 W → Calls Tryz.prog 21 #[.slice a2 m2 c2, vR ⟨k', x0', x1', x2', n0', n1'', n2'⟩ (.slice a' sb.length cap')] W (fun e w' => ∃ t2 d2 a2 c2, e = .returned (vS ⟨jk, jk0, jk1, jk2, jts⟩ (.slice t2 jts.length d2) (.slice a2 jsb.length c2)) ∧ TsAt w' (okM W.heap.size w') (.slice t2 jts.length d2) jts ∧ SHolds w' (okM W.heap.size w') (.slice a2 jsb.length c2) jsb ∧ Kept Nil W w')) := HX
      have RR1 := Lib.hid r1
      have RR2 := Lib.hid r2
      clear hx hr hsb hcm hjl hsum hle hlj KW by0 by2 hm2 hh2 k1 k2 kw2 r1 r2
      generalize jts.length = tn' at HX
      generalize jsb.length = sn' at HX
      generalize sb.length = len' at HX HRow e7 hW1
      have hj0 : (0 : Int) ≤ (j : Int) := by omega
      have hjl : (j : Int) ≤ (len : Int) := by omega
      have hjc : (j : Int) ≤ (cap : Int) := by omega
      have hjc2 : j ≤ cap := by omega
      have KD := Lib.hid (Kept.refl Nil w2).drew
      have RND : Hid (∀ t2 d2 a2 c2 w3, TsAt w3 (okM w2.drew.heap.size w3) (.slice t2 tn' d2) jts → SHolds w3 (okM w2.drew.heap.size w3) (.slice a2 sn' c2) jsb → Kept Nil w2.drew w3 → _) := Lib.hid fun t2 d2 a2 c2 w3 h1 h2 k3 =>
        GB.round (P := Tryz.prog) (t := 35) (D := kS) elsQ 35 (Nat.lt_succ_self _) (by omega) BW.out (i := 5) rfl GW.out (by omega) ((Kept.refl Nil w2).drew) k3 (.mk ⟨jk, jk0, jk1, jk2, jts⟩ jsb, .slice t2 tn' d2, .slice a2 sn' c2) (arrS ⟨jk, jk0, jk1, jk2, jts⟩ (.slice t2 tn' d2) (.slice a2 sn' c2)) rfl 82 ⟨h1, h2⟩
      subst hW1
      go_wp2_with (first
        | ((with_reducible refine wpList_load_R rfl (.tmp 25) rfl _ _ rfl ⟨k', x0', x1', x2', n0', n1'', n2'⟩ (.slice a' len' cap') ?_ ?_)
           · exact HRow.out)
        | (at_builtin; refine wpList_append_run rfl (.tmp 27) (.tmp 28) 37 rfl _ _ rfl rfl RR1.out ?_)
        | (at_builtin; refine wpList_append_run rfl (.tmp 30) (.tmp 34) 37 rfl _ _ rfl rfl RR2.out ?_))
      go_region_law (first
        | (refine step_append_run rfl (.tmp 37) (.tmp 41) 35 rfl _ _ rfl rfl r3 ?_)
        | (go_simp; go_at_call 21; refine (HX.out _ KD.out).mono ?_; rintro e w4 ⟨t2, d2, a5, c5, rfl, h1, h2, k4⟩; obtain ⟨c52, hX2, a3, n3, c3, w3, r3, c53, f53, hX3, F0, F1, F2⟩ := RND.out t2 d2 a5 c5 w4 h1 h2 k4; have F0' := Lib.hid F0; have F1' := Lib.hid F1; have F2' := Lib.hid F2; clear F0 F1 F2 h1 h2 k4))
      all_goals
        have R3 := Lib.hid (RW.out.far F0'.out (fun i e => by
          rcases e with e | e
          · omega
          · have := GW.out.base i e; omega))
        have B3 : Hid (Blk (w3.setCell ⟨w.heap.size + 1 + 1, 5, none⟩ (.slice a3 n3 c3)) (w.heap.size + 1 + 1) 82 (arrS ⟨3, 0, 0, 0, []⟩ (.slice none 0 0) (.slice a3 n3 c3))) := Lib.hid (by simpa using F1'.out)
        go_wp2_with fail
        go_roundw
        case rel =>
          refine ⟨j + 1, _, ps ++ [(.mk ⟨jk, jk0, jk1, jk2, jts⟩ jsb, .slice t2 tn' d2, .slice a5 sn' c5)], by omega, by go_num, ?_, R3.out, B3.out, F2'.out⟩
          rw [trS_append, HP.out, HN.out]; rfl
        case measure => simp [intOf]; omega
    · obtain rfl : len = j := by omega
      have HE2 : Hid (trS ps = stL subs chl) := Lib.hid (by rw [HP.out, ← HL1.out]; simp)
      have HSL : Hid ((stL subs chl).length = len) := Lib.hid (by rw [stL_length, HL1.out])
      go_wp2_with (first
        | ((with_reducible refine wpList_load_Q rfl (.tmp 5) rfl _ _ rfl ⟨3, 0, 0, 0, []⟩ (.slice none 0 0) (.slice sa len sc) ?_ ?_)
           · exact World.rangeAt_of_block HB.out 0 6)
        | ((with_reducible refine wpList_store_Q rfl (.tmp 4) _ rfl _ ⟨3, 0, 0, 0, []⟩ _ _ _ _ _ _ rfl rfl zS rfl ?_ ?_)
           · exact HR.out.b1
           intro W kW bW
           have KW := Lib.hid kW
           have BW := Lib.hid bW
           clear kW bW))
      refine bodyPost_ret (results_cell_row Tryz.results21 _ _ _ _ _ _ _ rfl BW.out Tryz.underlying82 rfl (by kernel_rfl)) rfl ?_
      have hh := HG.out.sholds
      rw [HE2.out] at hh
      refine ⟨none, 0, sa, sc, by rw [HSL.out]; rfl, .nil none 0, ?_, HR.out.kept.trans KW.out (fun i hi e => by omega)⟩
      rw [HSL.out]
      exact (hh.kept KW.out (fun b o hb e => by have := hb.1; omega)).mono (fun b o hb => (hb.kept KW.out (fun e => by have := hb.1; omega)).less (by omega))
end
section
open Go.RowKit
set_option maxRecDepth 100000

structure OfR (w : World) (arr : Array Value) (k K0 K1 K2 : Int) (u : Value) (ts : List Tst) (W : World) : Prop where
  t : Two2 w 77 arr 82 zS W
  b : Blk W (w.heap.size + 1 + 1) 82 (arrS ⟨k, K0, K1, K2, []⟩ u (.slice none 0 0))
  g : GB kT 99 W (w.heap.size + 1 + 1 + 1) u ts
section
variable {w W W' : World} {arr : Array Value} {k K0 K1 K2 : Int} {u : Value} {ts : List Tst}
theorem OfR.step (r : OfR w arr k K0 K1 K2 u ts W) (kk : Kept Nil W W') : OfR w arr k K0 K1 K2 u ts W' := ⟨r.t.step kk, r.b.kept kk id, r.g.kept kk⟩
theorem OfR.far (r : OfR w arr k K0 K1 K2 u ts W) (i : Nat) (v : Value) : Two2 w 77 arr 82 zS (W.setCell ⟨w.heap.size + 1 + 1, i, none⟩ v) ∧ GB kT 99 (W.setCell ⟨w.heap.size + 1 + 1, i, none⟩ v) (w.heap.size + 1 + 1 + 1) u ts :=
  have kk := (Kept.refl (fun i => i = w.heap.size + 1 + 1) W).setCell ⟨w.heap.size + 1 + 1, i, none⟩ (.inl rfl) v
  ⟨⟨r.t.kept.trans kk (fun i hi e => by omega), r.t.b0.kept kk (fun e => by omega), r.t.b1.kept kk (fun e => by omega)⟩, r.g.keptF kk (fun k e => by omega)⟩
theorem OfR.key0 (r : OfR w arr k K0 K1 K2 u ts W) (n : Int) : OfR w arr k n K1 K2 u ts (W.setCell ⟨w.heap.size + 1 + 1, 1, none⟩ (.int .i64 n)) := ⟨(r.far _ _).1, by simpa using r.b.set_ 1 (.int .i64 n), (r.far _ _).2⟩
theorem OfR.key1 (r : OfR w arr k K0 K1 K2 u ts W) (n : Int) : OfR w arr k K0 n K2 u ts (W.setCell ⟨w.heap.size + 1 + 1, 2, none⟩ (.int .i64 n)) := ⟨(r.far _ _).1, by simpa using r.b.set_ 2 (.int .i64 n), (r.far _ _).2⟩
theorem OfR.key2 (r : OfR w arr k K0 K1 K2 u ts W) (n : Int) : OfR w arr k K0 K1 n u ts (W.setCell ⟨w.heap.size + 1 + 1, 3, none⟩ (.int .i64 n)) := ⟨(r.far _ _).1, by simpa using r.b.set_ 3 (.int .i64 n), (r.far _ _).2⟩
/-- A test is put behind the others. -/
theorem OfR.test (r : OfR w arr k K0 K1 K2 u ts W) (hl : ts.length ≤ 100) (t : Tst) : ∃ a3 n3 c3 w3, (Builtin.append_ #[80, 80] 80 #[u, .slice (some ⟨W.heap.size, 0, none⟩) 1 1]).run Tryz.prog (W.alloc (.cells #[.int .i64 t.1, .int .i64 t.2.1, .int .i64 t.2.2] 99)) = .ok (.slice a3 n3 c3) w3 ∧
    w3.cell? ⟨w.heap.size + 1 + 1, 4, none⟩ = some u ∧ w3.frozen? ⟨w.heap.size + 1 + 1, 4, none⟩ = false ∧ w.heap.size + 1 + 1 < w3.heap.size ∧ OfR w arr k K0 K1 K2 (.slice a3 n3 c3) (ts ++ [t]) (w3.setCell ⟨w.heap.size + 1 + 1, 4, none⟩ (.slice a3 n3 c3)) := by
  obtain ⟨a, c, rfl, _⟩ := r.g.shape
  have hX := r.b.lt
  obtain ⟨_, _, a3, n3, c3, w3, r3, y4, f4, hX3, k3, b3, g3⟩ := GB.round (P := Tryz.prog) (t := 80) (D := kT) elsU 80 (Nat.lt_succ_self _) (by omega) r.b (i := 4) rfl r.g (by omega) (Kept.refl Nil W) (Kept.refl Nil W) t #[.int .i64 t.1, .int .i64 t.2.1, .int .i64 t.2.2] rfl 99 trivial
  exact ⟨a3, n3, c3, w3, r3, y4, f4, hX3, r.t.far k3 (fun i e => by
    rcases e with e | e
    · omega
    · have := r.g.base i e; omega), by simpa using b3, g3⟩
end
end
section
open Go.RowKit
set_option maxRecDepth 100000

theorem eqTmR2 (x y : Int) (n m : Int) (w : World) : (Op.equalIn 10000 74 (.agg #[.int .i64 x, .int .i64 n]) (.agg #[.int .i64 y, .int .i64 m])).run Tryz.prog w = .ok (decide (x = y ∧ n = m)) w := by
  have e : ∀ x y : Int, (Op.equalIn 9999 3 (.int .i64 x) (.int .i64 y)).run Tryz.prog w = .ok (x == y) w := fun x y => run_equalIn_int w 9998 3 .i64 .i64 x y Tryz.underlying3
  rw [run_equalIn_struct w 9999 _ _ _ (by kernel_rfl) (by kernel_rfl)]
  simp only [Program.fieldsOf, Tryz.underlying74]
  by_cases h : x = y
  · subst h
    by_cases hn : n = m <;> simp [Op.eqFields, part, isAgg, run_underlying Tryz.underlying3, e, hn]
  · simp [Op.eqFields, part, isAgg, run_underlying Tryz.underlying3, e, h]
theorem eqlTmR (x y n m : Int) (b : Bool) (hb : decide (x = y ∧ n = m) = b) (w : World) : (binOp .eql 74 (.agg #[.int .i64 x, .int .i64 n]) (.agg #[.int .i64 y, .int .i64 m])).run Tryz.prog w = .ok (.bool b) w := by
  rw [run_eql_struct, eqTmR2, hb]; rfl
theorem isV_one {x : Bool} : isV x = 1 ↔ x = true := by cases x <;> simp [isV]
set_option maxHeartbeats 16000000 in
theorem ofTerms_any (k : Int) (hk3 : k ≠ 3) (x0 x1 x2 : Bool) (n0 n1 n2 : Int) (chl : List Sh) (hc : chl.length ≤ 100) (ok1 : Nat → Nat → Prop) (ac : Option Addr) (cc : Nat) (v : Value) (hv : ∃ a n c, v = .slice a n c) (w : World) (h1 : Holds cR w ok1 (.slice ac chl.length cc) chl) :
    Calls Tryz.prog 21 #[.slice ac chl.length cc, vR ⟨k, x0, x1, x2, n0, n1, n2⟩ v] w (StEnd ⟨k, kF x0 n0, kF x1 n1, kF x2 n2, tstL chl ⟨k, x0, x1, x2, n0, n1, n2⟩⟩ [] w) := by
  obtain ⟨va, vn, vc, rfl⟩ := hv
  have CB : Hid (∀ u W, Kept Nil w W → Calls Tryz.prog 56 #[.slice ac chl.length cc, .int .i64 u] W fun e w' => e = .returned (.tuple #[plV u (fpL chl u 0), .bool (fpL chl u 0).isSome]) ∧ Kept Nil W w') := Lib.hid fun u W kW => refBound_any chl hc u ok1 ac cc W (h1.keptN kW)
  have hkb : (k == 3) = false := by simpa using hk3
  clear h1 hc
  generalize chl.length = n1' at CB ⊢
  obtain ⟨T0, hT0⟩ : ∃ T, T = tst0 chl ⟨k, x0, x1, x2, n0, n1, n2⟩ := ⟨_, rfl⟩
  obtain ⟨T1, hT1⟩ : ∃ T, T = tst1 chl ⟨k, x0, x1, x2, n0, n1, n2⟩ := ⟨_, rfl⟩
  obtain ⟨T2, hT2⟩ : ∃ T, T = tst2 chl ⟨k, x0, x1, x2, n0, n1, n2⟩ := ⟨_, rfl⟩
  have HTL : Hid (tstL chl ⟨k, x0, x1, x2, n0, n1, n2⟩ = T0 ++ T1 ++ T2) := Lib.hid (by rw [hT0, hT1, hT2]; rfl)
  have HL0 : Hid (T0.length ≤ 1) := Lib.hid (by rw [hT0]; exact (tst_len chl ⟨k, x0, x1, x2, n0, n1, n2⟩).1)
  have HL1 : Hid (T1.length ≤ 1) := Lib.hid (by rw [hT1]; exact (tst_len chl ⟨k, x0, x1, x2, n0, n1, n2⟩).2.1)
  have HT0 := Lib.hid hT0
  have HT1 := Lib.hid hT1
  have HT2 := Lib.hid hT2
  clear hT0 hT1 hT2
  have R0 : Hid (OfR w (arrR ⟨k, x0, x1, x2, n0, n1, n2⟩ (.slice va vn vc)) k 0 0 0 (.slice none 0 0) [] (((w.alloc (.cells (arrR ⟨k, x0, x1, x2, n0, n1, n2⟩ (.slice va vn vc)) 77)).alloc (.cells zS 82)).alloc (.cells (arrS ⟨k, 0, 0, 0, []⟩ (.slice none 0 0) (.slice none 0 0)) 82))) := Lib.hid ⟨(Two2.start w 77 (arrR ⟨k, x0, x1, x2, n0, n1, n2⟩ (.slice va vn vc)) 82 zS).alloc _, by
    have := Blk.new ((w.alloc (.cells (arrR ⟨k, x0, x1, x2, n0, n1, n2⟩ (.slice va vn vc)) 77)).alloc (.cells zS 82)) 82 (arrS ⟨k, 0, 0, 0, []⟩ (.slice none 0 0) (.slice none 0 0))
    simpa using this, GB.nil _⟩
  obtain ⟨K0, hK0⟩ : ∃ K, K = kF x0 n0 := ⟨_, rfl⟩
  obtain ⟨K1, hK1⟩ : ∃ K, K = kF x1 n1 := ⟨_, rfl⟩
  obtain ⟨K2, hK2⟩ : ∃ K, K = kF x2 n2 := ⟨_, rfl⟩
  have HK0 := Lib.hid hK0
  have HK1 := Lib.hid hK1
  have HK2 := Lib.hid hK2
  rw [← hK0, ← hK1, ← hK2]
  clear hK0 hK1 hK2
  go_enter Tryz.func21, Tryz.ntmps21
  go_wp2_with fail
  go_loopw [9] (fun i wr => (i = .int .i64 0 ∧ ∃ u, OfR w (arrR ⟨k, x0, x1, x2, n0, n1, n2⟩ (.slice va vn vc)) k 0 0 0 u [] wr) ∨ (i = .int .i64 1 ∧ ∃ u, OfR w (arrR ⟨k, x0, x1, x2, n0, n1, n2⟩ (.slice va vn vc)) k K0 0 0 u T0 wr) ∨ (i = .int .i64 2 ∧ ∃ u, OfR w (arrR ⟨k, x0, x1, x2, n0, n1, n2⟩ (.slice va vn vc)) k K0 K1 0 u (T0 ++ T1) wr) ∨ (i = .int .i64 3 ∧ ∃ u, OfR w (arrR ⟨k, x0, x1, x2, n0, n1, n2⟩ (.slice va vn vc)) k K0 K1 K2 u (T0 ++ T1 ++ T2) wr)) (fun i _ => (3 - intOf i).toNat)
  case atStart => exact .inl ⟨rfl, _, R0.out⟩
  case round =>
    rename World => wo
    rcases hrel with ⟨rfl, u, h⟩ | ⟨rfl, u, h⟩ | ⟨rfl, u, h⟩ | ⟨rfl, u, h⟩
    · have HO := Lib.hid h
      have e1 := h.t.b0.cell 1
      have e2 := h.t.b0.cell 2
      have y1 := h.b.cell 1
      have fy := h.b.frozen 1
      have hX : w.heap.size + 1 + 1 < wo.heap.size := h.b.lt
      have hX0 : w.heap.size < wo.heap.size := by omega
      simp [isV] at e1 e2 y1
      clear h R0
      cases x0
      · have EK : Hid (K0 = n0) := Lib.hid (by rw [HK0.out]; rfl)
        have ET : Hid (T0 = []) := Lib.hid (by rw [HT0.out]; rfl)
        simp at e1
        go_wp2_with fail
        go_roundw
        case rel => exact .inr (.inl ⟨rfl, _, by rw [EK.out, ET.out]; exact HO.out.key0 n0⟩)
        case measure => decide
      · have EK : Hid (K0 = 0) := Lib.hid (by rw [HK0.out]; rfl)
        simp at e1
        have CB2 := Lib.hid (CB.out n0 wo HO.out.t.kept)
        obtain ⟨ua, un, uc, rfl⟩ : ∃ a n c, u = .slice a n c := by obtain ⟨x, y, e, _⟩ := HO.out.g.shape; exact ⟨x, _, y, e⟩
        cases hfp : fpL chl n0 0 with
        | some q =>
          obtain ⟨bk, g⟩ := q
          rw [hfp] at CB2
          have ET : Hid (T0 = [(0, (bk : Int), g)]) := Lib.hid (by rw [HT0.out]; simp [tst0, hfp])
          replace CB2 : Hid (Calls Tryz.prog 56 #[.slice ac n1' cc, .int .i64 n0] wo fun e w' => e = .returned (.tuple #[.agg #[.int .i64 n0, .int .i64 (bk : Int), .int .i64 g], .bool true]) ∧ Kept Nil wo w') := CB2
          clear hfp
          go_wp2_with fail
          refine CB2.out.mono ?_
          rintro e w2 ⟨rfl, k2⟩
          have H3 := HO.out.step (k2.alloc (.cells #[.int .i64 n0, .int .i64 (bk : Int), .int .i64 g] 114))
          obtain ⟨a3, n3, c3, w3, r3, y4, f4, hX3, R3⟩ := H3.test (by have := HL0.out; have := HL1.out; simp <;> omega) (0, (bk : Int), g)
          have x4 := H3.b.cell 4
          simp at x4
          have hX2 := H3.b.lt
          have hs2 : (w2.alloc (.cells #[.int .i64 n0, .int .i64 (bk : Int), .int .i64 g] 114)).heap.size = w2.heap.size + 1 := by simp
          rw [hs2] at r3 hX2
          clear hs2
          have RR := Lib.hid r3
          have RF := Lib.hid R3
          clear r3 R3 H3 k2 HO e1 e2 y1 fy
          go_wp2_with (at_builtin; refine wpList_append_run rfl (.tmp 76) (.tmp 83) 80 rfl _ _ rfl rfl RR.out ?_)
          go_roundw
          case rel => exact .inr (.inl ⟨rfl, _, by rw [EK.out, ET.out]; exact RF.out⟩)
          case measure => decide
        | none =>
          rw [hfp] at CB2
          have ET : Hid (T0 = []) := Lib.hid (by rw [HT0.out]; simp [tst0, hfp])
          replace CB2 : Hid (Calls Tryz.prog 56 #[.slice ac n1' cc, .int .i64 n0] wo fun e w' => e = .returned (.tuple #[.agg #[.int .i64 0, .int .i64 0, .int .i64 0], .bool false]) ∧ Kept Nil wo w') := CB2
          clear hfp
          go_wp2_with fail
          refine CB2.out.mono ?_
          rintro e w2 ⟨rfl, k2⟩
          have H3 := Lib.hid (HO.out.step (k2.alloc (.cells #[.int .i64 0, .int .i64 0, .int .i64 0] 114)))
          clear k2 HO e1 e2 y1 fy
          go_wp2_with fail
          go_loopw [12] (fun i wr => i = .int .i64 0 ∧ OfR w (arrR ⟨k, true, x1, x2, n0, n1, n2⟩ (.slice va vn vc)) k 0 0 0 (.slice ua un uc) [] wr) (fun _ _ => 0)
          case atStart => exact ⟨rfl, H3.out⟩
          case round =>
            obtain ⟨rfl, h⟩ := hrel
            have H4 := Lib.hid h
            clear h H3
            go_wp2_with fail
            go_roundw
            case rel => exact .inr (.inl ⟨rfl, _, by rw [EK.out, ET.out]; exact H4.out⟩)
            case measure => decide
    · have HO := Lib.hid h
      have e1 := h.t.b0.cell 3
      have e2 := h.t.b0.cell 4
      have y1 := h.b.cell 2
      have fy := h.b.frozen 2
      have hX : w.heap.size + 1 + 1 < wo.heap.size := h.b.lt
      have hX0 : w.heap.size < wo.heap.size := by omega
      simp [isV] at e1 e2 y1
      clear h R0
      cases x1
      · have EK : Hid (K1 = n1) := Lib.hid (by rw [HK1.out]; rfl)
        have ET : Hid (T1 = []) := Lib.hid (by rw [HT1.out]; rfl)
        simp at e1
        go_wp2_with fail
        go_roundw
        case rel => exact .inr (.inr (.inl ⟨rfl, _, by rw [EK.out, ET.out, List.append_nil]; exact HO.out.key1 n1⟩))
        case measure => decide
      · have EK : Hid (K1 = 0) := Lib.hid (by rw [HK1.out]; rfl)
        simp at e1
        have CB2 := Lib.hid (CB.out n1 wo HO.out.t.kept)
        obtain ⟨ua, un, uc, rfl⟩ : ∃ a n c, u = .slice a n c := by obtain ⟨x, y, e, _⟩ := HO.out.g.shape; exact ⟨x, _, y, e⟩
        cases hfp : fpL chl n1 0 with
        | some q =>
          obtain ⟨bk, g⟩ := q
          rw [hfp] at CB2
          have ET : Hid (T1 = [(1, (bk : Int), g)]) := Lib.hid (by rw [HT1.out]; simp [tst1, hfp])
          replace CB2 : Hid (Calls Tryz.prog 56 #[.slice ac n1' cc, .int .i64 n1] wo fun e w' => e = .returned (.tuple #[.agg #[.int .i64 n1, .int .i64 (bk : Int), .int .i64 g], .bool true]) ∧ Kept Nil wo w') := CB2
          clear hfp
          go_wp2_with fail
          refine CB2.out.mono ?_
          rintro e w2 ⟨rfl, k2⟩
          have H3 := HO.out.step (k2.alloc (.cells #[.int .i64 n1, .int .i64 (bk : Int), .int .i64 g] 114))
          obtain ⟨a3, n3, c3, w3, r3, y4, f4, hX3, R3⟩ := H3.test (by have := HL0.out; have := HL1.out; simp <;> omega) (1, (bk : Int), g)
          have x4 := H3.b.cell 4
          simp at x4
          have hX2 := H3.b.lt
          have hs2 : (w2.alloc (.cells #[.int .i64 n1, .int .i64 (bk : Int), .int .i64 g] 114)).heap.size = w2.heap.size + 1 := by simp
          rw [hs2] at r3 hX2
          clear hs2
          have RR := Lib.hid r3
          have RF := Lib.hid R3
          clear r3 R3 H3 k2 HO e1 e2 y1 fy
          go_wp2_with (at_builtin; refine wpList_append_run rfl (.tmp 76) (.tmp 83) 80 rfl _ _ rfl rfl RR.out ?_)
          go_roundw
          case rel => exact .inr (.inr (.inl ⟨rfl, _, by rw [EK.out, ET.out]; exact RF.out⟩))
          case measure => decide
        | none =>
          rw [hfp] at CB2
          have HTN : Hid (T1 = if x0 = true ∧ n1 = n0 then [(1, -1, 0)] else []) := Lib.hid (by rw [HT1.out]; simp [tst1, hfp])
          replace CB2 : Hid (Calls Tryz.prog 56 #[.slice ac n1' cc, .int .i64 n1] wo fun e w' => e = .returned (.tuple #[.agg #[.int .i64 0, .int .i64 0, .int .i64 0], .bool false]) ∧ Kept Nil wo w') := CB2
          clear hfp
          obtain ⟨z0, hz0⟩ : ∃ z, isV x0 = z := ⟨_, rfl⟩
          obtain ⟨q0, hq0⟩ : ∃ q, decide (z0 = 1 ∧ n0 = n1) = q := ⟨_, rfl⟩
          have EQ0 := Lib.hid (fun W => eqlTmR z0 1 n0 n1 q0 hq0 W)
          have DQ0 : Hid (q0 = decide (x0 = true ∧ n1 = n0)) := Lib.hid (by rw [← hq0, ← hz0]; exact decide_eq_decide.2 ⟨fun ⟨a, c⟩ => ⟨isV_one.1 a, c.symm⟩, fun ⟨a, c⟩ => ⟨isV_one.2 a, c.symm⟩⟩)
          have HZ0 := Lib.hid hz0
          clear hq0 hz0
          go_wp2_with fail
          refine CB2.out.mono ?_
          rintro e w2 ⟨rfl, k2⟩
          have H3 := Lib.hid (HO.out.step (k2.alloc (.cells #[.int .i64 0, .int .i64 0, .int .i64 0] 114)))
          clear k2 HO e1 e2 y1 fy
          go_wp2_with fail
          cases q0
          · have D0 : Hid (¬ (x0 = true ∧ n1 = n0)) := Lib.hid (by simpa using DQ0.out)
            have ET : Hid (T1 = []) := Lib.hid (by rw [HTN.out]; rw [if_neg D0.out])
            go_loopw [12] (fun i wr => (i = .int .i64 0 ∨ i = .int .i64 1) ∧ OfR w (arrR ⟨k, x0, true, x2, n0, n1, n2⟩ (.slice va vn vc)) k K0 0 0 (.slice ua un uc) T0 wr) (fun i _ => (3 - intOf i).toNat)
            case atStart => exact ⟨.inl rfl, H3.out⟩
            case round =>
              obtain ⟨hi, h⟩ := hrel
              have H4 := Lib.hid h
              have ce1 := h.t.b0.cell 1
              have ce2 := h.t.b0.cell 2
              have ce3 := h.t.b0.cell 3
              have ce4 := h.t.b0.cell 4
              simp at ce1 ce2 ce3 ce4
              rw [HZ0.out] at ce1
              simp [isV] at ce3
              clear h H3
              rcases hi with rfl | rfl
              · have eq := EQ0.out
                go_wp2_with fail
                go_quiet (fail)
                go_wp2_with fail
                go_roundw
                case rel => exact ⟨.inr rfl, H4.out.step ((Kept.refl Nil _).drewN _)⟩
                case measure => decide
              · go_wp2_with fail
                go_roundw
                case rel => exact .inr (.inr (.inl ⟨rfl, _, by rw [EK.out, ET.out, List.append_nil]; exact H4.out⟩))
                case measure => decide
          · have D0 : Hid (x0 = true ∧ n1 = n0) := Lib.hid (by simpa using DQ0.out)
            have ET : Hid (T1 = [(1, -1, 0)]) := Lib.hid (by rw [HTN.out]; rw [if_pos D0.out])
            go_loopw [12] (fun i wr => (i = .int .i64 0) ∧ OfR w (arrR ⟨k, x0, true, x2, n0, n1, n2⟩ (.slice va vn vc)) k K0 0 0 (.slice ua un uc) T0 wr) (fun i _ => (3 - intOf i).toNat)
            case atStart => exact ⟨rfl, H3.out⟩
            case round =>
              obtain ⟨hi, h⟩ := hrel
              have H4 := Lib.hid h
              have ce1 := h.t.b0.cell 1
              have ce2 := h.t.b0.cell 2
              have ce3 := h.t.b0.cell 3
              have ce4 := h.t.b0.cell 4
              simp at ce1 ce2 ce3 ce4
              rw [HZ0.out] at ce1
              simp [isV] at ce3
              clear h H3
              subst hi
              · have eq := EQ0.out
                go_wp2_with fail
                go_quiet (fail)
                generalize hwd : World.drewN wr _ = wd
                have H5 := H4.out.step (show Kept Nil wr wd by rw [← hwd]; exact (Kept.refl Nil wr).drewN _)
                obtain ⟨a3, n3, c3, w3, r3, y4, f4, hX3, R3⟩ := H5.test (by have := HL0.out; have := HL1.out; simp <;> omega) (1, -1, 0)
                have x4 := H5.b.cell 4
                simp at x4
                have hX2 := H5.b.lt
                have RR := Lib.hid r3
                have RF := Lib.hid R3
                clear r3 R3 H5 H4 eq hwd ce1 ce2 ce3 ce4
                go_wp2_with (at_builtin; refine wpList_append_run rfl (.tmp 101) (.tmp 105) 80 rfl _ _ rfl rfl RR.out ?_)
                go_roundw
                case rel => exact .inr (.inr (.inl ⟨rfl, _, by rw [EK.out, ET.out]; exact RF.out⟩))
                case measure => decide
    · have HO := Lib.hid h
      have e1 := h.t.b0.cell 5
      have e2 := h.t.b0.cell 6
      have y1 := h.b.cell 3
      have fy := h.b.frozen 3
      have hX : w.heap.size + 1 + 1 < wo.heap.size := h.b.lt
      have hX0 : w.heap.size < wo.heap.size := by omega
      simp [isV] at e1 e2 y1
      clear h R0
      cases x2
      · have EK : Hid (K2 = n2) := Lib.hid (by rw [HK2.out]; rfl)
        have ET : Hid (T2 = []) := Lib.hid (by rw [HT2.out]; rfl)
        simp at e1
        go_wp2_with fail
        go_roundw
        case rel => exact .inr (.inr (.inr ⟨rfl, _, by rw [EK.out, ET.out, List.append_nil]; exact HO.out.key2 n2⟩))
        case measure => decide
      · have EK : Hid (K2 = 0) := Lib.hid (by rw [HK2.out]; rfl)
        simp at e1
        have CB2 := Lib.hid (CB.out n2 wo HO.out.t.kept)
        obtain ⟨ua, un, uc, rfl⟩ : ∃ a n c, u = .slice a n c := by obtain ⟨x, y, e, _⟩ := HO.out.g.shape; exact ⟨x, _, y, e⟩
        cases hfp : fpL chl n2 0 with
        | some q =>
          obtain ⟨bk, g⟩ := q
          rw [hfp] at CB2
          have ET : Hid (T2 = [(2, (bk : Int), g)]) := Lib.hid (by rw [HT2.out]; simp [tst2, hfp])
          replace CB2 : Hid (Calls Tryz.prog 56 #[.slice ac n1' cc, .int .i64 n2] wo fun e w' => e = .returned (.tuple #[.agg #[.int .i64 n2, .int .i64 (bk : Int), .int .i64 g], .bool true]) ∧ Kept Nil wo w') := CB2
          clear hfp
          go_wp2_with fail
          refine CB2.out.mono ?_
          rintro e w2 ⟨rfl, k2⟩
          have H3 := HO.out.step (k2.alloc (.cells #[.int .i64 n2, .int .i64 (bk : Int), .int .i64 g] 114))
          obtain ⟨a3, n3, c3, w3, r3, y4, f4, hX3, R3⟩ := H3.test (by have := HL0.out; have := HL1.out; simp <;> omega) (2, (bk : Int), g)
          have x4 := H3.b.cell 4
          simp at x4
          have hX2 := H3.b.lt
          have hs2 : (w2.alloc (.cells #[.int .i64 n2, .int .i64 (bk : Int), .int .i64 g] 114)).heap.size = w2.heap.size + 1 := by simp
          rw [hs2] at r3 hX2
          clear hs2
          have RR := Lib.hid r3
          have RF := Lib.hid R3
          clear r3 R3 H3 k2 HO e1 e2 y1 fy
          go_wp2_with (at_builtin; refine wpList_append_run rfl (.tmp 76) (.tmp 83) 80 rfl _ _ rfl rfl RR.out ?_)
          go_roundw
          case rel => exact .inr (.inr (.inr ⟨rfl, _, by rw [EK.out, ET.out]; exact RF.out⟩))
          case measure => decide
        | none =>
          rw [hfp] at CB2
          have HTN : Hid (T2 = if x0 = true ∧ n2 = n0 then [(2, -1, 0)] else if x1 = true ∧ n2 = n1 then [(2, -1, 1)] else []) := Lib.hid (by rw [HT2.out]; simp [tst2, hfp])
          replace CB2 : Hid (Calls Tryz.prog 56 #[.slice ac n1' cc, .int .i64 n2] wo fun e w' => e = .returned (.tuple #[.agg #[.int .i64 0, .int .i64 0, .int .i64 0], .bool false]) ∧ Kept Nil wo w') := CB2
          clear hfp
          obtain ⟨z0, hz0⟩ : ∃ z, isV x0 = z := ⟨_, rfl⟩
          obtain ⟨q0, hq0⟩ : ∃ q, decide (z0 = 1 ∧ n0 = n2) = q := ⟨_, rfl⟩
          have EQ0 := Lib.hid (fun W => eqlTmR z0 1 n0 n2 q0 hq0 W)
          have DQ0 : Hid (q0 = decide (x0 = true ∧ n2 = n0)) := Lib.hid (by rw [← hq0, ← hz0]; exact decide_eq_decide.2 ⟨fun ⟨a, c⟩ => ⟨isV_one.1 a, c.symm⟩, fun ⟨a, c⟩ => ⟨isV_one.2 a, c.symm⟩⟩)
          have HZ0 := Lib.hid hz0
          clear hq0 hz0
          obtain ⟨z1, hz1⟩ : ∃ z, isV x1 = z := ⟨_, rfl⟩
          obtain ⟨q1, hq1⟩ : ∃ q, decide (z1 = 1 ∧ n1 = n2) = q := ⟨_, rfl⟩
          have EQ1 := Lib.hid (fun W => eqlTmR z1 1 n1 n2 q1 hq1 W)
          have DQ1 : Hid (q1 = decide (x1 = true ∧ n2 = n1)) := Lib.hid (by rw [← hq1, ← hz1]; exact decide_eq_decide.2 ⟨fun ⟨a, c⟩ => ⟨isV_one.1 a, c.symm⟩, fun ⟨a, c⟩ => ⟨isV_one.2 a, c.symm⟩⟩)
          have HZ1 := Lib.hid hz1
          clear hq1 hz1
          go_wp2_with fail
          refine CB2.out.mono ?_
          rintro e w2 ⟨rfl, k2⟩
          have H3 := Lib.hid (HO.out.step (k2.alloc (.cells #[.int .i64 0, .int .i64 0, .int .i64 0] 114)))
          clear k2 HO e1 e2 y1 fy
          go_wp2_with fail
          cases q0
          · have D0 : Hid (¬ (x0 = true ∧ n2 = n0)) := Lib.hid (by simpa using DQ0.out)
            cases q1
            · have D1 : Hid (¬ (x1 = true ∧ n2 = n1)) := Lib.hid (by simpa using DQ1.out)
              have ET : Hid (T2 = []) := Lib.hid (by rw [HTN.out]; rw [if_neg D0.out]; rw [if_neg D1.out])
              go_loopw [12] (fun i wr => (i = .int .i64 0 ∨ i = .int .i64 1 ∨ i = .int .i64 2) ∧ OfR w (arrR ⟨k, x0, x1, true, n0, n1, n2⟩ (.slice va vn vc)) k K0 K1 0 (.slice ua un uc) (T0 ++ T1) wr) (fun i _ => (3 - intOf i).toNat)
              case atStart => exact ⟨.inl rfl, H3.out⟩
              case round =>
                obtain ⟨hi, h⟩ := hrel
                have H4 := Lib.hid h
                have ce1 := h.t.b0.cell 1
                have ce2 := h.t.b0.cell 2
                have ce3 := h.t.b0.cell 3
                have ce4 := h.t.b0.cell 4
                have ce5 := h.t.b0.cell 5
                have ce6 := h.t.b0.cell 6
                simp at ce1 ce2 ce3 ce4 ce5 ce6
                rw [HZ0.out] at ce1
                rw [HZ1.out] at ce3
                simp [isV] at ce5
                clear h H3
                rcases hi with rfl | rfl | rfl
                · have eq := EQ0.out
                  go_wp2_with fail
                  go_quiet (fail)
                  go_wp2_with fail
                  go_roundw
                  case rel => exact ⟨.inr (.inl rfl), H4.out.step ((Kept.refl Nil _).drewN _)⟩
                  case measure => decide
                · have eq := EQ1.out
                  go_wp2_with fail
                  go_quiet (fail)
                  go_wp2_with fail
                  go_roundw
                  case rel => exact ⟨.inr (.inr rfl), H4.out.step ((Kept.refl Nil _).drewN _)⟩
                  case measure => decide
                · go_wp2_with fail
                  go_roundw
                  case rel => exact .inr (.inr (.inr ⟨rfl, _, by rw [EK.out, ET.out, List.append_nil]; exact H4.out⟩))
                  case measure => decide
            · have D1 : Hid (x1 = true ∧ n2 = n1) := Lib.hid (by simpa using DQ1.out)
              have ET : Hid (T2 = [(2, -1, 1)]) := Lib.hid (by rw [HTN.out]; rw [if_neg D0.out]; rw [if_pos D1.out])
              go_loopw [12] (fun i wr => (i = .int .i64 0 ∨ i = .int .i64 1) ∧ OfR w (arrR ⟨k, x0, x1, true, n0, n1, n2⟩ (.slice va vn vc)) k K0 K1 0 (.slice ua un uc) (T0 ++ T1) wr) (fun i _ => (3 - intOf i).toNat)
              case atStart => exact ⟨.inl rfl, H3.out⟩
              case round =>
                obtain ⟨hi, h⟩ := hrel
                have H4 := Lib.hid h
                have ce1 := h.t.b0.cell 1
                have ce2 := h.t.b0.cell 2
                have ce3 := h.t.b0.cell 3
                have ce4 := h.t.b0.cell 4
                have ce5 := h.t.b0.cell 5
                have ce6 := h.t.b0.cell 6
                simp at ce1 ce2 ce3 ce4 ce5 ce6
                rw [HZ0.out] at ce1
                rw [HZ1.out] at ce3
                simp [isV] at ce5
                clear h H3
                rcases hi with rfl | rfl
                · have eq := EQ0.out
                  go_wp2_with fail
                  go_quiet (fail)
                  go_wp2_with fail
                  go_roundw
                  case rel => exact ⟨.inr rfl, H4.out.step ((Kept.refl Nil _).drewN _)⟩
                  case measure => decide
                · have eq := EQ1.out
                  go_wp2_with fail
                  go_quiet (fail)
                  generalize hwd : World.drewN wr _ = wd
                  have H5 := H4.out.step (show Kept Nil wr wd by rw [← hwd]; exact (Kept.refl Nil wr).drewN _)
                  obtain ⟨a3, n3, c3, w3, r3, y4, f4, hX3, R3⟩ := H5.test (by have := HL0.out; have := HL1.out; simp <;> omega) (2, -1, 1)
                  have x4 := H5.b.cell 4
                  simp at x4
                  have hX2 := H5.b.lt
                  have RR := Lib.hid r3
                  have RF := Lib.hid R3
                  clear r3 R3 H5 H4 eq hwd ce1 ce2 ce3 ce4 ce5 ce6
                  go_wp2_with (at_builtin; refine wpList_append_run rfl (.tmp 101) (.tmp 105) 80 rfl _ _ rfl rfl RR.out ?_)
                  go_roundw
                  case rel => exact .inr (.inr (.inr ⟨rfl, _, by rw [EK.out, ET.out]; exact RF.out⟩))
                  case measure => decide
          · have D0 : Hid (x0 = true ∧ n2 = n0) := Lib.hid (by simpa using DQ0.out)
            have ET : Hid (T2 = [(2, -1, 0)]) := Lib.hid (by rw [HTN.out]; rw [if_pos D0.out])
            go_loopw [12] (fun i wr => (i = .int .i64 0) ∧ OfR w (arrR ⟨k, x0, x1, true, n0, n1, n2⟩ (.slice va vn vc)) k K0 K1 0 (.slice ua un uc) (T0 ++ T1) wr) (fun i _ => (3 - intOf i).toNat)
            case atStart => exact ⟨rfl, H3.out⟩
            case round =>
              obtain ⟨hi, h⟩ := hrel
              have H4 := Lib.hid h
              have ce1 := h.t.b0.cell 1
              have ce2 := h.t.b0.cell 2
              have ce3 := h.t.b0.cell 3
              have ce4 := h.t.b0.cell 4
              have ce5 := h.t.b0.cell 5
              have ce6 := h.t.b0.cell 6
              simp at ce1 ce2 ce3 ce4 ce5 ce6
              rw [HZ0.out] at ce1
              rw [HZ1.out] at ce3
              simp [isV] at ce5
              clear h H3
              subst hi
              · have eq := EQ0.out
                go_wp2_with fail
                go_quiet (fail)
                generalize hwd : World.drewN wr _ = wd
                have H5 := H4.out.step (show Kept Nil wr wd by rw [← hwd]; exact (Kept.refl Nil wr).drewN _)
                obtain ⟨a3, n3, c3, w3, r3, y4, f4, hX3, R3⟩ := H5.test (by have := HL0.out; have := HL1.out; simp <;> omega) (2, -1, 0)
                have x4 := H5.b.cell 4
                simp at x4
                have hX2 := H5.b.lt
                have RR := Lib.hid r3
                have RF := Lib.hid R3
                clear r3 R3 H5 H4 eq hwd ce1 ce2 ce3 ce4 ce5 ce6
                go_wp2_with (at_builtin; refine wpList_append_run rfl (.tmp 101) (.tmp 105) 80 rfl _ _ rfl rfl RR.out ?_)
                go_roundw
                case rel => exact .inr (.inr (.inr ⟨rfl, _, by rw [EK.out, ET.out]; exact RF.out⟩))
                case measure => decide
    · have HO := Lib.hid h
      obtain ⟨ua, uc, rfl, huc⟩ := HO.out.g.shape
      have HTs : Hid (tstL chl ⟨k, x0, x1, x2, n0, n1, n2⟩ = T0 ++ T1 ++ T2) := Lib.hid HTL.out
      generalize T0 ++ T1 ++ T2 = TS at HO HTs huc
      obtain ⟨un, hun⟩ : ∃ n, TS.length = n := ⟨_, rfl⟩
      rw [hun] at HO huc
      have HUN := Lib.hid hun
      clear h R0 hun
      go_wp2_with (first
        | ((with_reducible refine wpList_load_Q rfl (.tmp 5) rfl _ _ rfl ⟨k, K0, K1, K2, []⟩ (.slice ua un uc) (.slice none 0 0) ?_ ?_)
           · exact World.rangeAt_of_block HO.out.b 0 6)
        | ((with_reducible refine wpList_store_Q rfl (.tmp 4) _ rfl _ ⟨k, K0, K1, K2, []⟩ _ _ _ _ _ _ rfl rfl zS rfl ?_ ?_)
           · exact HO.out.t.b1
           intro W kW bW
           have KW := Lib.hid kW
           have BW := Lib.hid bW
           clear kW bW))
      refine bodyPost_ret (results_cell_row Tryz.results21 _ _ _ _ _ _ _ rfl BW.out Tryz.underlying82 rfl (by kernel_rfl)) rfl ?_
      have htt := HO.out.g.tsAt
      rw [HTs.out]
      refine ⟨ua, uc, none, 0, by show _ = Ending.returned (vS ⟨k, K0, K1, K2, TS⟩ (.slice ua TS.length uc) (.slice none 0 0)); rw [HUN.out], ?_, .nil none 0, HO.out.t.kept.trans KW.out (fun i hi e => by omega)⟩
      show TsAt _ _ (.slice ua TS.length uc) TS
      rw [HUN.out]
      exact (htt.kept KW.out (fun b o hb e => by have := hb.1; omega)).mono (fun b o hb => (hb.kept KW.out (fun e => by have := hb.1; omega)).less (by omega))
/-- The reference's Of of any condition. -/
theorem of_all : ∀ s : Sh, OfS s := Sh.ind fun hd subs ih => by
  intro chl ok1 ok2 ac cc a cap w h1 h2 hc hk
  obtain ⟨d, hd'⟩ := hk
  obtain ⟨k, x0, x1, x2, n0, n1, n2⟩ := hd
  rw [Sh.count] at hc
  by_cases hk3 : k = 3
  · subst hk3
    rcases chk_zero hd' with ⟨_, _, hs⟩ | ⟨h12, _⟩
    · rw [st_mk, if_pos rfl]
      exact ofNcc_any x0 x1 x2 n0 n1 n2 subs (Lib.hid ih) ok1 ok2 chl ac cc a cap w h1 h2 (by omega) ⟨d + 1, hs⟩
    · have : (3 : Int) = 1 ∨ (3 : Int) = 2 := h12
      omega
  · rw [st_mk, if_neg hk3]
    exact ofTerms_any k hk3 x0 x1 x2 n0 n1 n2 chl (by omega) ok1 ac cc _ ⟨_, _, _, rfl⟩ w h1
end
section
open Go.RowKit
set_option maxRecDepth 100000

theorem mem_count {l : List Sh} {x : Sh} {n : Nat} (hc : countL l ≤ n) (h : x ∈ l) : x.count ≤ n := Nat.le_trans (count_mem h) hc
/-- The reference's conditions, in memory behind the call's beginning. -/
def ListEnd (l : List Sh) (w : World) (e : Ending) (w' : World) : Prop :=
  ∃ a' cap', e = .returned (.slice a' l.length cap') ∧ Holds cR w' (okM w.heap.size w') (.slice a' l.length cap') l ∧ Kept Nil w w'
set_option maxHeartbeats 4000000 in
theorem refL_any (l : List Sh) (hc : countL l ≤ 5000) (ok : Nat → Nat → Prop) (a : Option Addr) (cap : Nat) (w : World) (h : Holds cA w ok (.slice a l.length cap) l) :
    Calls Tryz.prog 8 #[.slice a l.length cap] w (ListEnd l w) := by
  have HH := Lib.hid h
  have HC := Lib.hid hc
  obtain ⟨len, hlen⟩ : ∃ len, l.length = len := ⟨_, rfl⟩
  rw [hlen] at HH ⊢
  have HL := Lib.hid hlen
  have hLen : len ≤ 5000 := by have := length_countL l; omega
  clear h hc hlen
  go_enter Tryz.func8, Tryz.ntmps8
  go_wp2_with fail
  go_loopw [3, 8] (fun u i wr => ∃ (j : Nat) (ps : Prs), j ≤ len ∧ i = .int .i64 j ∧ ps.map (·.1) = l.take j ∧ CRow cR 77 wr w.heap.size u ps ∧ Kept Nil w wr) (fun _ i _ => len - (intOf i).toNat)
  case atStart => exact ⟨0, [], by omega, rfl, rfl, .nil _ _ _ _, Kept.refl _ _⟩
  case round =>
    obtain ⟨j, ps, hj, rfl, hps, hCr, hK⟩ := hrel
    have HCr := Lib.hid hCr
    have HK := Lib.hid hK
    have HP := Lib.hid hps
    clear hCr hps hK
    by_cases hlt : j < len
    · obtain ⟨⟨⟨k', x0', x1', x2', n0', n1', n2'⟩, sb⟩, hx⟩ : ∃ x, l[j]? = some x := ⟨_, List.getElem?_eq_getElem (by have := HL.out; omega)⟩
      obtain ⟨b, o, a', cap', rfl, hok, hr, hs⟩ := (HH.out.keptN HK.out).at_ hx
      have hcx : (Sh.mk ⟨k', x0', x1', x2', n0', n1', n2'⟩ sb).count ≤ 5000 := mem_count HC.out (List.mem_of_getElem? hx)
      have HX2 : Hid (∀ w, Holds cA w ok (.slice a' sb.length cap') sb → Calls Tryz.prog 22 #[vA ⟨k', x0', x1', x2', n0', n1', n2'⟩ (.slice a' sb.length cap')] w fun e w' => ∃ a2 c2, e = .returned (vR ⟨k', x0', x1', x2', n0', n1', n2'⟩ (.slice a2 sb.length c2)) ∧ Holds cR w' (okM w.heap.size w') (.slice a2 sb.length c2) sb ∧ Kept Nil w w') := Lib.hid fun w h => refT_any (.mk ⟨k', x0', x1', x2', n0', n1', n2'⟩ sb) hcx ok a' cap' w h
      have HRow := Lib.hid hr
      have HS := Lib.hid hs
      have HN : Hid (l.take (j + 1) = l.take j ++ [Sh.mk ⟨k', x0', x1', x2', n0', n1', n2'⟩ sb]) := Lib.hid (by rw [List.take_add_one, hx]; rfl)
      have HPL : Hid (ps.length ≤ 5000) := Lib.hid (by have := congrArg List.length HP.out; rw [List.length_map, List.length_take] at this; omega)
      clear hx hr hs hok hcx
      generalize hl' : sb.length = len' at HRow HS HX2
      clear hl'
      go_wp2_with ((with_reducible refine wpList_load_A rfl (.tmp 10) rfl _ _ rfl ⟨k', x0', x1', x2', n0', n1', n2'⟩ (.slice a' len' cap') ?_ ?_)
                   · exact HRow.out)
      have KA := Lib.hid ((Kept.refl Nil wr).alloc (.cells (arrA ⟨k', x0', x1', x2', n0', n1', n2'⟩ (.slice a' len' cap')) 72))
      refine (HX2.out _ (HS.out.keptN KA.out)).mono ?_
      rintro e w2 ⟨a2, c2, rfl, h2, k2⟩
      have K02 := Lib.hid (KA.out.trans k2 (fun _ _ g => g))
      obtain ⟨W3, hW3⟩ : ∃ W3, w2.alloc (.cells (arrR ⟨k', x0', x1', x2', n0', n1', n2'⟩ (.slice a2 len' c2)) 77) = W3 := ⟨_, rfl⟩
      have k3 : Kept Nil w2 W3 := by rw [← hW3]; exact (Kept.refl Nil w2).alloc _
      have b3 : Blk W3 w2.heap.size 77 (arrR ⟨k', x0', x1', x2', n0', n1', n2'⟩ (.slice a2 len' c2)) := by rw [← hW3]; exact Blk.new _ _ _
      have hsz := HK.out.size
      have hs0 := KA.out.size
      have hs2 := k2.size
      have hs3 := k3.size
      obtain ⟨g, cap3, w4, r4, c4, k4⟩ := appendR ((HCr.out.kept K02.out).kept k3) HPL.out (by omega) (.mk ⟨k', x0', x1', x2', n0', n1', n2'⟩ sb) (.slice a2 len' c2) w2.heap.size (fun i x hi => by rw [b3.cell i]; simpa [Sh.hd] using hi)
        ((h2.keptN k3).mono (fun b' o hb' => ⟨(hb'.kept k3 id).less (by omega), fun eo => by have := HCr.out.lt b' eo; have := hb'.1; omega⟩))
      have RR := Lib.hid r4
      have C4 := Lib.hid c4
      have K4 := Lib.hid ((HK.out.trans (K02.out.trans k3 (fun _ _ g => g)) (fun _ _ g => g)).trans k4 (fun i hi eo => by have := HCr.out.base i eo; omega))
      rw [← hW3] at RR
      clear r4 c4 k4 k3 b3 hW3 h2 k2 hs0 hs2 hs3 hsz
      go_wp2_with (at_builtin; refine wpList_append_run rfl (.tmp 12) (.tmp 15) 37 rfl _ _ rfl rfl RR.out ?_)
      go_roundw
      case rel =>
        refine ⟨j + 1, _, by omega, by go_num, ?_, C4.out, K4.out⟩
        rw [List.map_append, HP.out, HN.out]; rfl
      case measure => simp [intOf]; omega
    · obtain rfl : j = len := by omega
      have HE : Hid (ps.map (·.1) = l) := Lib.hid (by rw [HP.out, ← HL.out]; simp)
      obtain ⟨av, capv, rfl⟩ := HCr.out.shape
      have HPl : Hid (ps.length = j) := Lib.hid (by rw [← HL.out, ← HE.out]; simp)
      rw [HPl.out] at HCr ⊢
      go_wp2_with fail
      go_ret
      have hh := HCr.out.holds kindR
      rw [HE.out] at hh
      exact ⟨av, capv, by rw [HL.out]; rfl, by rw [HL.out]; exact hh, HK.out⟩
end
end Go.Proofs.YtljefbfjehblpaaGreat
