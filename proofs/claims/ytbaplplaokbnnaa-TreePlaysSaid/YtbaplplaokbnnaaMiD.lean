/- Trees at int: take. -/
import Derived.Test.YtbaplplaokbnnaaMiC
namespace Go.Proofs.Ytbaplplaokbnnaa
open Go.RowKit Go.Maps Go.WideMaps
set_option maxRecDepth 100000

/-- What a call returns whose one result is a struct. -/
theorem results_cell1 {P : Program} {fn : Func} {p : Tmp} {ty : TypeId} (h : fn.results = #[.cell p ty]) (tmps : Array Value) (w : World) (g : Nat) (t : TypeId) (cs : Array Value) (fr : Nat × Nat) (d : TypeDesc)
    (hp : tmps.getD p undef = .pointer (some ⟨g, 0, none⟩)) (hg : w.heap[g]? = some (.cells cs t fr))
    (hu : P.underlying ty = some d) (hd : (match d with | .struct _ | .array _ _ => true | _ => false) = true) (hi : (P.info? ty).map (·.size) = some cs.size) :
    (results fn tmps).run P w = .ok (.agg cs) w := by
  have hp' : tmps[p]?.getD undef = .pointer (some ⟨g, 0, none⟩) := by simpa using hp
  simp [results, h, hp', asAddr, run_loadVar_row w g t ty cs fr d hg hu hd hi]
theorem zeroT_i (w : World) : (zeroValue 92).run Try.prog w = .ok (vTok KI 0 0 0) w := by kernel_rfl
theorem okZ_i : KI.ok 0 := by first | exact Nat.zero_le maxLen | (show (Lit.int .i64 0).wf = true; decide)
theorem look_i {w : World} {c : Nat → Nat} {p : Nat} {m : Int} {L : List (Tok Int)} {N1 : Int → List Int} {N2 N3 : Int → List Int} {n bt : Nat} {x1 x2 x3 : Value} {g1 : Int → Option Nat} {g2 g3 : Int → Option Nat} (h : Trx KI 89 w c p m L N1 N2 N3 n bt x1 x2 x3 g1 g2 g3) (hok : okToks KI L) {id : Int} (hw : (Lit.int .i64 id).wf = true) :
    (Instr.lookup 87 (.map (some bt)) (.int .i64 id) false).run Try.prog w = .ok (zT KI 0 (tok L id)) w := by
  rcases h.look Try.underlying87 okZ_i (zeroT_i w) hw with e | ⟨x, hx, hn⟩
  · exact e
  · exact absurd (hok.at_ hx).1 hn
theorem look2_i {w : World} {c : Nat → Nat} {p : Nat} {m : Int} {L : List (Tok Int)} {N1 : Int → List Int} {N2 N3 : Int → List Int} {n bt : Nat} {x1 x2 x3 : Value} {g1 : Int → Option Nat} {g2 g3 : Int → Option Nat} (h : Trx KI 89 w c p m L N1 N2 N3 n bt x1 x2 x3 g1 g2 g3) (hok : okToks KI L) {id : Int} (hw : (Lit.int .i64 id).wf = true) :
    (Instr.lookup 87 (.map (some bt)) (.int .i64 id) true).run Try.prog w = .ok (.tuple #[zT KI 0 (tok L id), .bool (tok L id).isSome]) w := by
  rcases h.look2 Try.underlying87 okZ_i (zeroT_i w) hw with e | ⟨x, hx, hn⟩
  · exact e
  · exact absurd (hok.at_ hx).1 hn
set_option maxHeartbeats 8000000 in
theorem take_i {w : World} {c : Nat → Nat} {p : Nat} {L : List (Tok Int)} (h : Trei w c p L) (hl : L.length ≤ 1000) {id : Int} {x : Tok Int} (hx : tok L id = some x) :
    Calls Try.prog 47 #[.pointer (some ⟨p, 0, none⟩), .int .i64 id] w fun e w' => e = .returned (.agg #[.int .i64 id, .int .i64 x.loc, .int .i64 x.fact]) ∧ TreGi w w' c p (kill L id) := by
  obtain ⟨hok, n, bt, x1, x2, x3, g1, g2, g3, hn, t0⟩ := h
  obtain ⟨pa, k, f, xo⟩ := x
  have hbd := tok_bound hx
  have hwi : (Lit.int .i64 id).wf = true := WalkArith.wf_i64 (by omega)
  have HOK := Lib.hid (And.intro hok (hok.at_ hx))
  have HX := Lib.hid hx
  have HN := Lib.hid hn
  have HL := Lib.hid hl
  have hlk := fun (W : World) (k : Kept Nil w W) => by
    have := look_i (t0.keptN k) hok hwi
    rw [hx] at this
    exact this
  clear hok hx hn
  go_enter Try.func47, Try.ntmps47
  go_upto_region 1 with fail
  have kA := (Kept.refl Nil w).alloc (.cells #[.int .i64 0, .int .i64 0, .int .i64 0] 61)
  have A1 := Lib.hid (Blk.new w 61 #[.int .i64 0, .int .i64 0, .int .i64 0])
  have T1 := Lib.hid (t0.keptN kA)
  have KA := Lib.hid kA
  have HQ : Hid (c w.heap.size = 0) := Lib.hid (by
    rcases Nat.eq_zero_or_pos (c w.heap.size) with e | e
    · exact e
    · have := t0.low _ (Nat.pos_iff_ne_zero.1 e); omega)
  have hl1 := hlk _ kA
  obtain ⟨r, hr⟩ : ∃ r, w.heap.size = r := ⟨_, rfl⟩
  rw [hr] at A1 HQ
  have HR := Lib.hid hr
  clear t0 kA hlk hr
  change (Instr.lookup 87 (.map (some bt)) (.int .i64 id) false).run Try.prog _ = .ok (.agg #[.int .i64 pa, .int .i64 k, .int .i64 f]) _ at hl1
  generalize w.alloc (.cells #[.int .i64 0, .int .i64 0, .int .i64 0] 61) = W1 at *
  have c0 := T1.out.here.cell 0
  simp at c0
  go_upto_region 2 with fail
  have kB := (Kept.refl Nil W1).alloc (.cells #[.int .i64 pa, .int .i64 k, .int .i64 f] 92)
  have B2 := Lib.hid (Blk.new W1 92 #[.int .i64 pa, .int .i64 k, .int .i64 f])
  have A2 := Lib.hid (A1.out.kept kB (fun e => e))
  have T2 := Lib.hid (T1.out.keptN kB)
  have KB := Lib.hid (KA.out.trans kB (fun _ _ e => e))
  obtain ⟨q, hq⟩ : ∃ q, W1.heap.size = q := ⟨_, rfl⟩
  have HCQ : Hid (c q = 0) := Lib.hid (by
    rcases Nat.eq_zero_or_pos (c q) with e | e
    · exact e
    · have := T1.out.low q (Nat.pos_iff_ne_zero.1 e); omega)
  rw [hq] at B2
  clear kB A1 T1 KA c0 hl1
  generalize W1.alloc (.cells #[.int .i64 pa, .int .i64 k, .int .i64 f] 92) = W2 at *
  have c0 := T2.out.here.cell 0
  simp at c0
  obtain ⟨W3, r3, k3, t3⟩ := T2.out.drop Try.underlying87 (id := id) (by rw [HX.out]; simp) hwi
  have M : Hid (Mid KI 89 92 W2 W3 c p q #[.int .i64 pa, .int .i64 k, .int .i64 f] (L.length : Int) (kill L id) (atL L) (withL L) (kids L) n) := Lib.hid (t3.mid (B2.out.kept k3 (fun e => by have := T2.out.ct; rw [← e, HCQ.out] at this; omega)) HCQ.out (fun b e => .inl e) (k3.mono (fun b _ e => by rw [e, T2.out.ct]; decide)))
  clear k3 t3 B2 T2 HCQ
  go_upto_region 3 with fail
  clear c0 r3
  refine wp_region_still_tail 6 (by kernel_rfl) (by kernel_rfl) ?_
  obtain ⟨c1, bt, x1, x2, x3, g1, g2, g3, t, b, hq, hs, hk⟩ := M.out.drew (show Kept Nil W3 { W3 with drawn := W3.drawn + 1 } from (Kept.refl _ W3).drew)
  generalize { W3 with drawn := W3.drawn + 1 } = W3d at *
  have d0 := b.cell 0
  have d1 := b.cell 1
  have d2 := b.cell 2
  simp at d0 d1 d2
  have CN := Lib.hid (forget_i (o := 1) t.here (x := x1) rfl (by show ¬ c1 p = 3; rw [t.cp]; decide) t.n1 (k := k) HOK.out.2.1 (id := id) hwi (Nat.le_trans (ids_length _ _) (by omega)))
  have HT := Lib.hid (And.intro t (And.intro b (And.intro hq (And.intro hs hk))))
  clear t b hq hs hk M
  simp only [List.take_succ_cons, List.take_zero, List.drop_succ_cons, List.drop_zero]
  repeat still_step
  refine wpStill_nil ?_
  go_wp2_with fail
  refine CN.out.mono ?_
  rintro e W4 ⟨rfl, hN⟩
  have M := Lib.hid (HT.out.1.midL1 HT.out.2.1 HT.out.2.2.1 HT.out.2.2.2.1 HT.out.2.2.2.2 hN)
  clear hN HT CN d0 d1 d2
  go_upto_region 4 with fail
  refine wp_region_still_tail 6 (by kernel_rfl) (by kernel_rfl) ?_
  obtain ⟨c1, bt, x1, x2, x3, g1, g2, g3, t, b, hq, hs, hk⟩ := M.out.drew (show Kept Nil W4 { W4 with drawn := W4.drawn + 1 } from (Kept.refl _ W4).drew)
  generalize { W4 with drawn := W4.drawn + 1 } = W4d at *
  have d0 := b.cell 0
  have d1 := b.cell 1
  have d2 := b.cell 2
  simp at d0 d1 d2
  have CN := Lib.hid (forget_i (o := 2) t.here (x := x2) rfl (by show ¬ c1 p = 4; rw [t.cp]; decide) t.n2 (k := f) HOK.out.2.2.2 (id := id) hwi (Nat.le_trans (ids_length _ _) (by omega)))
  have HT := Lib.hid (And.intro t (And.intro b (And.intro hq (And.intro hs hk))))
  clear t b hq hs hk M
  simp only [List.take_succ_cons, List.take_zero, List.drop_succ_cons, List.drop_zero]
  repeat still_step
  refine wpStill_nil ?_
  go_wp2_with fail
  refine CN.out.mono ?_
  rintro e W5 ⟨rfl, hN⟩
  have M := Lib.hid (HT.out.1.midL2 HT.out.2.1 HT.out.2.2.1 HT.out.2.2.2.1 HT.out.2.2.2.2 hN)
  clear hN HT CN d0 d1 d2
  go_upto_region 5 with fail
  refine wp_region_still_tail 6 (by kernel_rfl) (by kernel_rfl) ?_
  obtain ⟨c1, bt, x1, x2, x3, g1, g2, g3, t, b, hq, hs, hk⟩ := M.out.drew (show Kept Nil W5 { W5 with drawn := W5.drawn + 1 } from (Kept.refl _ W5).drew)
  generalize { W5 with drawn := W5.drawn + 1 } = W5d at *
  have d0 := b.cell 0
  have d1 := b.cell 1
  have d2 := b.cell 2
  simp at d0 d1 d2
  have CN := Lib.hid (forget_i (o := 3) t.here (x := x3) rfl (by show ¬ c1 p = 5; rw [t.cp]; decide) t.n3 (k := pa) HOK.out.2.2.1 (id := id) hwi (Nat.le_trans (ids_length _ _) (by omega)))
  have HT := Lib.hid (And.intro t (And.intro b (And.intro hq (And.intro hs hk))))
  clear t b hq hs hk M
  simp only [List.take_succ_cons, List.take_zero, List.drop_succ_cons, List.drop_zero]
  repeat still_step
  refine wpStill_nil ?_
  go_wp2_with fail
  refine CN.out.mono ?_
  rintro e W6 ⟨rfl, hN⟩
  have M := Lib.hid (HT.out.1.midL3 HT.out.2.1 HT.out.2.2.1 HT.out.2.2.2.1 HT.out.2.2.2.2 hN)
  clear hN HT CN d0 d1 d2
  have KF := fun V => Lib.hid (M.out.doneAt (V := V) (w0 := w) (r := r) (HOK.out.1.kill id) (by rw [kill_length]) (atL_kill HX.out) (withL_kill HX.out) (kids_kill HX.out) (by rw [kill_length]; exact HN.out) KB.out (Nat.le_of_eq HR.out) A2.out.lt HQ.out)
  obtain ⟨c1, bt, x1, x2, x3, g1, g2, g3, t, b, hq, hs, hk⟩ := M.out
  have d1 := b.cell 1
  have d2 := b.cell 2
  simp at d1 d2
  have a6 := A2.out.kept hk (fun e => e HQ.out)
  have A6 := Lib.hid a6
  clear t b hq hs hk M
  have e0 := a6.cell 0
  have e1 := a6.cell 1
  have e2 := a6.cell 2
  have f0 := a6.frozen 0
  have f1 := a6.frozen 1
  have f2 := a6.frozen 2
  simp at e0 e1 e2
  have hr := HR.out
  go_upto_region 6 with fail
  clear hr a6
  go_wp2_with fail
  refine bodyPost_ret (results_cell1 Try.results47 _ _ r 61 #[.int .i64 id, .int .i64 k, .int .i64 f] (0, 0) _ rfl (((A6.out.set_ 0 _).set_ 1 _).set_ 2 _) Try.underlying61 rfl (by kernel_rfl)) rfl ?_
  exact ⟨rfl, (KF _).out (((Kept.setCell (F := fun b => b = r) (Kept.refl _ W6) ⟨r, 0, none⟩ (.inl rfl) _).setCell ⟨r, 1, none⟩ (.inl rfl) _).setCell ⟨r, 2, none⟩ (.inl rfl) _)⟩
end Go.Proofs.Ytbaplplaokbnnaa
