/- Trees at int: put. -/
import Derived.Test.YtbaplplaokbnnaaMiB
import Derived.Test.YtbaplplaokbnnaaMTre
import Derived.Deep.DeepCutAuto
import Derived.Deep.CutBlock
import Derived.BigRegion
namespace Go.Proofs.Ytbaplplaokbnnaa
open Go.RowKit Go.Maps Go.WideMaps
set_option maxRecDepth 100000

abbrev Trei := Tre KI 89
abbrev TreGi := TreG KI 89
set_option maxHeartbeats 8000000 in
theorem put_i {w : World} {c : Nat → Nat} {p : Nat} {L : List (Tok Int)} (h : Trei w c p L) (hl : L.length ≤ 1000) (pa : Int) (k : Int) (f : Int) (hk : KI.ok k) (hp : (Lit.int .i64 pa).wf = true) (hf : (Lit.int .i64 f).wf = true) :
    Calls Try.prog 43 #[.pointer (some ⟨p, 0, none⟩), .agg #[.int .i64 pa, .int .i64 k, .int .i64 f]] w fun e w' => e = .returned (.int .i64 ((L.length : Int) + 1)) ∧ TreGi w w' c p (L ++ [⟨pa, k, f, false⟩]) := by
  obtain ⟨hok, n, bt, x1, x2, x3, g1, g2, g3, hn, t0⟩ := h
  obtain ⟨q, hq⟩ : ∃ q, w.heap.size = q := ⟨_, rfl⟩
  have k1 : Kept Nil w (w.alloc (.cells #[.int .i64 pa, .int .i64 k, .int .i64 f] 92)) := (Kept.refl _ _).alloc _
  have b1 : Blk (w.alloc (.cells #[.int .i64 pa, .int .i64 k, .int .i64 f] 92)) q 92 #[.int .i64 pa, .int .i64 k, .int .i64 f] := by rw [← hq]; exact Blk.new w _ _
  have T1 := Lib.hid (t0.keptN k1)
  have HK1 := Lib.hid k1
  have HB1 := Lib.hid b1
  have HQ := Lib.hid hq
  have HCQ : Hid (c q = 0) := Lib.hid (by
    rcases Nat.eq_zero_or_pos (c q) with e | e
    · exact e
    · have := t0.low q (by omega); omega)
  have HOK := Lib.hid (And.intro hok (And.intro hk (And.intro hp hf)))
  have hw1 : IntKind.i64.wrap ((L.length : Int) + 1) = (L.length : Int) + 1 := by rw [IntKind.wrap_i64]; omega
  obtain ⟨m, hm⟩ : ∃ m : Int, m = (L.length : Int) := ⟨_, rfl⟩
  rw [← hm] at T1 hw1 ⊢
  have HM := Lib.hid hm
  obtain ⟨m1, hm1⟩ : ∃ m1 : Int, m + 1 = m1 := ⟨_, rfl⟩
  rw [hm1] at hw1 ⊢
  have HM1 := Lib.hid hm1
  have hwm : (Lit.int .i64 m1).wf = true := WalkArith.wf_i64 (by omega)
  clear t0 k1 b1 hok hk hp hf hm
  go_enter Try.func43, Try.ntmps43
  go_upto_region 1 with fail
  clear hq
  generalize w.alloc (.cells #[.int .i64 pa, .int .i64 k, .int .i64 f] 92) = W1 at *
  have c4 := T1.out.here.cell 4
  have z4 := T1.out.here.frozen 4
  simp at c4
  have T2 := Lib.hid (T1.out.last m1)
  have K2 := Lib.hid (Kept.setCell (F := fun b => c b ≠ 0) (Kept.refl _ W1) ⟨p, 4, none⟩ (.inl (by show c p ≠ 0; rw [T1.out.cp]; decide)) (.int .i64 m1))
  have B2 := Lib.hid (HB1.out.kept K2.out (fun e => e HCQ.out))
  go_upto_region 2 with fail
  generalize W1.setCell ⟨p, 4, none⟩ (.int .i64 m1) = W2 at *
  clear c4 z4 T1 HB1
  have c0 := T2.out.here.cell 0
  have c4 := T2.out.here.cell 4
  have d0 := B2.out.cell 0
  have d1 := B2.out.cell 1
  have d2 := B2.out.cell 2
  simp at c0 c4 d0 d1 d2
  obtain ⟨W3, r3, k3, t3⟩ := (T2.out.keptN (Kept.refl _ _).drew).enter (x := ⟨pa, k, f, false⟩) Try.underlying87 (by omega) rfl HOK.out.2.1 (q := m1) (by rw [← HM1.out, HM.out]) hwm
  have T3 := Lib.hid t3
  have K3 := Lib.hid k3
  change (Instr.mapUpdate 87 (.map (some bt)) (.int .i64 m1) (.agg #[.int .i64 pa, .int .i64 k, .int .i64 f])).run Try.prog W2.drew = .ok () W3 at r3
  clear t3 k3
  have HN := Lib.hid hn
  have M : Hid (Mid KI 89 92 w W3 c p q #[.int .i64 pa, .int .i64 k, .int .i64 f] m1 (L ++ [⟨pa, k, f, false⟩]) (atL L) (withL L) (kids L) (n + 1)) := Lib.hid (T3.out.mid ((B2.out.kept (Kept.refl Nil W2).drew (fun e => e)).kept K3.out (fun e => by have := T2.out.ct; rw [← e, HCQ.out] at this; omega)) HCQ.out (fun b e => .inl e)
    ((((HK1.out.mono (fun _ _ e => e.elim)).trans K2.out (fun _ _ e => e)).trans (Kept.refl Nil W2).drew (fun _ _ e => e.elim)).trans K3.out (fun b _ e => by rw [e, T2.out.ct]; decide)))
  clear T2 K2 B2 T3 K3 HK1 HCQ HQ
  go_region
  clear c0 c4 d0 d1 d2 r3
  go_upto_region 3 with fail
  refine wp_region_still_tail 9 (by kernel_rfl) (by kernel_rfl) ?_
  obtain ⟨c1, bt, x1, x2, x3, g1, g2, g3, t, b, hq, hs, hk⟩ := M.out.drew (show Kept Nil W3 { W3 with drawn := W3.drawn + 1 } from (Kept.refl _ W3).drew)
  generalize { W3 with drawn := W3.drawn + 1 } = W3d at *
  have d0 := b.cell 0
  have d1 := b.cell 1
  have d2 := b.cell 2
  simp at d0 d1 d2
  have c4 := t.here.cell 4
  simp at c4
  have CN := Lib.hid (note_i (o := 1) t.here (x := x1) rfl (by show ¬ c1 p = 3; rw [t.cp]; decide) t.n1 (by omega) (k := k) HOK.out.2.1 (id := m1) hwm (Nat.le_trans (ids_length _ _) (by omega)))
  have HT := Lib.hid (And.intro t (And.intro b (And.intro hq (And.intro hs hk))))
  clear t b hq hs hk M
  simp only [List.take_succ_cons, List.take_zero, List.drop_succ_cons, List.drop_zero]
  repeat still_step
  refine wpStill_nil ?_
  go_wp2_with fail
  refine CN.out.mono ?_
  rintro e W4 ⟨rfl, hN⟩
  have M := Lib.hid (HT.out.1.mid1 (n' := n + 2) HT.out.2.1 HT.out.2.2.1 HT.out.2.2.2.1 HT.out.2.2.2.2 (by omega) hN)
  clear hN HT CN c4 d0 d1 d2
  obtain ⟨c1, bt, x1, x2, x3, g1, g2, g3, t, b, hq, hs, hk⟩ := M.out
  have d2 := b.cell 2
  have d0 := b.cell 0
  have c4 := t.here.cell 4
  simp at d0 d2 c4
  clear t b hq hs hk
  have HN1 : Hid (upd (atL L) k (put (atL L k) m1) = atL (L ++ [⟨pa, k, f, false⟩])) := Lib.hid (by rw [← HM1.out, HM.out]; exact atL_more (x := ⟨pa, k, f, false⟩) rfl)
  by_cases hf0 : f = 0
  · have hb : (f != 0) = false := by simpa using hf0
    have HN2 : Hid (withL L = withL (L ++ [⟨pa, k, f, false⟩])) := Lib.hid (withL_more0 (x := ⟨pa, k, f, false⟩) rfl hf0)
    clear hf0
    go_upto_region 6 with fail
    by_cases hp0 : pa = 0
    · have hb2 : (pa != 0) = false := by simpa using hp0
      have HN3 : Hid (kids L = kids (L ++ [⟨pa, k, f, false⟩])) := Lib.hid (kids_more0 (x := ⟨pa, k, f, false⟩) rfl hp0)
      clear hp0 d0 d2 c4
      obtain ⟨c1, bt, x1, x2, x3, g1, g2, g3, t, b, hq, hs, hk⟩ := M.out
      have d2 := b.cell 2
      have d0 := b.cell 0
      have c4 := t.here.cell 4
      simp at d0 d2 c4
      clear t b hq hs hk
      go_wp2_with fail
      go_ret
      exact ⟨rfl, M.out.done (HOK.out.1.more HOK.out.2) (by rw [List.length_append, ← HM1.out, HM.out]; rfl) HN1.out (by first | exact HN2.out | rw [HN2.out]) (by first | exact HN3.out | rw [HN3.out]) (by rw [List.length_append]; have := HN.out; simp; omega)⟩
    · have hb2 : (pa != 0) = true := bne_iff_ne.2 hp0
      have HN3 : Hid (upd (kids L) pa (put (kids L pa) m1) = kids (L ++ [⟨pa, k, f, false⟩])) := Lib.hid (by rw [← HM1.out, HM.out]; exact kids_more (x := ⟨pa, k, f, false⟩) rfl hp0)
      clear hp0
      go_upto_region 7 with fail
      clear d0 d2 c4
      refine wp_region_still_tail 9 (by kernel_rfl) (by kernel_rfl) ?_
      obtain ⟨c1, bt, x1, x2, x3, g1, g2, g3, t, b, hq, hs, hk⟩ := M.out.drew (show Kept Nil W4 { W4 with drawn := W4.drawn + 1 } from (Kept.refl _ W4).drew)
      generalize { W4 with drawn := W4.drawn + 1 } = W4d at *
      have d0 := b.cell 0
      have d1 := b.cell 1
      have d2 := b.cell 2
      simp at d0 d1 d2
      have c4 := t.here.cell 4
      simp at c4
      have CN := Lib.hid (note_i (o := 3) t.here (x := x3) rfl (by show ¬ c1 p = 5; rw [t.cp]; decide) t.n3 (by omega) (k := pa) HOK.out.2.2.1 (id := m1) hwm (Nat.le_trans (ids_length _ _) (by omega)))
      have HT := Lib.hid (And.intro t (And.intro b (And.intro hq (And.intro hs hk))))
      clear t b hq hs hk M
      simp only [List.take_succ_cons, List.take_zero, List.drop_succ_cons, List.drop_zero]
      repeat still_step
      refine wpStill_nil ?_
      go_wp2_with fail
      refine CN.out.mono ?_
      rintro e W6 ⟨rfl, hN⟩
      have M := Lib.hid (HT.out.1.mid3 (n' := n + 3) HT.out.2.1 HT.out.2.2.1 HT.out.2.2.2.1 HT.out.2.2.2.2 (by omega) hN)
      clear hN HT CN c4 d0 d1 d2
      obtain ⟨c1, bt, x1, x2, x3, g1, g2, g3, t, b, hq, hs, hk⟩ := M.out
      have d2 := b.cell 2
      have d0 := b.cell 0
      have c4 := t.here.cell 4
      simp at d0 d2 c4
      clear t b hq hs hk
      go_wp2_with fail
      go_ret
      exact ⟨rfl, M.out.done (HOK.out.1.more HOK.out.2) (by rw [List.length_append, ← HM1.out, HM.out]; rfl) HN1.out (by first | exact HN2.out | rw [HN2.out]) (by first | exact HN3.out | rw [HN3.out]) (by rw [List.length_append]; have := HN.out; simp; omega)⟩
  · have hb : (f != 0) = true := bne_iff_ne.2 hf0
    have HN2 : Hid (upd (withL L) f (put (withL L f) m1) = withL (L ++ [⟨pa, k, f, false⟩])) := Lib.hid (by rw [← HM1.out, HM.out]; exact withL_more (x := ⟨pa, k, f, false⟩) rfl hf0)
    clear hf0
    go_upto_region 5 with fail
    clear d0 d2 c4
    refine wp_region_still_tail 9 (by kernel_rfl) (by kernel_rfl) ?_
    obtain ⟨c1, bt, x1, x2, x3, g1, g2, g3, t, b, hq, hs, hk⟩ := M.out.drew (show Kept Nil W4 { W4 with drawn := W4.drawn + 1 } from (Kept.refl _ W4).drew)
    generalize { W4 with drawn := W4.drawn + 1 } = W4d at *
    have d0 := b.cell 0
    have d1 := b.cell 1
    have d2 := b.cell 2
    simp at d0 d1 d2
    have c4 := t.here.cell 4
    simp at c4
    have CN := Lib.hid (note_i (o := 2) t.here (x := x2) rfl (by show ¬ c1 p = 4; rw [t.cp]; decide) t.n2 (by omega) (k := f) HOK.out.2.2.2 (id := m1) hwm (Nat.le_trans (ids_length _ _) (by omega)))
    have HT := Lib.hid (And.intro t (And.intro b (And.intro hq (And.intro hs hk))))
    clear t b hq hs hk M
    simp only [List.take_succ_cons, List.take_zero, List.drop_succ_cons, List.drop_zero]
    repeat still_step
    refine wpStill_nil ?_
    go_wp2_with fail
    refine CN.out.mono ?_
    rintro e W5 ⟨rfl, hN⟩
    have M := Lib.hid (HT.out.1.mid2 (n' := n + 3) HT.out.2.1 HT.out.2.2.1 HT.out.2.2.2.1 HT.out.2.2.2.2 (by omega) hN)
    clear hN HT CN c4 d0 d1 d2
    go_upto_region 6 with fail
    obtain ⟨c1, bt, x1, x2, x3, g1, g2, g3, t, b, hq, hs, hk⟩ := M.out
    have d2 := b.cell 2
    have d0 := b.cell 0
    have c4 := t.here.cell 4
    simp at d0 d2 c4
    clear t b hq hs hk
    by_cases hp0 : pa = 0
    · have hb2 : (pa != 0) = false := by simpa using hp0
      have HN3 : Hid (kids L = kids (L ++ [⟨pa, k, f, false⟩])) := Lib.hid (kids_more0 (x := ⟨pa, k, f, false⟩) rfl hp0)
      clear hp0 d0 d2 c4
      obtain ⟨c1, bt, x1, x2, x3, g1, g2, g3, t, b, hq, hs, hk⟩ := M.out
      have d2 := b.cell 2
      have d0 := b.cell 0
      have c4 := t.here.cell 4
      simp at d0 d2 c4
      clear t b hq hs hk
      go_wp2_with fail
      go_ret
      exact ⟨rfl, M.out.done (HOK.out.1.more HOK.out.2) (by rw [List.length_append, ← HM1.out, HM.out]; rfl) HN1.out (by first | exact HN2.out | rw [HN2.out]) (by first | exact HN3.out | rw [HN3.out]) (by rw [List.length_append]; have := HN.out; simp; omega)⟩
    · have hb2 : (pa != 0) = true := bne_iff_ne.2 hp0
      have HN3 : Hid (upd (kids L) pa (put (kids L pa) m1) = kids (L ++ [⟨pa, k, f, false⟩])) := Lib.hid (by rw [← HM1.out, HM.out]; exact kids_more (x := ⟨pa, k, f, false⟩) rfl hp0)
      clear hp0
      go_upto_region 7 with fail
      clear d0 d2 c4
      refine wp_region_still_tail 9 (by kernel_rfl) (by kernel_rfl) ?_
      obtain ⟨c1, bt, x1, x2, x3, g1, g2, g3, t, b, hq, hs, hk⟩ := M.out.drew (show Kept Nil W5 { W5 with drawn := W5.drawn + 1 } from (Kept.refl _ W5).drew)
      generalize { W5 with drawn := W5.drawn + 1 } = W5d at *
      have d0 := b.cell 0
      have d1 := b.cell 1
      have d2 := b.cell 2
      simp at d0 d1 d2
      have c4 := t.here.cell 4
      simp at c4
      have CN := Lib.hid (note_i (o := 3) t.here (x := x3) rfl (by show ¬ c1 p = 5; rw [t.cp]; decide) t.n3 (by omega) (k := pa) HOK.out.2.2.1 (id := m1) hwm (Nat.le_trans (ids_length _ _) (by omega)))
      have HT := Lib.hid (And.intro t (And.intro b (And.intro hq (And.intro hs hk))))
      clear t b hq hs hk M
      simp only [List.take_succ_cons, List.take_zero, List.drop_succ_cons, List.drop_zero]
      repeat still_step
      refine wpStill_nil ?_
      go_wp2_with fail
      refine CN.out.mono ?_
      rintro e W6 ⟨rfl, hN⟩
      have M := Lib.hid (HT.out.1.mid3 (n' := n + 4) HT.out.2.1 HT.out.2.2.1 HT.out.2.2.2.1 HT.out.2.2.2.2 (by omega) hN)
      clear hN HT CN c4 d0 d1 d2
      obtain ⟨c1, bt, x1, x2, x3, g1, g2, g3, t, b, hq, hs, hk⟩ := M.out
      have d2 := b.cell 2
      have d0 := b.cell 0
      have c4 := t.here.cell 4
      simp at d0 d2 c4
      clear t b hq hs hk
      go_wp2_with fail
      go_ret
      exact ⟨rfl, M.out.done (HOK.out.1.more HOK.out.2) (by rw [List.length_append, ← HM1.out, HM.out]; rfl) HN1.out (by first | exact HN2.out | rw [HN2.out]) (by first | exact HN3.out | rw [HN3.out]) (by rw [List.length_append]; have := HN.out; simp; omega)⟩
end Go.Proofs.Ytbaplplaokbnnaa
