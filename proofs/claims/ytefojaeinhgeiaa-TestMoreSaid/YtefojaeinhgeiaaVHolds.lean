/- Layer test: isField, against, Holds. -/
import Derived.Test.YtefojaeinhgeiaaVHas
import Derived.Deep.RegionHeld3
namespace Go.Proofs.Ytefojaeinhgeiaa
open Go.RowKit
set_option maxRecDepth 100000

abbrev vT (x : Tst) : Value := .agg #[.int .i64 x.1, .int .i64 x.2.1, .int .i64 x.2.2]
theorem isField_any (f : Int) (hf : 0 ≤ f ∧ f ≤ 2) (w : World) : Calls Try.prog 32 #[.int .i64 f] w fun e w' => e = .returned (.bool true) ∧ w = w' := by
  obtain ⟨l, u⟩ := hf
  go_enter Try.func32, Try.ntmps32
  go_wp2_with fail
  go_ret
  exact ⟨rfl, rfl⟩
theorem results_pairT {fn : Func} {p q : Tmp} (h : fn.results = #[.cell p 48, .tmp q]) (tmps : Array Value) (w : World) (g : Nat) (x y z v : Value)
    (hp : tmps.getD p undef = .pointer (some ⟨g, 0, none⟩)) (hq : tmps.getD q undef = v) (hg : Blk w g 48 #[x, y, z]) :
    (results fn tmps).run Try.prog w = .ok (.tuple #[.agg #[x, y, z], v]) w := by
  have hp' : tmps[p]?.getD undef = .pointer (some ⟨g, 0, none⟩) := by simpa using hp
  have hq' : tmps[q]?.getD undef = v := by simpa using hq
  have hr := run_loadVar_row (P := Try.prog) w g _ _ _ _ _ hg Try.underlying48 rfl (by kernel_rfl)
  simp [results, h, hp', hq', asAddr, hr]
abbrev z3v : Array Value := #[.int .i64 0, .int .i64 0, .int .i64 0]
theorem blk_set3 {W : World} {X : Nat} {t : TypeId} {c0 c1 c2 : Value} (b : Blk W X t #[c0, c1, c2]) (v0 v1 v2 : Value) : Blk (((W.setCell ⟨X, 0, none⟩ v0).setCell ⟨X, 1, none⟩ v1).setCell ⟨X, 2, none⟩ v2) X t #[v0, v1, v2] := by
  simpa using ((b.set_ 0 v0).set_ 1 v1).set_ 2 v2
theorem blk_at {W : World} {X : Nat} {t : TypeId} {cs : Array Value} (h : W.heap.size = X) : Blk (W.alloc (.cells cs t)) X t cs := by subst h; exact Blk.new _ _ _
theorem Kept.set3 {F : Nat → Prop} {a W : World} {X : Nat} (h : Kept F a W) (hX : F X ∨ a.heap.size ≤ X) (v0 v1 v2 : Value) : Kept F a (((W.setCell ⟨X, 0, none⟩ v0).setCell ⟨X, 1, none⟩ v1).setCell ⟨X, 2, none⟩ v2) :=
  ((h.setCell _ hX _).setCell _ hX _).setCell _ hX _
def AgEnd (x : Tst) (bk : List T3) (t : T3) (w : World) (e : Ending) (w' : World) : Prop := e = .returned (.tuple #[av ((backT x bk t).getD (0, 0, 0)), .bool (backT x bk t).isSome]) ∧ Kept Nil w w'
/-- What stands in memory when against begins. -/
structure AG (w : World) (x : Tst) (t : T3) (W : World) : Prop where
  kept : Kept Nil w W
  b0 : Blk W w.heap.size 66 #[.int .i64 x.1, .int .i64 x.2.1, .int .i64 x.2.2]
  b1 : Blk W (w.heap.size + 1) 48 #[.int .i64 t.1, .int .i64 t.2.1, .int .i64 t.2.2]
  b2 : Blk W (w.heap.size + 1 + 1) 48 z3v
theorem AG.start (w : World) (x : Tst) (t : T3) : AG w x t (((w.alloc (.cells #[.int .i64 x.1, .int .i64 x.2.1, .int .i64 x.2.2] 66)).alloc (.cells #[.int .i64 t.1, .int .i64 t.2.1, .int .i64 t.2.2] 48)).alloc (.cells z3v 48)) :=
  ⟨(((Kept.refl Nil w).alloc _).alloc _).alloc _, ((Blk.new w _ _).alloc _).alloc _, (blk_at (by simp)).alloc _, blk_at (by simp)⟩
set_option maxHeartbeats 4000000 in
theorem against_any (x : Tst) (bk : List T3) (t : T3) (a : Option Addr) (n c : Nat) (hx : -1 ≤ x.2.1) (hn : n ≤ maxLen) (w : World) (h : In cT3 3 w a n bk) :
    Calls Try.prog 31 #[vT x, .slice a n c, av t] w (AgEnd x bk t w) := by
  obtain ⟨f, b, g⟩ := x
  obtain ⟨t1, t2, t3⟩ := t
  have hn1 := hn
  unfold maxLen at hn1
  have HN := Lib.hid h.1
  simp only at hx
  have hA := AG.start w (f, b, g) (t1, t2, t3)
  have HH := Lib.hid (h.kept hA.kept)
  clear h
  go_enter Try.func31, Try.ntmps31
  go_upto_region 1 with fail
  simp only [z3v] at hA HH
  generalize ((w.alloc (.cells #[.int .i64 f, .int .i64 b, .int .i64 g] 66)).alloc (.cells #[.int .i64 t1, .int .i64 t2, .int .i64 t3] 48)).alloc (.cells #[.int .i64 0, .int .i64 0, .int .i64 0] 48) = W at *
  have q1 := hA.b0.cell 1
  have r0 := hA.b1.cell 0
  have r1 := hA.b1.cell 1
  have r2 := hA.b1.cell 2
  have f0 := hA.b2.frozen 0
  have f1 := hA.b2.frozen 1
  have f2 := hA.b2.frozen 2
  have z0 := hA.b2.cell 0
  have z1 := hA.b2.cell 1
  have z2 := hA.b2.cell 2
  simp at q1 r0 r1 r2 z0 z1 z2
  have HA := Lib.hid hA
  have HX := Lib.hid hA.b2
  have HK := Lib.hid hA.kept
  clear hA
  by_cases e1 : b = -1
  · subst e1
    go_wp2_with fail
    exact bodyPost_ret (results_pairT Try.results31 _ _ _ _ _ _ (.bool true) rfl rfl (blk_set3 HX.out _ _ _)) rfl ⟨rfl, HK.out.set3 (.inr (by omega)) _ _ _⟩
  · have n1 : (b == -1) = false := beq_eq_false_iff_ne.2 e1
    obtain ⟨m, rfl⟩ : ∃ m : Nat, b = (m : Int) := ⟨b.toNat, by omega⟩
    have HB := Lib.hid (show backT (f, (m : Int), g) bk (t1, t2, t3) = bk[m]? from by
      unfold backT
      rw [if_neg (show ¬ ((f, (m : Int), g) : Tst).2.1 = -1 from e1), if_pos (show (0 : Int) ≤ ((f, (m : Int), g) : Tst).2.1 from by show (0 : Int) ≤ (m : Int); omega)]
      show bk[((m : Int)).toNat]? = _
      rw [Int.toNat_natCast])
    clear e1 hx
    by_cases hm : m < n
    · obtain ⟨⟨u1, u2, u3⟩, hu⟩ : ∃ u, bk[m]? = some u := ⟨bk[m]'(by rw [HN.out]; exact hm), by simp⟩
      obtain ⟨bb, o, rfl, hb, y0, y1, y2⟩ := HH.out.three hu
      have HU := Lib.hid (HB.out.trans hu)
      simp only at y0 y1 y2
      clear hu
      go_wp2_with fail
      refine bodyPost_ret (results_pairT Try.results31 _ _ _ _ _ _ (.bool true) rfl rfl (blk_set3 HX.out _ _ _)) rfl ⟨?_, HK.out.set3 (.inr (by omega)) _ _ _⟩
      rw [HU.out]; rfl
    · have HU := Lib.hid (HB.out.trans (List.getElem?_eq_none (by rw [HN.out]; omega)))
      have hd : decide (m < n) = false := decide_eq_false hm
      go_wp2_with fail
      refine bodyPost_ret (results_pairT Try.results31 _ _ _ _ _ _ (.bool false) rfl rfl (blk_set3 HX.out _ _ _)) rfl ⟨?_, HK.out.set3 (.inr (by omega)) _ _ _⟩
      rw [HU.out]; rfl
theorem kept_in (w : World) : ∀ W W', Kept Nil w W → Kept Nil W W' → Kept Nil w W' := fun _ _ h k => h.trans k (fun _ _ e => e)
theorem call_in_same2 {P : Program} {f : FuncId} {args : Array Value} {C : World → Prop} {n : CW C} {v : Value}
    (h : Calls P f args n.w fun e w' => e = .returned v ∧ n.w = w') : Calls P f args n.w fun e w' => e = .returned v ∧ ∃ m : CW C, w' = m.w := call_in_same h
/-- The cell of a field. -/
theorem fld_cell {W : World} {X : Nat} {t : T3} {T : TypeId} (h : Blk W X T #[.int .i64 t.1, .int .i64 t.2.1, .int .i64 t.2.2]) {f : Nat} (hf : f ≤ 2) : W.cell? ⟨X, f, none⟩ = some (.int .i64 (fld t f)) := by
  have : f = 0 ∨ f = 1 ∨ f = 2 := by omega
  rcases this with rfl | rfl | rfl
  · exact h.cell 0
  · exact h.cell 1
  · exact h.cell 2
theorem tHold_some {x : Tst} {bk : List T3} {t u : T3} (h : backT x bk t = some u) : tHold bk t x = decide (fld t x.1 = fld u x.2.2) := by unfold tHold; rw [h]
theorem tHold_none {x : Tst} {bk : List T3} {t : T3} (h : backT x bk t = none) : tHold bk t x = false := by unfold tHold; rw [h]
set_option maxHeartbeats 8000000 in
theorem holds_any (x : Tst) (bk : List T3) (t : T3) (a : Option Addr) (n c : Nat) (hx : -1 ≤ x.2.1) (hf : tFine x) (hn : n ≤ maxLen) (w : World) (h : In cT3 3 w a n bk) :
    Calls Try.prog 26 #[vT x, .slice a n c, av t] w fun e w' => e = .returned (.bool (tHold bk t x)) ∧ Kept Nil w w' := by
  have hk0 := ((Kept.refl Nil w).alloc (.cells #[.int .i64 x.1, .int .i64 x.2.1, .int .i64 x.2.2] 66)).alloc (.cells #[.int .i64 t.1, .int .i64 t.2.1, .int .i64 t.2.2] 48)
  have CA := Lib.hid (against_any x bk t a n c hx hn _ (h.kept hk0))
  have K0 := Lib.hid hk0
  have B0 := Lib.hid ((Blk.new w 66 #[.int .i64 x.1, .int .i64 x.2.1, .int .i64 x.2.2]).alloc (.cells #[.int .i64 t.1, .int .i64 t.2.1, .int .i64 t.2.2] 48))
  have B1 : Hid (Blk ((w.alloc (.cells #[.int .i64 x.1, .int .i64 x.2.1, .int .i64 x.2.2] 66)).alloc (.cells #[.int .i64 t.1, .int .i64 t.2.1, .int .i64 t.2.2] 48)) (w.heap.size + 1) 48 #[.int .i64 t.1, .int .i64 t.2.1, .int .i64 t.2.2]) := Lib.hid (blk_at (by simp))
  have H1 : tHold bk t x = ((backT x bk t).isSome && decide (fld t x.1 = fld ((backT x bk t).getD (0, 0, 0)) x.2.2)) := by unfold tHold; cases backT x bk t <;> rfl
  unfold AgEnd at CA
  generalize (backT x bk t).getD (0, 0, 0) = u at *
  generalize (backT x bk t).isSome = r at *
  generalize tHold bk t x = q at *
  have HQ := Lib.hid H1
  obtain ⟨f, b, g⟩ := x
  obtain ⟨t1, t2, t3⟩ := t
  obtain ⟨⟨hf0, hf2⟩, hg0, hg2⟩ := hf
  clear h H1 hk0
  simp only at hf0 hf2 hg0 hg2
  have CF := Lib.hid (fun W => isField_any f ⟨hf0, hf2⟩ W)
  have CG := Lib.hid (fun W => isField_any g ⟨hg0, hg2⟩ W)
  go_enter Try.func26, Try.ntmps26
  go_wp2_with fail
  refine CA.out.mono ?_
  rintro e w1 ⟨rfl, k1⟩
  have hsz : w.heap.size + 1 + 1 ≤ w1.heap.size := by simpa using k1.size
  have K1 := Lib.hid (K0.out.trans k1 (fun _ _ e => e))
  have B01 := Lib.hid (B0.out.kept k1 (fun e => e))
  have B11 := Lib.hid (B1.out.kept k1 (fun e => e))
  obtain ⟨f, rfl⟩ : ∃ m : Nat, f = (m : Int) := ⟨f.toNat, by omega⟩
  obtain ⟨g, rfl⟩ : ∃ m : Nat, g = (m : Int) := ⟨g.toNat, by omega⟩
  have hf3 : f ≤ 2 := by omega
  have hg3 : g ≤ 2 := by omega
  have hf3' : (f : Int) < 3 := by omega
  have hg3' : (g : Int) < 3 := by omega
  clear k1 B0 B1 CA K0
  obtain ⟨u1, u2, u3⟩ := u
  go_upto_region 2 with fail
  have B2 := Lib.hid (Blk.new w1 48 #[.int .i64 u1, .int .i64 u2, .int .i64 u3])
  have K2 := Lib.hid ((Kept.refl Nil w1).alloc (.cells #[.int .i64 u1, .int .i64 u2, .int .i64 u3] 48))
  have B02 := Lib.hid (B01.out.kept K2.out (fun e => e))
  have B12 := Lib.hid (B11.out.kept K2.out (fun e => e))
  generalize w1.alloc (.cells #[.int .i64 u1, .int .i64 u2, .int .i64 u3] 48) = W at *
  have c0 : ∀ n : CW (Kept Nil W), n.w.cell? ⟨w.heap.size, 0, none⟩ = some (.int .i64 (f : Int)) := fun n => (B02.out.kept n.of (fun e => e)).cell 0
  have c2 : ∀ n : CW (Kept Nil W), n.w.cell? ⟨w.heap.size, 2, none⟩ = some (.int .i64 (g : Int)) := fun n => (B02.out.kept n.of (fun e => e)).cell 2
  have e0 : ∀ n : CW (Kept Nil W), n.w.cell? ⟨w.heap.size + 1, f, none⟩ = some (.int .i64 (fld (t1, t2, t3) f)) := fun n => fld_cell (t := (t1, t2, t3)) (B12.out.kept n.of (fun e => e)) hf3
  have e1 : ∀ n : CW (Kept Nil W), n.w.cell? ⟨w1.heap.size, g, none⟩ = some (.int .i64 (fld (u1, u2, u3) g)) := fun n => fld_cell (t := (u1, u2, u3)) (B2.out.kept n.of (fun e => e)) hg3
  have CFn := Lib.hid (fun n : CW (Kept Nil W) => CF.out n.w)
  have CGn := Lib.hid (fun n : CW (Kept Nil W) => CG.out n.w)
  replace HQ : Hid (q = (r && decide (fld (t1, t2, t3) f = fld (u1, u2, u3) g))) := HQ
  generalize fld (t1, t2, t3) f = y1 at *
  generalize fld (u1, u2, u3) g = y2 at *
  refine wp_region_in (Kept Nil W) (by kernel_rfl) (by kernel_rfl) ((Kept.refl _ _).drew) ?_
  have inst : Nonempty (CW (Kept Nil W)) := ⟨⟨W, Kept.refl _ _⟩⟩
  cases r with
  | false =>
    repeat (go_big_quiet_step (first | (go_at_call 32; first | exact call_in_same (CFn.out _) | exact call_in_same (CGn.out _))))
    refine wpQuiet_nil ?_
    rintro _ ⟨n, rfl⟩
    go_wp2_with fail
    go_ret
    exact ⟨ret_bool (by rw [HQ.out]; rfl), (K1.out.trans K2.out (fun _ _ e => e)).trans n.of (fun _ _ e => e)⟩
  | true =>
    repeat (go_big_quiet_step (first | (go_at_call 32; first | exact call_in_same (CFn.out _) | exact call_in_same (CGn.out _))))
    refine wpQuiet_nil ?_
    rintro _ ⟨n, rfl⟩
    go_wp2_with fail
    go_ret
    exact ⟨ret_bool (by rw [HQ.out]; rfl), (K1.out.trans K2.out (fun _ _ e => e)).trans n.of (fun _ _ e => e)⟩
end Go.Proofs.Ytefojaeinhgeiaa
