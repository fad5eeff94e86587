/- Of any three triples Compare goes on: TripleOrder returns true, and writes nothing that was there. No condition but Go's own variables. -/
import Derived.Test.YtdkjjkplmlmbeaaDoorTAwake
namespace Go.Proofs.YtdkjjkplmlmbeaaDoor
open Go.RowKit

theorem order_facts (a b c : T3) : ∃ x y z : Int, cmpT a b = x ∧ cmpT b c = y ∧ cmpT a c = z ∧ (x = -1 ∨ x = 0 ∨ x = 1) ∧ (y = -1 ∨ y = 0 ∨ y = 1) ∧ (z = -1 ∨ z = 0 ∨ z = 1) ∧ (x ≤ 0 → y ≤ 0 → z ≤ 0) ∧ (x = 0 → z = y) ∧ (decide (a = b) = decide (x = 0)) := by
  refine ⟨_, _, _, rfl, rfl, rfl, ?_⟩
  have ir : ∀ t, lessT t t = true → False := fun t h => by rw [less_irrefl] at h; cases h
  have asy : ∀ t u, lessT t u = true → lessT u t = true → False := fun t u h h' => by rw [less_asymm h] at h'; cases h'
  rcases cmpT_cases a b with ⟨h1, l1⟩ | ⟨h1, rfl⟩ | ⟨h1, l1⟩
  · have ne : a ≠ b := fun e => ir b (by rw [e] at l1; exact l1)
    rcases cmpT_cases b c with ⟨h2, l2⟩ | ⟨h2, rfl⟩ | ⟨h2, l2⟩
    · rcases cmpT_cases a c with ⟨h3, l3⟩ | ⟨h3, rfl⟩ | ⟨h3, l3⟩
      · rw [h1, h2, h3]; simp [ne]
      · exact (asy _ _ l1 l2).elim
      · exact (asy _ _ (less_trans l1 l2) l3).elim
    · rw [h1, h2]; simp [ne]
    · rcases cmpT_cases a c with ⟨h3, l3⟩ | ⟨h3, rfl⟩ | ⟨h3, l3⟩
      · rw [h1, h2, h3]; simp [ne]
      · rw [h1, h2, h3]; simp [ne]
      · rw [h1, h2, h3]; simp [ne]
  · rcases cmpT_cases a c with ⟨h3, l3⟩ | ⟨h3, rfl⟩ | ⟨h3, l3⟩
    · rw [h1, h3]; simp
    · rw [h1]; simp
    · rw [h1, h3]; simp
  · have ne : a ≠ b := fun e => ir b (by rw [e] at l1; exact l1)
    rcases cmpT_cases b c with ⟨h2, l2⟩ | ⟨h2, _⟩ | ⟨h2, l2⟩ <;> rcases cmpT_cases a c with ⟨h3, l3⟩ | ⟨h3, _⟩ | ⟨h3, l3⟩ <;> simp [h1, h2, h3, ne]

/-- Three triples' blocks. -/
def C9 (w : World) (a b c : T3) (W : World) : Prop :=
  C3 w w.heap.size (.int .i64 a.1) (.int .i64 a.2.1) (.int .i64 a.2.2) W ∧ C3 w (w.heap.size + 1) (.int .i64 b.1) (.int .i64 b.2.1) (.int .i64 b.2.2) W ∧ C3 w (w.heap.size + 2) (.int .i64 c.1) (.int .i64 c.2.1) (.int .i64 c.2.2) W
theorem C9.step {w : World} {a b c : T3} (W W' : World) (h : C9 w a b c W) (k : Kept Nil W W') : C9 w a b c W' := ⟨C3.step _ _ h.1 k, C3.step _ _ h.2.1 k, C3.step _ _ h.2.2 k⟩
theorem C9.start (w : World) (a1 a2 a3 b1 b2 b3 c1 c2 c3 : Int) (t : TypeId) : C9 w (a1, a2, a3) (b1, b2, b3) (c1, c2, c3) (((w.alloc (.cells #[.int .i64 a1, .int .i64 a2, .int .i64 a3] t)).alloc (.cells #[.int .i64 b1, .int .i64 b2, .int .i64 b3] t)).alloc (.cells #[.int .i64 c1, .int .i64 c2, .int .i64 c3] t)).drew := by
  have k : Kept Nil w (((w.alloc (.cells #[.int .i64 a1, .int .i64 a2, .int .i64 a3] t)).alloc (.cells #[.int .i64 b1, .int .i64 b2, .int .i64 b3] t)).alloc (.cells #[.int .i64 c1, .int .i64 c2, .int .i64 c3] t)).drew := ((((Kept.refl _ _).alloc _).alloc _).alloc _).drew
  exact ⟨⟨by go_simp, by go_simp, by go_simp, k⟩, ⟨by go_simp, by go_simp, by go_simp, k⟩, ⟨by go_simp, by go_simp, by go_simp, k⟩⟩

set_option maxRecDepth 100000 in
set_option maxHeartbeats 2000000 in
theorem lawOrder_any (a b c : T3) (w : World) (E : Env w) :
    Calls Tryd.prog 7 #[arr a, arr b, arr c] w fun e w' => e = .returned (.bool true) ∧ Kept Nil w w' := by
  obtain ⟨x, y, z, hx, hy, hz, cx, cy, cz, p1, p2, p3⟩ := order_facts a b c
  have C1 : Hid (∀ W : World, Calls Tryd.prog 16 #[arr a, arr b] W fun e w' => e = .returned (.int .i64 x) ∧ Kept Nil W w') := Lib.hid fun W => by have := compare_kept a b W; rw [hx] at this; exact this
  have C2 : Hid (∀ W : World, Calls Tryd.prog 16 #[arr b, arr c] W fun e w' => e = .returned (.int .i64 y) ∧ Kept Nil W w') := Lib.hid fun W => by have := compare_kept b c W; rw [hy] at this; exact this
  have C3' : Hid (∀ W : World, Calls Tryd.prog 16 #[arr a, arr c] W fun e w' => e = .returned (.int .i64 z) ∧ Kept Nil W w') := Lib.hid fun W => by have := compare_kept a c W; rw [hz] at this; exact this
  clear hx hy hz
  obtain ⟨a1, a2, a3⟩ := a
  obtain ⟨b1, b2, b3⟩ := b
  obtain ⟨c1, c2, c3⟩ := c
  have D1' : Hid (∀ W : World, Calls Tryd.prog 16 #[.agg #[.int .i64 a1, .int .i64 a2, .int .i64 a3], .agg #[.int .i64 b1, .int .i64 b2, .int .i64 b3]] W fun e w' => e = .returned (.int .i64 x) ∧ Kept Nil W w') := C1
  have D2' : Hid (∀ W : World, Calls Tryd.prog 16 #[.agg #[.int .i64 b1, .int .i64 b2, .int .i64 b3], .agg #[.int .i64 c1, .int .i64 c2, .int .i64 c3]] W fun e w' => e = .returned (.int .i64 y) ∧ Kept Nil W w') := C2
  have D3' : Hid (∀ W : World, Calls Tryd.prog 16 #[.agg #[.int .i64 a1, .int .i64 a2, .int .i64 a3], .agg #[.int .i64 c1, .int .i64 c2, .int .i64 c3]] W fun e w' => e = .returned (.int .i64 z) ∧ Kept Nil W w') := C3'
  clear C1 C2 C3'
  have hq : ∀ W, (Op.equalIn 10000 23 (.agg #[.int .i64 a1, .int .i64 a2, .int .i64 a3]) (.agg #[.int .i64 b1, .int .i64 b2, .int .i64 b3])).run Tryd.prog W = .ok (decide (x = 0)) W := fun W => by rw [eqT, p3]
  have HE := Lib.hid E
  have CA : Hid (∀ W : World, Env W → Calls Tryd.prog 11 #[] W fun e w' => e = .returned (.bool true) ∧ Kept Nil W w') := Lib.hid fun W h => awake_any W h
  have O := Lib.hid (C9.start w a1 a2 a3 b1 b2 b3 c1 c2 c3 23)
  clear p3 E
  show Calls Tryd.prog 7 #[.agg #[.int .i64 a1, .int .i64 a2, .int .i64 a3], .agg #[.int .i64 b1, .int .i64 b2, .int .i64 b3], .agg #[.int .i64 c1, .int .i64 c2, .int .i64 c3]] w _
  rcases cx with rfl | rfl | rfl <;> rcases cy with rfl | rfl | rfl <;> rcases cz with rfl | rfl | rfl <;> first | (exfalso; omega) | skip
  all_goals
    clear p1 p2
    simp only [decide_true, show (decide ((-1 : Int) = 0)) = false from rfl, show (decide ((1 : Int) = 0)) = false from rfl] at hq
    go_enter Tryd.func7, Tryd.ntmps7
    go_wp2_with fail
    refine wp_region_in (C9 w (a1, a2, a3) (b1, b2, b3) (c1, c2, c3)) (by kernel_rfl) (by kernel_rfl) O.out ?_
    have inst : Nonempty (CW (C9 w (a1, a2, a3) (b1, b2, b3) (c1, c2, c3))) := ⟨⟨_, O.out⟩⟩
    have ha0 : ∀ n : CW (C9 w (a1, a2, a3) (b1, b2, b3) (c1, c2, c3)), n.w.cell? ⟨w.heap.size, 0, none⟩ = some (.int .i64 a1) := fun n => n.of.1.1
    have ha1 : ∀ n : CW (C9 w (a1, a2, a3) (b1, b2, b3) (c1, c2, c3)), n.w.cell? ⟨w.heap.size, 1, none⟩ = some (.int .i64 a2) := fun n => n.of.1.2.1
    have ha2 : ∀ n : CW (C9 w (a1, a2, a3) (b1, b2, b3) (c1, c2, c3)), n.w.cell? ⟨w.heap.size, 2, none⟩ = some (.int .i64 a3) := fun n => n.of.1.2.2.1
    have hb0 : ∀ n : CW (C9 w (a1, a2, a3) (b1, b2, b3) (c1, c2, c3)), n.w.cell? ⟨w.heap.size + 1, 0, none⟩ = some (.int .i64 b1) := fun n => n.of.2.1.1
    have hb1 : ∀ n : CW (C9 w (a1, a2, a3) (b1, b2, b3) (c1, c2, c3)), n.w.cell? ⟨w.heap.size + 1, 1, none⟩ = some (.int .i64 b2) := fun n => n.of.2.1.2.1
    have hb2 : ∀ n : CW (C9 w (a1, a2, a3) (b1, b2, b3) (c1, c2, c3)), n.w.cell? ⟨w.heap.size + 1, 2, none⟩ = some (.int .i64 b3) := fun n => n.of.2.1.2.2.1
    have hc0 : ∀ n : CW (C9 w (a1, a2, a3) (b1, b2, b3) (c1, c2, c3)), n.w.cell? ⟨w.heap.size + 1 + 1, 0, none⟩ = some (.int .i64 c1) := fun n => n.of.2.2.1
    have hc1 : ∀ n : CW (C9 w (a1, a2, a3) (b1, b2, b3) (c1, c2, c3)), n.w.cell? ⟨w.heap.size + 1 + 1, 1, none⟩ = some (.int .i64 c2) := fun n => n.of.2.2.2.1
    have hc2 : ∀ n : CW (C9 w (a1, a2, a3) (b1, b2, b3) (c1, c2, c3)), n.w.cell? ⟨w.heap.size + 1 + 1, 2, none⟩ = some (.int .i64 c3) := fun n => n.of.2.2.2.2.1
    repeat (go_big_quiet_step ((first | (go_at_call 16; with_reducible exact call_in C9.step (D1'.out _)) | (go_at_call 16; with_reducible exact call_in C9.step (D2'.out _)) | (go_at_call 16; with_reducible exact call_in C9.step (D3'.out _)))))
    refine wpQuiet_nil ?_
    rintro _ ⟨n, rfl⟩
    go_wp2_with fail
    refine (CA.out _ (HE.out.kept n.of.1.2.2.2)).mono ?_
    rintro e w3 ⟨rfl, k3⟩
    go_wp2_with fail
    go_ret
    exact ⟨rfl, n.of.1.2.2.2.trans k3 (fun _ _ g => g)⟩
end Go.Proofs.YtdkjjkplmlmbeaaDoor
