/- Layer key: contracts of numbered, and of the reference's Key; three blocks of a call. -/
import Derived.Test.YthiijlngoikhkaaKHas
import Derived.Test.YthiijlngoikhkaaEls
namespace Go.Proofs.Ythiijlngoikhkaa
open Go.RowKit
set_option maxRecDepth 100000

/-- Three blocks of a call: what came in, the result's, the variable's. -/
structure Acc (tb t : TypeId) (w : World) (lc zc oc : Array Value) (W : World) : Prop where
  kept : Kept Nil w W
  b0 : Blk W w.heap.size tb lc
  b1 : Blk W (w.heap.size + 1) t zc
  b2 : Blk W (w.heap.size + 1 + 1) t oc
theorem Acc.start (tb t : TypeId) (w : World) (lc zc oc : Array Value) : Acc tb t w lc zc oc (((w.alloc (.cells lc tb)).alloc (.cells zc t)).alloc (.cells oc t)) := by
  refine ⟨(((Kept.refl Nil w).alloc _).alloc _).alloc _, ((Blk.new w _ _).alloc _).alloc _, ?_, ?_⟩
  · have := (Blk.new (w.alloc (.cells lc tb)) t zc).alloc (.cells oc t)
    simpa using this
  · have := Blk.new ((w.alloc (.cells lc tb)).alloc (.cells zc t)) t oc
    simpa using this
section
variable {tb t : TypeId} {w W W' : World} {lc zc oc : Array Value}
theorem Acc.alloc (h : Acc tb t w lc zc oc W) (o : Obj) : Acc tb t w lc zc oc (W.alloc o) := ⟨h.kept.alloc o, h.b0.alloc o, h.b1.alloc o, h.b2.alloc o⟩
theorem Acc.step (h : Acc tb t w lc zc oc W) (k : Kept Nil W W') : Acc tb t w lc zc oc W' := ⟨h.kept.trans k (fun _ _ g => g), h.b0.kept k id, h.b1.kept k id, h.b2.kept k id⟩
theorem Acc.set_ (h : Acc tb t w lc zc oc W) (i : Nat) (v : Value) : Acc tb t w lc zc (oc.setIfInBounds i v) (W.setCell ⟨w.heap.size + 1 + 1, i, none⟩ v) :=
  ⟨h.kept.setCell _ (.inr (by show _ ≤ w.heap.size + 1 + 1; omega)) _, h.b0.far (by show _ ≠ w.heap.size + 1 + 1; omega) _, h.b1.far (by show _ ≠ w.heap.size + 1 + 1; omega) _, h.b2.set_ i v⟩
end
abbrev c3 (x y z : Int) : Array Value := #[.int .i64 x, .int .i64 y, .int .i64 z]

theorem Acc.facts {tb t : TypeId} {w W : World} {lc : Array Value} {x y z : Int} (h : Acc tb t w lc (c3 0 0 0) (c3 x y z) W) :
    (W.cell? ⟨w.heap.size + 1, 0, none⟩ = some (.int .i64 0) ∧ W.cell? ⟨w.heap.size + 1, 1, none⟩ = some (.int .i64 0) ∧ W.cell? ⟨w.heap.size + 1, 2, none⟩ = some (.int .i64 0)) ∧
    (W.frozen? ⟨w.heap.size + 1, 0, none⟩ = false ∧ W.frozen? ⟨w.heap.size + 1, 1, none⟩ = false ∧ W.frozen? ⟨w.heap.size + 1, 2, none⟩ = false) ∧
    (W.cell? ⟨w.heap.size + 1 + 1, 0, none⟩ = some (.int .i64 x) ∧ W.cell? ⟨w.heap.size + 1 + 1, 1, none⟩ = some (.int .i64 y) ∧ W.cell? ⟨w.heap.size + 1 + 1, 2, none⟩ = some (.int .i64 z)) ∧
    (W.frozen? ⟨w.heap.size + 1 + 1, 0, none⟩ = false ∧ W.frozen? ⟨w.heap.size + 1 + 1, 1, none⟩ = false ∧ W.frozen? ⟨w.heap.size + 1 + 1, 2, none⟩ = false) :=
  ⟨⟨h.b1.cell 0, h.b1.cell 1, h.b1.cell 2⟩, ⟨h.b1.frozen 0, h.b1.frozen 1, h.b1.frozen 2⟩, ⟨h.b2.cell 0, h.b2.cell 1, h.b2.cell 2⟩, ⟨h.b2.frozen 0, h.b2.frozen 1, h.b2.frozen 2⟩⟩
theorem Acc.done {tb t : TypeId} {w W : World} {lc zc oc : Array Value} (h : Acc tb t w lc zc oc W) (u v x : Value) : Kept Nil w (((W.setCell ⟨w.heap.size + 1, 0, none⟩ u).setCell ⟨w.heap.size + 1, 1, none⟩ v).setCell ⟨w.heap.size + 1, 2, none⟩ x) :=
  ((h.kept.setCell _ (.inr (Nat.le_succ _)) _).setCell _ (.inr (Nat.le_succ _)) _).setCell _ (.inr (Nat.le_succ _)) _
theorem keyF_one {x : Int} {n : Nat} (h : n % 2 = 1) : keyF x n = x := by unfold keyF; rw [if_pos h]
theorem keyF_not {x : Int} {n : Nat} (h : ¬ n % 2 = 1) : keyF x n = 0 := by unfold keyF; rw [if_neg h]

set_option maxHeartbeats 1000000 in
theorem numbered_any (t : T3) (n : Nat) (hn : n < 8) (w : World) :
    Calls Try.prog 51 #[arr t, .int .i64 n] w fun e w' => e = .returned (arr (keyT t n)) ∧ Kept Nil w w' := by
  obtain ⟨a, b, c⟩ := t
  show Calls Try.prog 51 #[.agg #[.int .i64 a, .int .i64 b, .int .i64 c], .int .i64 n] w _
  obtain ⟨i0, i1, i2⟩ := rightIdx (.int .i64 a) (.int .i64 b) (.int .i64 c)
  have b0 : ∀ m : Nat, m < 8 → (bits BinOp.and IntKind.i64 (m : Int) 1 != 0) = decide (m % 2 = 1) := by decide
  have b1 : ∀ m : Nat, m < 8 → (bits BinOp.and IntKind.i64 (m : Int) 2 != 0) = decide (m / 2 % 2 = 1) := by decide
  have b2 : ∀ m : Nat, m < 8 → (bits BinOp.and IntKind.i64 (m : Int) 4 != 0) = decide (m / 2 / 2 % 2 = 1) := by decide
  have BB0 := Lib.hid (b0 n hn)
  have BB1 := Lib.hid (b1 n hn)
  have BB2 := Lib.hid (b2 n hn)
  clear b0 b1 b2
  have A0 := Lib.hid (Acc.start 31 31 w (c3 a b c) (c3 0 0 0) (c3 0 0 0))
  go_enter Try.func51, Try.ntmps51
  go_wp2_with fail
  go_loopw [9] (fun i wr => (i = .int .i64 0 ∧ Acc 31 31 w (c3 a b c) (c3 0 0 0) (c3 0 0 0) wr)
    ∨ (i = .int .i64 1 ∧ Acc 31 31 w (c3 a b c) (c3 0 0 0) (c3 (keyF a n) 0 0) wr)
    ∨ (i = .int .i64 2 ∧ Acc 31 31 w (c3 a b c) (c3 0 0 0) (c3 (keyF a n) (keyF b (n / 2)) 0) wr)
    ∨ (i = .int .i64 3 ∧ Acc 31 31 w (c3 a b c) (c3 0 0 0) (c3 (keyF a n) (keyF b (n / 2)) (keyF c (n / 2 / 2))) wr)) (fun i _ => (3 - intOf i).toNat)
  case atStart => exact .inl ⟨rfl, A0.out⟩
  case round =>
    rcases hrel with ⟨rfl, h⟩ | ⟨rfl, h⟩ | ⟨rfl, h⟩ | ⟨rfl, h⟩
    · have H := Lib.hid h
      obtain ⟨_, _, ⟨q0, q1, q2⟩, f0, f1, f2⟩ := h.facts
      have hl : w.heap.size + 1 + 1 < wr.heap.size := h.b2.lt
      clear h A0
      by_cases hb : n % 2 = 1
      · have B := Lib.hid (keyF_one (x := a) hb)
        have g0 : (bits BinOp.and IntKind.i64 (n : Int) 1 != 0) = true := by rw [BB0.out]; exact decide_eq_true hb
        clear hb
        go_wp2_with fail
        go_roundw
        case rel => exact .inr (.inl ⟨rfl, by rw [B.out]; exact H.out.set_ 0 (.int .i64 a)⟩)
        case measure => decide
      · have B := Lib.hid (keyF_not (x := a) hb)
        have g0 : (bits BinOp.and IntKind.i64 (n : Int) 1 != 0) = false := by rw [BB0.out]; exact decide_eq_false hb
        clear hb
        go_wp2_with fail
        go_roundw
        case rel => exact .inr (.inl ⟨rfl, by rw [B.out]; exact H.out⟩)
        case measure => decide
    · have H := Lib.hid h
      obtain ⟨_, _, ⟨q0, q1, q2⟩, f0, f1, f2⟩ := h.facts
      have hl : w.heap.size + 1 + 1 < wr.heap.size := h.b2.lt
      clear h A0
      by_cases hb : n / 2 % 2 = 1
      · have B := Lib.hid (keyF_one (x := b) hb)
        have g0 : (bits BinOp.and IntKind.i64 (n : Int) 2 != 0) = true := by rw [BB1.out]; exact decide_eq_true hb
        clear hb
        go_wp2_with fail
        go_roundw
        case rel => exact .inr (.inr (.inl ⟨rfl, by rw [B.out]; exact H.out.set_ 1 (.int .i64 b)⟩))
        case measure => decide
      · have B := Lib.hid (keyF_not (x := b) hb)
        have g0 : (bits BinOp.and IntKind.i64 (n : Int) 2 != 0) = false := by rw [BB1.out]; exact decide_eq_false hb
        clear hb
        go_wp2_with fail
        go_roundw
        case rel => exact .inr (.inr (.inl ⟨rfl, by rw [B.out]; exact H.out⟩))
        case measure => decide
    · have H := Lib.hid h
      obtain ⟨_, _, ⟨q0, q1, q2⟩, f0, f1, f2⟩ := h.facts
      have hl : w.heap.size + 1 + 1 < wr.heap.size := h.b2.lt
      clear h A0
      by_cases hb : n / 2 / 2 % 2 = 1
      · have B := Lib.hid (keyF_one (x := c) hb)
        have g0 : (bits BinOp.and IntKind.i64 (n : Int) 4 != 0) = true := by rw [BB2.out]; exact decide_eq_true hb
        clear hb
        go_wp2_with fail
        go_roundw
        case rel => exact .inr (.inr (.inr (⟨rfl, by rw [B.out]; exact H.out.set_ 2 (.int .i64 c)⟩)))
        case measure => decide
      · have B := Lib.hid (keyF_not (x := c) hb)
        have g0 : (bits BinOp.and IntKind.i64 (n : Int) 4 != 0) = false := by rw [BB2.out]; exact decide_eq_false hb
        clear hb
        go_wp2_with fail
        go_roundw
        case rel => exact .inr (.inr (.inr (⟨rfl, by rw [B.out]; exact H.out⟩)))
        case measure => decide
    · have H := Lib.hid h
      obtain ⟨⟨q0, q1, q2⟩, ⟨f0, f1, f2⟩, ⟨v0, v1, v2⟩, _, _, _⟩ := h.facts
      have hl : w.heap.size + 1 + 1 < wr.heap.size := h.b2.lt
      clear h A0 BB0 BB1 BB2
      go_wp2_with fail
      refine bodyPost_ret (v := .agg #[.int .i64 (keyF a n), .int .i64 (keyF b (n / 2)), .int .i64 (keyF c (n / 2 / 2))]) (by simp [results, Try.results51, go_sem, q0, q1, q2]) rfl ⟨rfl, H.out.done _ _ _⟩

set_option maxHeartbeats 1000000 in
theorem refKey_any (t : T3) (n : Nat) (hn : n < 8) (w : World) :
    Calls Try.prog 39 #[arr t, .int .i64 n] w fun e w' => e = .returned (arr (keyT t n)) ∧ Kept Nil w w' := by
  obtain ⟨a, b, c⟩ := t
  show Calls Try.prog 39 #[.agg #[.int .i64 a, .int .i64 b, .int .i64 c], .int .i64 n] w _
  obtain ⟨m1, e1⟩ : ∃ m, m = n / 2 := ⟨_, rfl⟩
  obtain ⟨m2, e2⟩ : ∃ m, m = m1 / 2 := ⟨_, rfl⟩
  obtain ⟨m3, e3⟩ : ∃ m, m = m2 / 2 := ⟨_, rfl⟩
  have HV := Lib.hid (show keyT (a, b, c) n = (keyF a n, keyF b m1, keyF c m2) by rw [e2, e1]; rfl)
  have T1 := Lib.hid (show (n : Int).tdiv 2 = (m1 : Int) by rw [Int.tdiv_eq_ediv_of_nonneg (by omega)]; omega)
  have T2 := Lib.hid (show (m1 : Int).tdiv 2 = (m2 : Int) by rw [Int.tdiv_eq_ediv_of_nonneg (by omega)]; omega)
  have T3 := Lib.hid (show (m2 : Int).tdiv 2 = (m3 : Int) by rw [Int.tdiv_eq_ediv_of_nonneg (by omega)]; omega)
  have l1 : m1 < 8 := by omega
  have l2 : m2 < 8 := by omega
  have l3 : m3 < 8 := by omega
  clear e1 e2 e3
  have A0 := Lib.hid (Acc.start 30 30 w (c3 a b c) (c3 0 0 0) (c3 0 0 0))
  go_enter Try.func39, Try.ntmps39
  go_wp2_with fail
  go_loopw [1, 6] (fun m i wr => (m = .int .i64 n ∧ i = .int .i64 0 ∧ Acc 30 30 w (c3 a b c) (c3 0 0 0) (c3 0 0 0) wr)
    ∨ (m = .int .i64 (m1 : Int) ∧ i = .int .i64 1 ∧ Acc 30 30 w (c3 a b c) (c3 0 0 0) (c3 (keyF a n) 0 0) wr)
    ∨ (m = .int .i64 (m2 : Int) ∧ i = .int .i64 2 ∧ Acc 30 30 w (c3 a b c) (c3 0 0 0) (c3 (keyF a n) (keyF b m1) 0) wr)
    ∨ (m = .int .i64 m3 ∧ i = .int .i64 3 ∧ Acc 30 30 w (c3 a b c) (c3 0 0 0) (c3 (keyF a n) (keyF b m1) (keyF c m2)) wr)) (fun _ i _ => (3 - intOf i).toNat)
  case atStart => exact .inl ⟨rfl, rfl, A0.out⟩
  case round =>
    rcases hrel with ⟨rfl, rfl, h⟩ | ⟨rfl, rfl, h⟩ | ⟨rfl, rfl, h⟩ | ⟨rfl, rfl, h⟩
    · have H := Lib.hid h
      obtain ⟨_, _, ⟨q0, q1, q2⟩, f0, f1, f2⟩ := h.facts
      have hl : w.heap.size + 1 + 1 < wr.heap.size := h.b2.lt
      have d0 := T1.out
      obtain ⟨x0, x1, x2⟩ := (show _ ∧ _ ∧ _ from ⟨h.b0.cell 0, h.b0.cell 1, h.b0.cell 2⟩)
      simp at x0 x1 x2
      clear h A0
      by_cases hb : n % 2 = 1
      · have B := Lib.hid (keyF_one (x := a) hb)
        have g0 : (((n : Int)) % 2 == 1) = true := beq_iff_eq.2 (by omega)
        clear hb
        go_wp2_with fail
        go_roundw
        case rel => exact .inr (.inl ⟨rfl, rfl, by rw [B.out]; exact H.out.set_ 0 (.int .i64 a)⟩)
        case measure => decide
      · have B := Lib.hid (keyF_not (x := a) hb)
        have g0 : (((n : Int)) % 2 == 1) = false := beq_eq_false_iff_ne.2 (by omega)
        clear hb
        go_wp2_with fail
        go_roundw
        case rel => exact .inr (.inl ⟨rfl, rfl, by rw [B.out]; exact H.out⟩)
        case measure => decide
    · have H := Lib.hid h
      obtain ⟨_, _, ⟨q0, q1, q2⟩, f0, f1, f2⟩ := h.facts
      have hl : w.heap.size + 1 + 1 < wr.heap.size := h.b2.lt
      have d0 := T2.out
      obtain ⟨x0, x1, x2⟩ := (show _ ∧ _ ∧ _ from ⟨h.b0.cell 0, h.b0.cell 1, h.b0.cell 2⟩)
      simp at x0 x1 x2
      clear h A0
      by_cases hb : m1 % 2 = 1
      · have B := Lib.hid (keyF_one (x := b) hb)
        have g0 : ((m1 : Int) % 2 == 1) = true := beq_iff_eq.2 (by omega)
        clear hb
        go_wp2_with fail
        go_roundw
        case rel => exact .inr (.inr (.inl ⟨rfl, rfl, by rw [B.out]; exact H.out.set_ 1 (.int .i64 b)⟩))
        case measure => decide
      · have B := Lib.hid (keyF_not (x := b) hb)
        have g0 : ((m1 : Int) % 2 == 1) = false := beq_eq_false_iff_ne.2 (by omega)
        clear hb
        go_wp2_with fail
        go_roundw
        case rel => exact .inr (.inr (.inl ⟨rfl, rfl, by rw [B.out]; exact H.out⟩))
        case measure => decide
    · have H := Lib.hid h
      obtain ⟨_, _, ⟨q0, q1, q2⟩, f0, f1, f2⟩ := h.facts
      have hl : w.heap.size + 1 + 1 < wr.heap.size := h.b2.lt
      have d0 := T3.out
      obtain ⟨x0, x1, x2⟩ := (show _ ∧ _ ∧ _ from ⟨h.b0.cell 0, h.b0.cell 1, h.b0.cell 2⟩)
      simp at x0 x1 x2
      clear h A0
      by_cases hb : m2 % 2 = 1
      · have B := Lib.hid (keyF_one (x := c) hb)
        have g0 : ((m2 : Int) % 2 == 1) = true := beq_iff_eq.2 (by omega)
        clear hb
        go_wp2_with fail
        go_roundw
        case rel => exact .inr (.inr (.inr (⟨rfl, rfl, by rw [B.out]; exact H.out.set_ 2 (.int .i64 c)⟩)))
        case measure => decide
      · have B := Lib.hid (keyF_not (x := c) hb)
        have g0 : ((m2 : Int) % 2 == 1) = false := beq_eq_false_iff_ne.2 (by omega)
        clear hb
        go_wp2_with fail
        go_roundw
        case rel => exact .inr (.inr (.inr (⟨rfl, rfl, by rw [B.out]; exact H.out⟩)))
        case measure => decide
    · have H := Lib.hid h
      obtain ⟨⟨q0, q1, q2⟩, ⟨f0, f1, f2⟩, ⟨v0, v1, v2⟩, _, _, _⟩ := h.facts
      have hl : w.heap.size + 1 + 1 < wr.heap.size := h.b2.lt
      clear h A0
      go_wp2_with fail
      refine bodyPost_ret (v := .agg #[.int .i64 (keyF a n), .int .i64 (keyF b m1), .int .i64 (keyF c m2)]) (by simp [results, Try.results39, go_sem, q0, q1, q2]) rfl ⟨by rw [HV.out]; rfl, H.out.done _ _ _⟩
end Go.Proofs.Ythiijlngoikhkaa
