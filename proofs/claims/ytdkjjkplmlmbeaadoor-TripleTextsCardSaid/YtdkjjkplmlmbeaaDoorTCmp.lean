/- Layer triple: contracts of Compare and Same. -/
import Derived.Test.YtdkjjkplmlmbeaaDoorTRight
namespace Go.Proofs.YtdkjjkplmlmbeaaDoor
open Go.RowKit

theorem quiet_add_left {P : Program} {f : FuncId} {args : Array Value} {w : World} {a n : Nat} {v : Value}
    (h : Calls P f args (w.drewN (a + n)) fun e w' => e = .returned v ∧ w.drewN (a + n) = w') :
    Calls P f args (w.drewN (a + n)) fun e w'' => e = .returned v ∧ ∃ m, w'' = w.drewN (a + m) :=
  h.mono fun _ _ ⟨he, hm⟩ => ⟨he, n, hm.symm⟩

def cmp1 (x y : Int) : Int := if x < y then -1 else if y < x then 1 else 0
theorem cmpInt_any (x y : Int) (w : World) :
    Calls Tryd.prog 24 #[.int .i64 x, .int .i64 y] w fun e w' => e = .returned (.int .i64 (cmp1 x y)) ∧ w = w' := by
  rcases Int.lt_trichotomy x y with h | h | h
  · have H := Lib.hid (show cmp1 x y = -1 by unfold cmp1; rw [if_pos h])
    go_enter Tryd.func24, Tryd.ntmps24
    go_wp2
    go_ret
    exact ⟨ret_int H.out.symm, rfl⟩
  · subst h
    have H := Lib.hid (show cmp1 x x = 0 by unfold cmp1; rw [if_neg (by omega), if_neg (by omega)])
    go_enter Tryd.func24, Tryd.ntmps24
    go_wp2
    go_ret
    exact ⟨ret_int H.out.symm, rfl⟩
  · have H := Lib.hid (show cmp1 x y = 1 by unfold cmp1; rw [if_neg (by omega), if_pos h])
    go_enter Tryd.func24, Tryd.ntmps24
    go_wp2
    go_ret
    exact ⟨ret_int H.out.symm, rfl⟩

/-- The two blocks that a comparison lays. -/
def boxes (a b : T3) : Array Obj := #[.cells #[.int .i64 a.1, .int .i64 a.2.1, .int .i64 a.2.2] 23, .cells #[.int .i64 b.1, .int .i64 b.2.1, .int .i64 b.2.2] 23]

theorem cmp1_ne {x y : Int} (h : x ≠ y) : cmp1 x y ≠ 0 := by unfold cmp1; repeat' split <;> omega
theorem cmp1_eq {x y : Int} (h : x = y) : cmp1 x y = 0 := by unfold cmp1; rw [if_neg (by omega), if_neg (by omega)]
theorem cmpT_1 {a1 a2 a3 b1 b2 b3 : Int} (h : a1 ≠ b1) : cmpT (a1, a2, a3) (b1, b2, b3) = cmp1 a1 b1 := by unfold cmpT cmp1; simp only; repeat' split <;> omega
theorem cmpT_2 {a1 a2 a3 b1 b2 b3 : Int} (h : a1 = b1) (h2 : a2 ≠ b2) : cmpT (a1, a2, a3) (b1, b2, b3) = cmp1 a2 b2 := by unfold cmpT cmp1; simp only; repeat' split <;> omega
theorem cmpT_3 {a1 a2 a3 b1 b2 b3 : Int} (h : a1 = b1) (h2 : a2 = b2) : cmpT (a1, a2, a3) (b1, b2, b3) = cmp1 a3 b3 := by unfold cmpT cmp1; simp only; repeat' split <;> omega

/-- Where a comparison ends: two blocks, and draws. -/
def CmpEnd (a b : T3) (w : World) (e : Ending) (w' : World) : Prop := e = .returned (.int .i64 (cmpT a b)) ∧ ∃ q, w' = ((w.alloc (.cells #[.int .i64 a.1, .int .i64 a.2.1, .int .i64 a.2.2] 23)).alloc (.cells #[.int .i64 b.1, .int .i64 b.2.1, .int .i64 b.2.2] 23)).drewN q

set_option maxHeartbeats 1000000 in
theorem compare_any (a b : T3) (w : World) :
    Calls Tryd.prog 16 #[arr a, arr b] w (CmpEnd a b w) := by
  obtain ⟨a1, a2, a3⟩ := a
  obtain ⟨b1, b2, b3⟩ := b
  show Calls Tryd.prog 16 #[.agg #[.int .i64 a1, .int .i64 a2, .int .i64 a3], .agg #[.int .i64 b1, .int .i64 b2, .int .i64 b3]] w _
  go_enter Tryd.func16, Tryd.ntmps16
  go_wp2
  go_loopw [7] (fun i w' => (∃ q, w' = ((w.alloc (.cells #[.int .i64 a1, .int .i64 a2, .int .i64 a3] 23)).alloc (.cells #[.int .i64 b1, .int .i64 b2, .int .i64 b3] 23)).drewN q) ∧ (i = .int .i64 0 ∨ (a1 = b1 ∧ i = .int .i64 1) ∨ (a1 = b1 ∧ a2 = b2 ∧ i = .int .i64 2) ∨ (a1 = b1 ∧ a2 = b2 ∧ a3 = b3 ∧ i = .int .i64 3))) (fun i _ => (3 - intOf i).toNat)
  case atStart => exact ⟨⟨0, rfl⟩, .inl rfl⟩
  case round =>
    obtain ⟨⟨q, rfl⟩, hrel⟩ := hrel
    rcases hrel with rfl | ⟨h1, rfl⟩ | ⟨h1, h2, rfl⟩ | ⟨h1, h2, h3, rfl⟩
    · by_cases h : a1 = b1
      · have H := Lib.hid h
        have c0 : (cmp1 a1 b1 != 0) = false := by rw [cmp1_eq h]; rfl
        clear h
        go_wp2
        go_quiet ((go_at_call 24; exact quiet_add_left (cmpInt_any _ _ _)))
        go_wp2
        go_roundw
        case rel => exact ⟨⟨_, rfl⟩, .inr (.inl ⟨H.out, rfl⟩)⟩
        case measure => decide
      · have H := Lib.hid (cmpT_1 (a2 := a2) (a3 := a3) (b2 := b2) (b3 := b3) h)
        have c0 : (cmp1 a1 b1 != 0) = true := bne_iff_ne.2 (cmp1_ne h)
        clear h
        go_wp2
        go_quiet ((go_at_call 24; exact quiet_add_left (cmpInt_any _ _ _)))
        go_wp2
        go_ret
        exact ⟨ret_int H.out.symm, _, rfl⟩
    · have H1 := Lib.hid h1
      clear h1
      by_cases h : a2 = b2
      · have H := Lib.hid h
        have c0 : (cmp1 a2 b2 != 0) = false := by rw [cmp1_eq h]; rfl
        clear h
        go_wp2
        go_quiet ((go_at_call 24; exact quiet_add_left (cmpInt_any _ _ _)))
        go_wp2
        go_roundw
        case rel => exact ⟨⟨_, rfl⟩, .inr (.inr (.inl ⟨H1.out, H.out, rfl⟩))⟩
        case measure => decide
      · have H := Lib.hid (cmpT_2 (a3 := a3) (b3 := b3) H1.out h)
        have c0 : (cmp1 a2 b2 != 0) = true := bne_iff_ne.2 (cmp1_ne h)
        clear h
        go_wp2
        go_quiet ((go_at_call 24; exact quiet_add_left (cmpInt_any _ _ _)))
        go_wp2
        go_ret
        exact ⟨ret_int H.out.symm, _, rfl⟩
    · have H1 := Lib.hid h1
      clear h1
      have H2 := Lib.hid h2
      clear h2
      by_cases h : a3 = b3
      · have H := Lib.hid h
        have c0 : (cmp1 a3 b3 != 0) = false := by rw [cmp1_eq h]; rfl
        clear h
        go_wp2
        go_quiet ((go_at_call 24; exact quiet_add_left (cmpInt_any _ _ _)))
        go_wp2
        go_roundw
        case rel => exact ⟨⟨_, rfl⟩, .inr (.inr (.inr ⟨H1.out, H2.out, H.out, rfl⟩))⟩
        case measure => decide
      · have H := Lib.hid (cmpT_3 (a3 := a3) (b3 := b3) H1.out H2.out)
        have c0 : (cmp1 a3 b3 != 0) = true := bne_iff_ne.2 (cmp1_ne h)
        clear h
        go_wp2
        go_quiet ((go_at_call 24; exact quiet_add_left (cmpInt_any _ _ _)))
        go_wp2
        go_ret
        exact ⟨ret_int H.out.symm, _, rfl⟩
    · have H := Lib.hid (show cmpT (a1, a2, a3) (b1, b2, b3) = 0 by rw [cmpT_3 h1 h2, cmp1_eq h3])
      clear h1 h2 h3
      go_wp2
      go_ret
      exact ⟨ret_int H.out.symm, _, rfl⟩

theorem Kept.drewN' {F : Nat → Prop} {a w : World} (h : Kept F a w) (n : Nat) : Kept F a (w.drewN n) := h.drewN n
theorem compare_kept (a b : T3) (w : World) :
    Calls Tryd.prog 16 #[arr a, arr b] w fun e w' => e = .returned (.int .i64 (cmpT a b)) ∧ Kept Nil w w' :=
  (compare_any a b w).mono fun _ _ ⟨he, q, hw⟩ => ⟨he, by rw [hw]; exact (((Kept.refl _ _).alloc _).alloc _).drewN q⟩
end Go.Proofs.YtdkjjkplmlmbeaaDoor
