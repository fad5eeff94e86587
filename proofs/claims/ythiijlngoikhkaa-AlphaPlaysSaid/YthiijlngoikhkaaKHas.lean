/- Layer key: contracts of Has, of the program and of the reference, and of Number. -/
import Derived.Test.YthiijlngoikhkaaKRight
import Derived.IntWalk
namespace Go.Proofs.Ythiijlngoikhkaa
open Go.RowKit

set_option maxHeartbeats 1000000 in
theorem has_any (t k : T3) (w : World) :
    Calls Try.prog 47 #[arr t, arr k] w fun e w' => e = .returned (.bool (hasK t k)) ∧ Kept Nil w w' := by
  obtain ⟨a, b, c⟩ := t
  obtain ⟨x, y, z⟩ := k
  show Calls Try.prog 47 #[.agg #[.int .i64 a, .int .i64 b, .int .i64 c], .agg #[.int .i64 x, .int .i64 y, .int .i64 z]] w _
  obtain ⟨i0, i1, i2⟩ := rightIdx (.int .i64 x) (.int .i64 y) (.int .i64 z)
  go_enter Try.func47, Try.ntmps47
  go_wp2
  go_loop [8] (fun i => i = .int .i64 0 ∨ (hasF a x = true ∧ i = .int .i64 1) ∨ (hasF a x = true ∧ hasF b y = true ∧ i = .int .i64 2) ∨ (hasF a x = true ∧ hasF b y = true ∧ hasF c z = true ∧ i = .int .i64 3)) (fun i => (3 - intOf i).toNat)
  case atStart => exact .inl rfl
  case round =>
    rcases hrel with rfl | ⟨h1, rfl⟩ | ⟨h1, h2, rfl⟩ | ⟨h1, h2, h3, rfl⟩
    · cases h : hasF a x with
      | true =>
        have hb := hasF_iff.1 h
        have H := Lib.hid h
        clear h
        by_cases h0 : x = 0
        · have n0 : (x != 0) = false := by rw [h0]; rfl
          clear h0 hb
          go_wp2
          go_round
          case rel => exact .inr (.inl ⟨trivial, rfl⟩)
          case measure => decide
        · have n0 : (x != 0) = true := bne_iff_ne.2 h0
          have n1 : (x != a) = false := by rw [hb.resolve_left h0]; simp
          clear h0 hb
          go_wp2
          go_round
          case rel => exact .inr (.inl ⟨trivial, rfl⟩)
          case measure => decide
      | false =>
        obtain ⟨h0, hs⟩ := hasF_no h
        have H := Lib.hid (hasK_bad1 (t := (a, b, c)) (k := (x, y, z)) h)
        have n0 : (x != 0) = true := bne_iff_ne.2 h0
        have n1 : (x != a) = true := bne_iff_ne.2 hs
        clear h h0 hs
        go_wp2
        go_ret
        exact ⟨ret_bool H.out.symm, ((Kept.refl _ _).alloc _).alloc _⟩
    · have H1 := Lib.hid h1
      clear h1
      cases h : hasF b y with
      | true =>
        have hb := hasF_iff.1 h
        have H := Lib.hid h
        clear h
        by_cases h0 : y = 0
        · have n0 : (y != 0) = false := by rw [h0]; rfl
          clear h0 hb
          go_wp2
          go_round
          case rel => exact .inr (.inr (.inl ⟨H1.out, trivial, rfl⟩))
          case measure => decide
        · have n0 : (y != 0) = true := bne_iff_ne.2 h0
          have n1 : (y != b) = false := by rw [hb.resolve_left h0]; simp
          clear h0 hb
          go_wp2
          go_round
          case rel => exact .inr (.inr (.inl ⟨H1.out, trivial, rfl⟩))
          case measure => decide
      | false =>
        obtain ⟨h0, hs⟩ := hasF_no h
        have H := Lib.hid (hasK_bad2 (t := (a, b, c)) (k := (x, y, z)) h)
        have n0 : (y != 0) = true := bne_iff_ne.2 h0
        have n1 : (y != b) = true := bne_iff_ne.2 hs
        clear h h0 hs
        go_wp2
        go_ret
        exact ⟨ret_bool H.out.symm, ((Kept.refl _ _).alloc _).alloc _⟩
    · have H1 := Lib.hid h1
      have H2 := Lib.hid h2
      clear h1 h2
      cases h : hasF c z with
      | true =>
        have hb := hasF_iff.1 h
        have H := Lib.hid h
        clear h
        by_cases h0 : z = 0
        · have n0 : (z != 0) = false := by rw [h0]; rfl
          clear h0 hb
          go_wp2
          go_round
          case rel => exact .inr (.inr (.inr ⟨H1.out, H2.out, trivial, rfl⟩))
          case measure => decide
        · have n0 : (z != 0) = true := bne_iff_ne.2 h0
          have n1 : (z != c) = false := by rw [hb.resolve_left h0]; simp
          clear h0 hb
          go_wp2
          go_round
          case rel => exact .inr (.inr (.inr ⟨H1.out, H2.out, trivial, rfl⟩))
          case measure => decide
      | false =>
        obtain ⟨h0, hs⟩ := hasF_no h
        have H := Lib.hid (hasK_bad3 (t := (a, b, c)) (k := (x, y, z)) h)
        have n0 : (z != 0) = true := bne_iff_ne.2 h0
        have n1 : (z != c) = true := bne_iff_ne.2 hs
        clear h h0 hs
        go_wp2
        go_ret
        exact ⟨ret_bool H.out.symm, ((Kept.refl _ _).alloc _).alloc _⟩
    · have H := Lib.hid (hasK_good (t := (a, b, c)) (k := (x, y, z)) h1 h2 h3)
      clear h1 h2 h3
      go_wp2
      go_ret
      exact ⟨ret_bool H.out.symm, ((Kept.refl _ _).alloc _).alloc _⟩

theorem ret_b {a b : Bool} (h : a = b) : Ending.returned (.bool a) = .returned (.bool b) := by rw [h]
set_option maxHeartbeats 1000000 in
theorem refHas_any (t k : T3) (w : World) :
    Calls Try.prog 32 #[arr t, arr k] w fun e w' => e = .returned (.bool (hasK t k)) ∧ Kept Nil w w' := by
  obtain ⟨a, b, c⟩ := t
  obtain ⟨x, y, z⟩ := k
  show Calls Try.prog 32 #[.agg #[.int .i64 a, .int .i64 b, .int .i64 c], .agg #[.int .i64 x, .int .i64 y, .int .i64 z]] w _
  have T : ∀ s k : Int, hasF s k = true → (k == 0) = true ∨ ((k == 0) = false ∧ (k == s) = true) := fun s k h => by
    by_cases h0 : k = 0
    · exact .inl (beq_iff_eq.2 h0)
    · exact .inr ⟨beq_eq_false_iff_ne.2 h0, beq_iff_eq.2 ((hasF_iff.1 h).resolve_left h0)⟩
  have N : ∀ s k : Int, hasF s k = false → (k == 0) = false ∧ (k == s) = false := fun s k h => ⟨beq_eq_false_iff_ne.2 (hasF_no h).1, beq_eq_false_iff_ne.2 (hasF_no h).2⟩
  cases h1 : hasF a x with
  | false =>
    have H := Lib.hid (hasK_bad1 (t := (a, b, c)) (k := (x, y, z)) h1)
    obtain ⟨n0, n1⟩ := N _ _ h1
    clear T N h1
    go_enter Try.func32, Try.ntmps32
    go_wp2
    go_ret
    exact ⟨ret_bool H.out.symm, ((Kept.refl _ _).alloc _).alloc _⟩
  | true =>
    cases h2 : hasF b y with
    | false =>
      have H := Lib.hid (hasK_bad2 (t := (a, b, c)) (k := (x, y, z)) h2)
      obtain ⟨n0, n1⟩ := N _ _ h2
      rcases T _ _ h1 with m0 | ⟨m0, m1⟩
      all_goals
        clear T N h1 h2
        go_enter Try.func32, Try.ntmps32
        go_wp2
        go_ret
        exact ⟨ret_bool H.out.symm, ((Kept.refl _ _).alloc _).alloc _⟩
    | true =>
      cases h3 : hasF c z with
      | false =>
        have H := Lib.hid (hasK_bad3 (t := (a, b, c)) (k := (x, y, z)) h3)
        obtain ⟨n0, n1⟩ := N _ _ h3
        rcases T _ _ h1 with m0 | ⟨m0, m1⟩ <;> rcases T _ _ h2 with o0 | ⟨o0, o1⟩
        all_goals
          clear T N h1 h2 h3
          go_enter Try.func32, Try.ntmps32
          go_wp2
          go_ret
          exact ⟨ret_bool H.out.symm, ((Kept.refl _ _).alloc _).alloc _⟩
      | true =>
        have H := Lib.hid (hasK_good (t := (a, b, c)) (k := (x, y, z)) h1 h2 h3)
        rcases T _ _ h1 with m0 | ⟨m0, m1⟩ <;> rcases T _ _ h2 with o0 | ⟨o0, o1⟩ <;> rcases T _ _ h3 with p0 | ⟨p0, p1⟩
        all_goals
          clear T N h1 h2 h3
          go_enter Try.func32, Try.ntmps32
          go_wp2
          go_ret
          exact ⟨ret_bool H.out.symm, ((Kept.refl _ _).alloc _).alloc _⟩

end Go.Proofs.Ythiijlngoikhkaa
