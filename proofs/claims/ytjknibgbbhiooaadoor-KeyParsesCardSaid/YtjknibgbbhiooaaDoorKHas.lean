/- Layer key: contracts of Has, of the program and of the reference, and of Number. -/
import Derived.Test.YtjknibgbbhiooaaDoorKRight
import Derived.IntWalk
namespace Go.Proofs.YtjknibgbbhiooaaDoor
open Go.RowKit

set_option maxHeartbeats 1000000 in
theorem has_any (t k : T3) (w : World) :
    Calls Tryd.prog 13 #[arr t, arr k] w fun e w' => e = .returned (.bool (hasK t k)) ∧ Kept Nil w w' := by
  obtain ⟨a, b, c⟩ := t
  obtain ⟨x, y, z⟩ := k
  show Calls Tryd.prog 13 #[.agg #[.int .i64 a, .int .i64 b, .int .i64 c], .agg #[.int .i64 x, .int .i64 y, .int .i64 z]] w _
  obtain ⟨i0, i1, i2⟩ := rightIdx (.int .i64 x) (.int .i64 y) (.int .i64 z)
  go_enter Tryd.func13, Tryd.ntmps13
  go_wp2
  go_loop [8] (fun i => i = .int .i64 0 ∨ (hasF a x = true ∧ i = .int .i64 1) ∨ (hasF a x = true ∧ hasF b y = true ∧ i = .int .i64 2) ∨ (hasF a x = true ∧ hasF b y = true ∧ hasF c z = true ∧ i = .int .i64 3)) (fun i => (3 - intOf i).toNat)
  case atStart => exact .inl rfl
  case round =>
    rcases hrel with rfl | ⟨h1, rfl⟩ | ⟨h1, h2, rfl⟩ | ⟨h1, h2, h3, rfl⟩
    · cases h : hasF a x with
      | true =>
        have hb := hasF_iff.1 h
        have H := Lib.hid h
        clear h
        by_cases h0 : x = 0
        · have n0 : (x != 0) = false := by rw [h0]; rfl
          clear h0 hb
          go_wp2
          go_round
          case rel => exact .inr (.inl ⟨trivial, rfl⟩)
          case measure => decide
        · have n0 : (x != 0) = true := bne_iff_ne.2 h0
          have n1 : (x != a) = false := by rw [hb.resolve_left h0]; simp
          clear h0 hb
          go_wp2
          go_round
          case rel => exact .inr (.inl ⟨trivial, rfl⟩)
          case measure => decide
      | false =>
        obtain ⟨h0, hs⟩ := hasF_no h
        have H := Lib.hid (hasK_bad1 (t := (a, b, c)) (k := (x, y, z)) h)
        have n0 : (x != 0) = true := bne_iff_ne.2 h0
        have n1 : (x != a) = true := bne_iff_ne.2 hs
        clear h h0 hs
        go_wp2
        go_ret
        exact ⟨ret_bool H.out.symm, ((Kept.refl _ _).alloc _).alloc _⟩
    · have H1 := Lib.hid h1
      clear h1
      cases h : hasF b y with
      | true =>
        have hb := hasF_iff.1 h
        have H := Lib.hid h
        clear h
        by_cases h0 : y = 0
        · have n0 : (y != 0) = false := by rw [h0]; rfl
          clear h0 hb
          go_wp2
          go_round
          case rel => exact .inr (.inr (.inl ⟨H1.out, trivial, rfl⟩))
          case measure => decide
        · have n0 : (y != 0) = true := bne_iff_ne.2 h0
          have n1 : (y != b) = false := by rw [hb.resolve_left h0]; simp
          clear h0 hb
          go_wp2
          go_round
          case rel => exact .inr (.inr (.inl ⟨H1.out, trivial, rfl⟩))
          case measure => decide
      | false =>
        obtain ⟨h0, hs⟩ := hasF_no h
        have H := Lib.hid (hasK_bad2 (t := (a, b, c)) (k := (x, y, z)) h)
        have n0 : (y != 0) = true := bne_iff_ne.2 h0
        have n1 : (y != b) = true := bne_iff_ne.2 hs
        clear h h0 hs
        go_wp2
        go_ret
        exact ⟨ret_bool H.out.symm, ((Kept.refl _ _).alloc _).alloc _⟩
    · have H1 := Lib.hid h1
      have H2 := Lib.hid h2
      clear h1 h2
      cases h : hasF c z with
      | true =>
        have hb := hasF_iff.1 h
        have H := Lib.hid h
        clear h
        by_cases h0 : z = 0
        · have n0 : (z != 0) = false := by rw [h0]; rfl
          clear h0 hb
          go_wp2
          go_round
          case rel => exact .inr (.inr (.inr ⟨H1.out, H2.out, trivial, rfl⟩))
          case measure => decide
        · have n0 : (z != 0) = true := bne_iff_ne.2 h0
          have n1 : (z != c) = false := by rw [hb.resolve_left h0]; simp
          clear h0 hb
          go_wp2
          go_round
          case rel => exact .inr (.inr (.inr ⟨H1.out, H2.out, trivial, rfl⟩))
          case measure => decide
      | false =>
        obtain ⟨h0, hs⟩ := hasF_no h
        have H := Lib.hid (hasK_bad3 (t := (a, b, c)) (k := (x, y, z)) h)
        have n0 : (z != 0) = true := bne_iff_ne.2 h0
        have n1 : (z != c) = true := bne_iff_ne.2 hs
        clear h h0 hs
        go_wp2
        go_ret
        exact ⟨ret_bool H.out.symm, ((Kept.refl _ _).alloc _).alloc _⟩
    · have H := Lib.hid (hasK_good (t := (a, b, c)) (k := (x, y, z)) h1 h2 h3)
      clear h1 h2 h3
      go_wp2
      go_ret
      exact ⟨ret_bool H.out.symm, ((Kept.refl _ _).alloc _).alloc _⟩

theorem ret_b {a b : Bool} (h : a = b) : Ending.returned (.bool a) = .returned (.bool b) := by rw [h]
set_option maxHeartbeats 1000000 in
theorem refHas_any (t k : T3) (w : World) :
    Calls Tryd.prog 15 #[arr t, arr k] w fun e w' => e = .returned (.bool (hasK t k)) ∧ Kept Nil w w' := by
  obtain ⟨a, b, c⟩ := t
  obtain ⟨x, y, z⟩ := k
  show Calls Tryd.prog 15 #[.agg #[.int .i64 a, .int .i64 b, .int .i64 c], .agg #[.int .i64 x, .int .i64 y, .int .i64 z]] w _
  have T : ∀ s k : Int, hasF s k = true → (k == 0) = true ∨ ((k == 0) = false ∧ (k == s) = true) := fun s k h => by
    by_cases h0 : k = 0
    · exact .inl (beq_iff_eq.2 h0)
    · exact .inr ⟨beq_eq_false_iff_ne.2 h0, beq_iff_eq.2 ((hasF_iff.1 h).resolve_left h0)⟩
  have N : ∀ s k : Int, hasF s k = false → (k == 0) = false ∧ (k == s) = false := fun s k h => ⟨beq_eq_false_iff_ne.2 (hasF_no h).1, beq_eq_false_iff_ne.2 (hasF_no h).2⟩
  cases h1 : hasF a x with
  | false =>
    have H := Lib.hid (hasK_bad1 (t := (a, b, c)) (k := (x, y, z)) h1)
    obtain ⟨n0, n1⟩ := N _ _ h1
    clear T N h1
    go_enter Tryd.func15, Tryd.ntmps15
    go_wp2
    go_ret
    exact ⟨ret_bool H.out.symm, ((Kept.refl _ _).alloc _).alloc _⟩
  | true =>
    cases h2 : hasF b y with
    | false =>
      have H := Lib.hid (hasK_bad2 (t := (a, b, c)) (k := (x, y, z)) h2)
      obtain ⟨n0, n1⟩ := N _ _ h2
      rcases T _ _ h1 with m0 | ⟨m0, m1⟩
      all_goals
        clear T N h1 h2
        go_enter Tryd.func15, Tryd.ntmps15
        go_wp2
        go_ret
        exact ⟨ret_bool H.out.symm, ((Kept.refl _ _).alloc _).alloc _⟩
    | true =>
      cases h3 : hasF c z with
      | false =>
        have H := Lib.hid (hasK_bad3 (t := (a, b, c)) (k := (x, y, z)) h3)
        obtain ⟨n0, n1⟩ := N _ _ h3
        rcases T _ _ h1 with m0 | ⟨m0, m1⟩ <;> rcases T _ _ h2 with o0 | ⟨o0, o1⟩
        all_goals
          clear T N h1 h2 h3
          go_enter Tryd.func15, Tryd.ntmps15
          go_wp2
          go_ret
          exact ⟨ret_bool H.out.symm, ((Kept.refl _ _).alloc _).alloc _⟩
      | true =>
        have H := Lib.hid (hasK_good (t := (a, b, c)) (k := (x, y, z)) h1 h2 h3)
        rcases T _ _ h1 with m0 | ⟨m0, m1⟩ <;> rcases T _ _ h2 with o0 | ⟨o0, o1⟩ <;> rcases T _ _ h3 with p0 | ⟨p0, p1⟩
        all_goals
          clear T N h1 h2 h3
          go_enter Tryd.func15, Tryd.ntmps15
          go_wp2
          go_ret
          exact ⟨ret_bool H.out.symm, ((Kept.refl _ _).alloc _).alloc _⟩

theorem num_1 (m x : Int) (h : x = 0) : m + bit1 x = m := by rw [bit1_zero h]; omega
set_option maxHeartbeats 1000000 in
theorem number_any (k : T3) (w : World) :
    Calls Tryd.prog 14 #[arr k] w fun e w' => e = .returned (.int .i64 (numT k)) ∧ Kept Nil w w' := by
  obtain ⟨x, y, z⟩ := k
  show Calls Tryd.prog 14 #[.agg #[.int .i64 x, .int .i64 y, .int .i64 z]] w _
  obtain ⟨i0, i1, i2⟩ := rightIdx (.int .i64 x) (.int .i64 y) (.int .i64 z)
  have B : ∀ v : Int, 0 ≤ bit1 v ∧ bit1 v ≤ 1 := fun v => by unfold bit1; split <;> omega
  obtain ⟨X, hX⟩ : ∃ X, X = bit1 x := ⟨_, rfl⟩
  obtain ⟨Y, hY⟩ : ∃ Y, Y = bit1 y := ⟨_, rfl⟩
  obtain ⟨Z, hZ⟩ : ∃ Z, Z = bit1 z := ⟨_, rfl⟩
  have bX : 0 ≤ X ∧ X ≤ 1 := by rw [hX]; exact B x
  have bY : 0 ≤ Y ∧ Y ≤ 1 := by rw [hY]; exact B y
  have H := Lib.hid (show numT (x, y, z) = X + 2 * Y + 4 * Z by rw [hX, hY, hZ]; rfl)
  clear B
  obtain ⟨bX0, bX1⟩ := bX
  obtain ⟨bY0, bY1⟩ := bY
  have HX := Lib.hid hX
  have HY := Lib.hid hY
  have HZ := Lib.hid hZ
  clear hX hY hZ
  go_enter Tryd.func14, Tryd.ntmps14
  go_wp2
  go_loop [3, 7] (fun n i => (n = .int .i64 0 ∧ i = .int .i64 0) ∨ (n = .int .i64 X ∧ i = .int .i64 1) ∨ (n = .int .i64 (X + 2 * Y) ∧ i = .int .i64 2) ∨ (n = .int .i64 (X + 2 * Y + 4 * Z) ∧ i = .int .i64 3)) (fun _ i => (3 - intOf i).toNat)
  case atStart => exact .inl ⟨rfl, rfl⟩
  case round =>
    rcases hrel with ⟨rfl, rfl⟩ | ⟨rfl, rfl⟩ | ⟨rfl, rfl⟩ | ⟨rfl, rfl⟩
    · by_cases h : x = 0
      · have n0 : (x != 0) = false := by rw [h]; rfl
        have e := Lib.hid (HX.out.trans (bit1_zero h))
        clear h
        go_wp2
        go_round
        case rel => exact .inr (.inl ⟨by rw [e.out], rfl⟩)
        case measure => decide
      · have n0 : (x != 0) = true := bne_iff_ne.2 h
        have e := Lib.hid (HX.out.trans (bit1_one h))
        clear h
        go_wp2
        go_round
        case rel => exact .inr (.inl ⟨by rw [e.out], rfl⟩)
        case measure => decide
    · by_cases h : y = 0
      · have n0 : (y != 0) = false := by rw [h]; rfl
        have e := Lib.hid (HY.out.trans (bit1_zero h))
        clear h
        go_wp2
        go_round
        case rel => exact .inr (.inr (.inl ⟨by rw [e.out]; simp, rfl⟩))
        case measure => decide
      · have n0 : (y != 0) = true := bne_iff_ne.2 h
        have e := Lib.hid (HY.out.trans (bit1_one h))
        clear h
        go_wp2
        go_round
        case rel => exact .inr (.inr (.inl ⟨by rw [e.out]; simp, rfl⟩))
        case measure => decide
    · by_cases h : z = 0
      · have n0 : (z != 0) = false := by rw [h]; rfl
        have e := Lib.hid (HZ.out.trans (bit1_zero h))
        clear h
        go_wp2
        go_round
        case rel => exact .inr (.inr (.inr ⟨by rw [e.out]; simp, rfl⟩))
        case measure => decide
      · have n0 : (z != 0) = true := bne_iff_ne.2 h
        have e := Lib.hid (HZ.out.trans (bit1_one h))
        clear h
        go_wp2
        go_round
        case rel => exact .inr (.inr (.inr ⟨by rw [e.out]; simp, rfl⟩))
        case measure => decide
    · go_wp2
      go_ret
      exact ⟨ret_int H.out.symm, (Kept.refl _ _).alloc _⟩
end Go.Proofs.YtjknibgbbhiooaaDoor
