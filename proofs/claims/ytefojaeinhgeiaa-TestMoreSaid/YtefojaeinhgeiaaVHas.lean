/- Layer test: key.Has; slices of triples. -/
import Derived.Test.YtefojaeinhgeiaaVMath
import Derived.Test.YtefojaeinhgeiaaIn
import Derived.IntWalk
namespace Go.Proofs.Ytefojaeinhgeiaa
open Go.RowKit
set_option maxRecDepth 100000

/-- A triple, as a value; its cells. -/
abbrev av (t : T3) : Value := .agg #[.int .i64 t.1, .int .i64 t.2.1, .int .i64 t.2.2]
abbrev cT3 (t : T3) : List Value := [.int .i64 t.1, .int .i64 t.2.1, .int .i64 t.2.2]
theorem cT3_len (t : T3) : (cT3 t).length = 3 := rfl
theorem cT3_one (t : T3) : ∀ v ∈ cT3 t, v.oneCell' = true := fun v hv => by
  simp only [cT3, List.mem_cons, List.not_mem_nil, or_false] at hv
  rcases hv with rfl | rfl | rfl <;> rfl
theorem In.three {w : World} {a : Option Addr} {n : Nat} {l : List T3} (h : In cT3 3 w a n l) {j : Nat} {t : T3} (hj : l[j]? = some t) : ∃ b o, a = some ⟨b, o, none⟩ ∧ b < w.heap.size ∧
    w.cell? ⟨b, o + j * 3, none⟩ = some (.int .i64 t.1) ∧ w.cell? ⟨b, o + j * 3 + 1, none⟩ = some (.int .i64 t.2.1) ∧ w.cell? ⟨b, o + j * 3 + 2, none⟩ = some (.int .i64 t.2.2) := by
  obtain ⟨b, o, e, hb, hc⟩ := h.at_ hj
  exact ⟨b, o, e, hb, hc 0 _ rfl, hc 1 _ rfl, hc 2 _ rfl⟩
theorem In.head {w : World} {a : Option Addr} {n k : Nat} {l : List T3} (h : In cT3 3 w a n l) (hk : k ≤ n) : In cT3 3 w a k (l.take k) := by
  refine ⟨by rw [List.length_take, h.1]; omega, ?_⟩
  rcases h.2 with e | ⟨b, off, e, hb, hc⟩
  · exact .inl (by omega)
  · refine .inr ⟨b, off, e, hb, fun j x i v hj hi => hc j x i v ?_ hi⟩
    rw [List.getElem?_take] at hj
    split at hj
    · exact hj
    · cases hj
set_option maxHeartbeats 1000000 in
theorem has_any (t k : T3) (w : World) :
    Calls Try.prog 23 #[av t, av k] w fun e w' => e = .returned (.bool (hasK t k)) ∧ Kept Nil w w' := by
  obtain ⟨a, b, c⟩ := t
  obtain ⟨x, y, z⟩ := k
  show Calls Try.prog 23 #[.agg #[.int .i64 a, .int .i64 b, .int .i64 c], .agg #[.int .i64 x, .int .i64 y, .int .i64 z]] w _
  obtain ⟨i0, i1, i2⟩ := rightIdx (.int .i64 x) (.int .i64 y) (.int .i64 z)
  go_enter Try.func23, Try.ntmps23
  go_wp2
  go_loop [8] (fun i => i = .int .i64 0 ∨ (hasF a x = true ∧ i = .int .i64 1) ∨ (hasF a x = true ∧ hasF b y = true ∧ i = .int .i64 2) ∨ (hasF a x = true ∧ hasF b y = true ∧ hasF c z = true ∧ i = .int .i64 3)) (fun i => (3 - intOf i).toNat)
  case atStart => exact .inl rfl
  case round =>
    rcases hrel with rfl | ⟨h1, rfl⟩ | ⟨h1, h2, rfl⟩ | ⟨h1, h2, h3, rfl⟩
    · cases h : hasF a x with
      | true =>
        have hb := hasF_iff.1 h
        have H := Lib.hid h
        clear h
        by_cases h0 : x = 0
        · have n0 : (x != 0) = false := by rw [h0]; rfl
          clear h0 hb
          go_wp2
          go_round
          case rel => exact .inr (.inl ⟨trivial, rfl⟩)
          case measure => decide
        · have n0 : (x != 0) = true := bne_iff_ne.2 h0
          have n1 : (x != a) = false := by rw [hb.resolve_left h0]; simp
          clear h0 hb
          go_wp2
          go_round
          case rel => exact .inr (.inl ⟨trivial, rfl⟩)
          case measure => decide
      | false =>
        obtain ⟨h0, hs⟩ := hasF_no h
        have H := Lib.hid (hasK_bad1 (t := (a, b, c)) (k := (x, y, z)) h)
        have n0 : (x != 0) = true := bne_iff_ne.2 h0
        have n1 : (x != a) = true := bne_iff_ne.2 hs
        clear h h0 hs
        go_wp2
        go_ret
        exact ⟨ret_bool H.out.symm, ((Kept.refl _ _).alloc _).alloc _⟩
    · have H1 := Lib.hid h1
      clear h1
      cases h : hasF b y with
      | true =>
        have hb := hasF_iff.1 h
        have H := Lib.hid h
        clear h
        by_cases h0 : y = 0
        · have n0 : (y != 0) = false := by rw [h0]; rfl
          clear h0 hb
          go_wp2
          go_round
          case rel => exact .inr (.inr (.inl ⟨H1.out, trivial, rfl⟩))
          case measure => decide
        · have n0 : (y != 0) = true := bne_iff_ne.2 h0
          have n1 : (y != b) = false := by rw [hb.resolve_left h0]; simp
          clear h0 hb
          go_wp2
          go_round
          case rel => exact .inr (.inr (.inl ⟨H1.out, trivial, rfl⟩))
          case measure => decide
      | false =>
        obtain ⟨h0, hs⟩ := hasF_no h
        have H := Lib.hid (hasK_bad2 (t := (a, b, c)) (k := (x, y, z)) h)
        have n0 : (y != 0) = true := bne_iff_ne.2 h0
        have n1 : (y != b) = true := bne_iff_ne.2 hs
        clear h h0 hs
        go_wp2
        go_ret
        exact ⟨ret_bool H.out.symm, ((Kept.refl _ _).alloc _).alloc _⟩
    · have H1 := Lib.hid h1
      have H2 := Lib.hid h2
      clear h1 h2
      cases h : hasF c z with
      | true =>
        have hb := hasF_iff.1 h
        have H := Lib.hid h
        clear h
        by_cases h0 : z = 0
        · have n0 : (z != 0) = false := by rw [h0]; rfl
          clear h0 hb
          go_wp2
          go_round
          case rel => exact .inr (.inr (.inr ⟨H1.out, H2.out, trivial, rfl⟩))
          case measure => decide
        · have n0 : (z != 0) = true := bne_iff_ne.2 h0
          have n1 : (z != c) = false := by rw [hb.resolve_left h0]; simp
          clear h0 hb
          go_wp2
          go_round
          case rel => exact .inr (.inr (.inr ⟨H1.out, H2.out, trivial, rfl⟩))
          case measure => decide
      | false =>
        obtain ⟨h0, hs⟩ := hasF_no h
        have H := Lib.hid (hasK_bad3 (t := (a, b, c)) (k := (x, y, z)) h)
        have n0 : (z != 0) = true := bne_iff_ne.2 h0
        have n1 : (z != c) = true := bne_iff_ne.2 hs
        clear h h0 hs
        go_wp2
        go_ret
        exact ⟨ret_bool H.out.symm, ((Kept.refl _ _).alloc _).alloc _⟩
    · have H := Lib.hid (hasK_good (t := (a, b, c)) (k := (x, y, z)) h1 h2 h3)
      clear h1 h2 h3
      go_wp2
      go_ret
      exact ⟨ret_bool H.out.symm, ((Kept.refl _ _).alloc _).alloc _⟩

end Go.Proofs.Ytefojaeinhgeiaa
