/- Plain mathematics of the variables that are told, each once, rising. -/
import Derived.Test.YtkfijbinaidaiaaUVars
namespace Go.Proofs.Ytkfijbinaidaiaa
open Go.RowKit Go.Lib

/-- The elements of a sorted row that are kept: just its elements, rising. -/
theorem compact_upTo (d : Array Int) (hs : ∀ i j, i ≤ j → j < d.size → d[i]! ≤ d[j]!) : ∀ m, m ≤ d.size →
    (∀ x, x ∈ compactUpTo d m ↔ ∃ j, j < m ∧ d[j]! = x) ∧ (compactUpTo d m).Pairwise (· < ·)
  | 0, _ => ⟨fun x => by simp [compactUpTo], by simp [compactUpTo]⟩
  | m + 1, hm => by
    obtain ⟨h1, h2⟩ := compact_upTo d hs m (by omega)
    rw [compactUpTo_succ]
    cases hk : keeps d m with
    | true =>
      rw [if_pos rfl]
      refine ⟨fun x => ?_, ?_⟩
      · rw [List.mem_append, h1, List.mem_singleton]
        constructor
        · rintro (⟨j, hj, e⟩ | rfl)
          · exact ⟨j, by omega, e⟩
          · exact ⟨m, by omega, rfl⟩
        · rintro ⟨j, hj, e⟩
          by_cases ej : j = m
          · subst ej; exact .inr e.symm
          · exact .inl ⟨j, by omega, e⟩
      · rw [List.pairwise_append]
        refine ⟨h2, by simp, fun x hx y hy => ?_⟩
        rw [List.mem_singleton] at hy
        subst hy
        obtain ⟨j, hj, rfl⟩ := (h1 x).1 hx
        have hne : m = 0 ∨ d[m]! ≠ d[m - 1]! := by unfold keeps at hk; exact of_decide_eq_true hk
        rcases hne with rfl | hne
        · omega
        · have a1 := hs j (m - 1) (by omega) (by omega)
          have a2 := hs (m - 1) m (by omega) (by omega)
          omega
    | false =>
      rw [if_neg (by simp), List.append_nil]
      refine ⟨fun x => ?_, h2⟩
      rw [h1]
      have hne : ¬ (m = 0 ∨ d[m]! ≠ d[m - 1]!) := by unfold keeps at hk; exact of_decide_eq_false hk
      have hm0 : m ≠ 0 := fun e => hne (.inl e)
      have he : d[m]! = d[m - 1]! := Classical.byContradiction fun e => hne (.inr e)
      constructor
      · rintro ⟨j, hj, e⟩
        exact ⟨j, by omega, e⟩
      · rintro ⟨j, hj, e⟩
        by_cases ej : j = m
        · subst ej; exact ⟨j - 1, by omega, by rw [← he]; exact e⟩
        · exact ⟨j, by omega, e⟩
theorem compact_sorted (l : List Int) : (∀ x, x ∈ compact (l.mergeSort fun x y => decide (x ≤ y)) ↔ x ∈ l) ∧ (compact (l.mergeSort fun x y => decide (x ≤ y))).Pairwise (· < ·) := by
  have hp : (l.mergeSort fun x y => decide (x ≤ y)).Pairwise (fun x y => x ≤ y) := by
    have := List.pairwise_mergeSort (le := fun x y : Int => decide (x ≤ y)) (fun a b c h1 h2 => by simp at *; omega) (fun a b => by simp; omega) l
    exact this.imp (fun h => by simpa using h)
  have hm : ∀ x, x ∈ (l.mergeSort fun x y => decide (x ≤ y)) ↔ x ∈ l := fun x => (List.mergeSort_perm l _).mem_iff
  generalize (l.mergeSort fun x y => decide (x ≤ y)) = s at hp hm
  have hs : ∀ i j, i ≤ j → j < s.toArray.size → s.toArray[i]! ≤ s.toArray[j]! := fun i j hij hj => by
    have hj' : j < s.length := by simpa using hj
    rw [getElem!_pos s.toArray i (by simp; omega), getElem!_pos s.toArray j (by simpa using hj')]
    by_cases e : i = j
    · subst e; exact Int.le_refl _
    · exact (List.pairwise_iff_getElem.1 hp) i j (by omega) hj' (by omega)
  obtain ⟨h1, h2⟩ := compact_upTo s.toArray hs s.length (by simp)
  refine ⟨fun x => ?_, h2⟩
  rw [← hm]
  show x ∈ compactUpTo s.toArray s.length ↔ _
  rw [h1]
  constructor
  · rintro ⟨j, hj, rfl⟩
    rw [getElem!_pos s.toArray j (by simpa using hj)]
    simp
  · intro hx
    obtain ⟨j, hj, e⟩ := List.mem_iff_getElem.1 hx
    exact ⟨j, hj, by rw [getElem!_pos s.toArray j (by simpa using hj)]; simpa using e⟩

/-- Is that number a variable of the terms? -/
def ownN (x0 x1 x2 : Bool) (n0 n1 n2 j : Int) : Bool := (x0 && n0 == j) || ((x1 && n1 == j) || (x2 && n2 == j))
def ownNTo (i : Nat) (x0 x1 x2 : Bool) (n0 n1 n2 j : Int) : Bool := (decide (0 < i) && (x0 && n0 == j)) || ((decide (1 < i) && (x1 && n1 == j)) || (decide (2 < i) && (x2 && n2 == j)))
theorem ownNTo_zero (x0 x1 x2 : Bool) (n0 n1 n2 j : Int) : ownNTo 0 x0 x1 x2 n0 n1 n2 j = false := by unfold ownNTo; simp
theorem ownNTo_three (x0 x1 x2 : Bool) (n0 n1 n2 j : Int) : ownNTo 3 x0 x1 x2 n0 n1 n2 j = ownN x0 x1 x2 n0 n1 n2 j := by unfold ownNTo ownN; simp
theorem ownNTo_succ {i : Nat} (hi : i < 3) (x0 x1 x2 : Bool) (n0 n1 n2 j : Int) {v : Bool} {n s : Int} {t0 t1 t2 : Int} (h : (fl x0 x1 x2 n0 n1 n2 t0 t1 t2)[i]? = some ((v, n), s)) :
    ownNTo (i + 1) x0 x1 x2 n0 n1 n2 j = (ownNTo i x0 x1 x2 n0 n1 n2 j || (v && n == j)) := by
  have : i = 0 ∨ i = 1 ∨ i = 2 := by omega
  rcases this with rfl | rfl | rfl
  · cases h; unfold ownNTo; simp
  · cases h; unfold ownNTo; simp
  · cases h; unfold ownNTo; simp [Bool.or_assoc]
theorem varsC_mem (x0 x1 x2 : Bool) (n0 n1 n2 j : Int) : j ∈ varsC x0 x1 x2 n0 n1 n2 ↔ ownN x0 x1 x2 n0 n1 n2 j = true := by
  unfold varsC
  rw [(compact_sorted _).1]
  have h : ∀ (b : Bool) (n : Int), j ∈ (if b then [n] else ([] : List Int)) ↔ (b && n == j) = true := fun b n => by
    cases b
    · simp
    · rw [if_pos rfl, List.mem_singleton, Bool.true_and, beq_iff_eq]
      exact ⟨Eq.symm, Eq.symm⟩
  unfold varsTo ownN
  rw [List.mem_append, List.mem_append, h, h, h]
  simp only [show decide (0 < 3) = true from rfl, show decide (1 < 3) = true from rfl, show decide (2 < 3) = true from rfl, Bool.true_and, Bool.or_eq_true]
theorem varsC_rise (x0 x1 x2 : Bool) (n0 n1 n2 : Int) : (varsC x0 x1 x2 n0 n1 n2).Pairwise (· < ·) := (compact_sorted _).2
theorem varsC_len (x0 x1 x2 : Bool) (n0 n1 n2 : Int) : (varsC x0 x1 x2 n0 n1 n2).length ≤ 3 := by
  unfold varsC compact compactUpTo
  rw [List.length_map]
  refine Nat.le_trans (List.length_filter_le _ _) ?_
  rw [List.length_range, List.length_mergeSort]
  exact varsTo_len _ _ _ _ _ _ _

/-- The first k are those below n. -/
def Below_ (c : List Int) (n : Int) (k : Nat) : Prop := k ≤ c.length ∧ ∀ i x, c[i]? = some x → (i < k ↔ x < n)
theorem Below_.start {c : List Int} (h : ∀ x ∈ c, 1 ≤ x) : Below_ c 1 0 := ⟨Nat.zero_le _, fun i x hx => by have := h x (List.mem_of_getElem? hx); omega⟩
theorem Below_.yes {c : List Int} {n : Int} {k : Nat} (hp : c.Pairwise (· < ·)) (h : Below_ c n k) (hm : n ∈ c) : k < c.length ∧ c[k]? = some n ∧ Below_ c (n + 1) (k + 1) := by
  obtain ⟨i, hi⟩ := List.mem_iff_getElem?.1 hm
  obtain ⟨hil, hie⟩ := List.getElem?_eq_some_iff.1 hi
  have hik : ¬ i < k := fun hlt => by have := (h.2 i n hi).1 hlt; omega
  have hik' : i = k := by
    rcases Nat.lt_or_ge k i with hlt | hge
    · have h1 := (List.pairwise_iff_getElem.1 hp) k i (by omega) hil hlt
      have h2 := (h.2 k c[k] (List.getElem?_eq_getElem (by omega)))
      omega
    · omega
  subst hik'
  refine ⟨hil, hi, by omega, fun j x hx => ?_⟩
  obtain ⟨hjl, hje⟩ := List.getElem?_eq_some_iff.1 hx
  have h1 := h.2 j x hx
  by_cases e : j = i
  · subst e
    rw [hi] at hx
    cases hx
    omega
  · rcases Nat.lt_or_ge j i with hlt | hge
    · have := h1.1 hlt; omega
    · have := (List.pairwise_iff_getElem.1 hp) i j hil hjl (by omega)
      omega
theorem Below_.no {c : List Int} {n : Int} {k : Nat} (h : Below_ c n k) (hm : n ∉ c) : Below_ c (n + 1) k := by
  refine ⟨h.1, fun i x hx => ?_⟩
  have h1 := h.2 i x hx
  have h2 : x ≠ n := fun e => hm (e ▸ List.mem_of_getElem? hx)
  omega
theorem Below_.all {c : List Int} {k : Nat} (h : Below_ c 33 k) (hm : ∀ x ∈ c, x ≤ 32) : k = c.length := by
  rcases Nat.lt_or_ge k c.length with hlt | hge
  · have h1 := (h.2 k c[k] (List.getElem?_eq_getElem hlt))
    have h2 := hm c[k] (List.getElem_mem hlt)
    omega
  · have := h.1; omega
theorem varsC_range {x0 x1 x2 : Bool} {n0 n1 n2 : Int} (hf : fine x0 x1 x2 n0 n1 n2 = true) : ∀ x ∈ varsC x0 x1 x2 n0 n1 n2, 1 ≤ x ∧ x ≤ 32 := by
  intro x hx
  rw [varsC_mem] at hx
  unfold fine at hf
  unfold ownN at hx
  simp only [Bool.and_eq_true] at hf
  simp only [Bool.or_eq_true, Bool.and_eq_true, beq_iff_eq] at hx
  rcases hx with ⟨rfl, rfl⟩ | ⟨rfl, rfl⟩ | ⟨rfl, rfl⟩
  · exact okTm_var.1 hf.1.1
  · exact okTm_var.1 hf.1.2
  · exact okTm_var.1 hf.2
end Go.Proofs.Ytkfijbinaidaiaa
