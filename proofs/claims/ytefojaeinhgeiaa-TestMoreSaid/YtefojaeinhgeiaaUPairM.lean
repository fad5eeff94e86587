/- Plain mathematics of bindings as lists of pairs. No program. -/
import Derived.Test.YtefojaeinhgeiaaUMath
namespace Go.Proofs.Ytefojaeinhgeiaa
open Go.RowKit

abbrev P2 := Int × Int
/-- What a variable stands for, in a list of pairs. -/
def getP : List P2 → Int → Int
  | [], _ => 0
  | p :: r, x => if p.1 = x then p.2 else getP r x
theorem getP_snoc : ∀ (a : List P2) (n s x : Int), (∀ p ∈ a, p.2 ≠ 0) → getP (a ++ [(n, s)]) x = if getP a x ≠ 0 then getP a x else if n = x then s else 0
  | [], n, s, x, _ => by
    show (if n = x then s else 0) = _
    simp [getP]
  | p :: r, n, s, x, h => by
    show (if p.1 = x then p.2 else getP (r ++ [(n, s)]) x) = if (if p.1 = x then p.2 else getP r x) ≠ 0 then (if p.1 = x then p.2 else getP r x) else _
    by_cases e : p.1 = x
    · have := h p (by simp)
      simp [e, this]
    · rw [if_neg e, if_neg e, getP_snoc r n s x (fun q hq => h q (by simp [hq]))]
/-- A list of pairs says what a binding says. -/
def Rep (ps : List P2) (b : Bd) : Prop := (∀ p ∈ ps, p.2 ≠ 0) ∧ ∀ k : Nat, 1 ≤ k → k < 33 → getP ps k = b k
theorem Rep.snoc {ps : List P2} {b : Bd} (h : Rep ps b) {m : Nat} {s : Int} (hm : b m = 0) (h1 : 1 ≤ m) (h2 : m < 33) (hs : s ≠ 0) : Rep (ps ++ [((m : Int), s)]) (upd b m s) := by
  refine ⟨fun p hp => ?_, fun k hk1 hk2 => ?_⟩
  · rcases List.mem_append.1 hp with hp | hp
    · exact h.1 p hp
    · simp at hp; subst hp; exact hs
  · rw [getP_snoc _ _ _ _ h.1, h.2 k hk1 hk2]
    unfold upd
    by_cases e : k = m
    · subst e; simp [hm]
    · have e' : ¬ ((m : Int) = (k : Int)) := by omega
      simp [e, e']
      intro e0; exact e0.symm

def pairsTo (j : Nat) (b : Bd) : List P2 := ((List.range j).filter (fun k => decide (0 < k) && decide (0 < b k))).map fun k : Nat => ((k : Int), b k)
theorem pairsTo_skip {j : Nat} {b : Bd} (h : (decide (0 < j) && decide (0 < b j)) = false) : pairsTo (j + 1) b = pairsTo j b := by
  unfold pairsTo
  rw [List.range_succ, List.filter_append, List.map_append]
  simp [h]
theorem pairsTo_more {j : Nat} {b : Bd} (h1 : 0 < j) (h2 : 0 < b j) : pairsTo (j + 1) b = pairsTo j b ++ [((j : Int), b j)] := by
  unfold pairsTo
  rw [List.range_succ, List.filter_append, List.map_append]
  simp [h1, h2]
theorem pairsTo_len (j : Nat) (b : Bd) : (pairsTo j b).length ≤ j := by
  unfold pairsTo
  rw [List.length_map]
  exact Nat.le_trans (List.length_filter_le _ _) (by simp)
theorem pairsTo_pos (j : Nat) (b : Bd) : ∀ p ∈ pairsTo j b, p.2 ≠ 0 := by
  intro p hp
  unfold pairsTo at hp
  obtain ⟨k, hk, rfl⟩ := List.mem_map.1 hp
  have := (List.mem_filter.1 hk).2
  simp at this
  show b k ≠ 0
  omega
theorem pairsTo_get : ∀ (j : Nat) (b : Bd) (k : Nat), 0 < k → getP (pairsTo j b) k = if k < j ∧ 0 < b k then b k else 0
  | 0, b, k, _ => by simp [pairsTo, getP]
  | j + 1, b, k, hk => by
    by_cases h : 0 < j ∧ 0 < b j
    · rw [pairsTo_more h.1 h.2, getP_snoc _ _ _ _ (pairsTo_pos j b), pairsTo_get j b k hk]
      by_cases e : k = j
      · subst e; simp [h.2]
      · have e' : ¬ ((j : Int) = (k : Int)) := by omega
        by_cases hb : 0 < b k
        · by_cases hl : k < j
          · simp [hb, hl, show k < j + 1 by omega]; intro hz; omega
          · simp [hl, show ¬ k < j + 1 by omega, e']
        · simp [hb, e']
    · rw [pairsTo_skip (by simpa using fun a => by have := fun b' => h ⟨a, b'⟩; omega), pairsTo_get j b k hk]
      by_cases e : k = j
      · subst e
        have : ¬ 0 < b k := fun x => h ⟨hk, x⟩
        simp [this]
      · have : k < j ↔ k < j + 1 := by omega
        simp [this]
theorem rep_pairs {b : Bd} (h : ∀ k, 0 ≤ b k) : Rep (pairsTo 33 b) b :=
  ⟨pairsTo_pos 33 b, fun k h1 h2 => by
    rw [pairsTo_get 33 b k h1]
    have := h k
    split <;> omega⟩

end Go.Proofs.Ytefojaeinhgeiaa
