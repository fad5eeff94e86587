/- Plain facts: the place of a name in a list, from 1 on. -/
import Derived.Test.YtjfoimnnbkmgmaaFrame
import Derived.Maps.OwnSet
import Derived.StringKeys
namespace Go.Proofs.Ytjfoimnnbkmgmaa
open Go.RowKit Go.Maps

/-- A name's place in a list, counted on from k; 0: it is not there. -/
def posFrom : List ByteArray → ByteArray → Nat → Nat
  | [], _, _ => 0
  | x :: r, s, k => if x = s then k + 1 else posFrom r s (k + 1)
def pos (l : List ByteArray) (s : ByteArray) : Nat := posFrom l s 0

theorem posFrom_zero {s : ByteArray} : ∀ {l : List ByteArray} {k : Nat}, posFrom l s k = 0 ↔ s ∉ l
  | [], _ => by simp [posFrom]
  | x :: r, k => by
    unfold posFrom
    split
    · rename_i h; subst h; simp
    · rename_i h
      rw [posFrom_zero (l := r)]
      simp only [List.mem_cons, not_or]
      exact ⟨fun a => ⟨fun e => h e.symm, a⟩, fun a => a.2⟩
theorem pos_zero {l : List ByteArray} {s : ByteArray} : pos l s = 0 ↔ s ∉ l := posFrom_zero
theorem posFrom_le {s : ByteArray} : ∀ {l : List ByteArray} {k : Nat}, posFrom l s k ≤ k + l.length
  | [], _ => by simp [posFrom]
  | x :: r, k => by
    unfold posFrom
    split
    · simp
    · have := posFrom_le (s := s) (l := r) (k := k + 1); simp; omega
theorem pos_le {l : List ByteArray} {s : ByteArray} : pos l s ≤ l.length := by have := posFrom_le (s := s) (l := l) (k := 0); unfold pos; omega
theorem posFrom_snoc {s x : ByteArray} : ∀ {l : List ByteArray} {k : Nat}, posFrom (l ++ [x]) s k = if posFrom l s k = 0 then (if x = s then k + l.length + 1 else 0) else posFrom l s k
  | [], k => by simp [posFrom]
  | y :: r, k => by
    rw [List.cons_append, posFrom, posFrom]
    split
    · simp
    · rw [posFrom_snoc (l := r)]; simp only [List.length_cons]
      split
      · split
        · omega
        · rfl
      · rfl
theorem pos_snoc_other {l : List ByteArray} {s x : ByteArray} (h : x ≠ s) : pos (l ++ [x]) s = pos l s := by
  unfold pos; rw [posFrom_snoc, if_neg h]; split
  · rename_i h; exact h.symm
  · rfl
theorem pos_snoc_same {l : List ByteArray} {x : ByteArray} (h : pos l x = 0) : pos (l ++ [x]) x = l.length + 1 := by
  unfold pos at *; rw [posFrom_snoc, if_pos h, if_pos rfl]; omega
theorem posFrom_get {s : ByteArray} : ∀ {l : List ByteArray} {k : Nat}, posFrom l s k ≠ 0 → k < posFrom l s k ∧ l[posFrom l s k - k - 1]? = some s
  | [], k, h => by simp [posFrom] at h
  | x :: r, k, h => by
    unfold posFrom at h ⊢
    split
    · rename_i e; subst e; simp
    · rename_i e
      rw [if_neg e] at h
      obtain ⟨h1, h2⟩ := posFrom_get (l := r) h
      refine ⟨by omega, ?_⟩
      have : posFrom r s (k + 1) - k - 1 = (posFrom r s (k + 1) - (k + 1) - 1) + 1 := by omega
      rw [this, List.getElem?_cons_succ]
      exact h2
theorem pos_get {l : List ByteArray} {s : ByteArray} (h : pos l s ≠ 0) : l[pos l s - 1]? = some s := by
  have := (posFrom_get h).2
  simpa [pos] using this
/-- In a list without repeats the place of the i-th is i + 1. -/
theorem posFrom_at {s : ByteArray} : ∀ {l : List ByteArray} {k i : Nat}, l.Nodup → l[i]? = some s → posFrom l s k = k + i + 1
  | [], _, _, _, h => by simp at h
  | x :: r, k, 0, _, h => by simp at h; subst h; simp [posFrom]
  | x :: r, k, i + 1, hn, h => by
    have hm : s ∈ r := List.mem_of_getElem? (by simpa using h)
    have hx : x ≠ s := fun e => (List.nodup_cons.1 hn).1 (e ▸ hm)
    rw [posFrom, if_neg hx, posFrom_at (List.nodup_cons.1 hn).2 (by simpa using h)]; omega
theorem pos_at {l : List ByteArray} {s : ByteArray} {i : Nat} (hn : l.Nodup) (h : l[i]? = some s) : pos l s = i + 1 := by
  unfold pos; rw [posFrom_at hn h]; omega

/-- The datum of a table's map: each name with its place. -/
def TabMap (D : DataW Unit) (l : List ByteArray) : Prop :=
  IsMap D ∧ ∀ s : ByteArray, D.atKey (.string s.data.toList) (.lit (.int .i64 0)) = .lit (.int .i64 (pos l s)) ∧ Maps.has D (.string s.data.toList) = decide (0 < pos l s)
theorem tabMap_nil : TabMap (.map []) [] := ⟨isMap_empty, fun _ => ⟨rfl, rfl⟩⟩
theorem bytes_ne {s x : ByteArray} (h : s ≠ x) : (Lit.string s.data.toList) ≠ .string x.data.toList := fun e => h (by
  have e1 : s.data.toList = x.data.toList := by simpa using e
  exact ByteArray.ext (Array.toList_inj.1 e1))
theorem tabMap_put {D : DataW Unit} {l : List ByteArray} {x : ByteArray} (h : TabMap D l) (hx : pos l x = 0) : TabMap (D.put (.string x.data.toList) (.lit (.int .i64 ((l.length : Int) + 1)))) (l ++ [x]) := by
  refine ⟨h.1.put _ _, fun s => ?_⟩
  by_cases e : x = s
  · subst e
    rw [atKey_put_same h.1 (by trivial), has_put_same h.1 (by trivial), pos_snoc_same hx]
    simp
  · rw [atKey_put_other (bytes_ne (fun h => e h.symm)), has_put_other (bytes_ne (fun h => e h.symm)), pos_snoc_other e]
    exact h.2 s
end Go.Proofs.Ytjfoimnnbkmgmaa
