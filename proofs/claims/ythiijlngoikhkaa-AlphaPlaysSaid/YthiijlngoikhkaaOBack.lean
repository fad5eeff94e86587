/- The memories of AlphaBack: one that is wanted once, another one that comes and goes; no program. -/
import Derived.Test.YthiijlngoikhkaaOInts
namespace Go.Proofs.Ythiijlngoikhkaa
open Go.RowKit Go.Maps

/-- Keys, and how often each is wanted: what Put and Take leave. -/
def shape (L : List Mem) : List (T3 × Nat) := L.map (fun m => (m.key, m.n))
theorem shape_upd {k : T3} {f : Mem → Mem} (hk : ∀ m, (f m).key = m.key) (hn : ∀ m, (f m).n = m.n) (L : List Mem) : shape (upd L k f) = shape L := by
  unfold shape upd
  rw [List.map_map]
  apply List.map_congr_left
  intro m _
  show ((if m.key = k then f m else m).key, (if m.key = k then f m else m).n) = _
  split
  · rw [hk, hn]
  · rfl
theorem shape_put (L : List Mem) (k : T3) (i : Int) : shape (putL L k i) = shape L := shape_upd (f := fun m => ⟨m.key, m.n, put m.has i⟩) (fun _ => rfl) (fun _ => rfl) L
theorem shape_take (L : List Mem) (k : T3) (i : Int) : shape (takeL L k i) = shape L := shape_upd (f := fun m => ⟨m.key, m.n, del i m.has⟩) (fun _ => rfl) (fun _ => rfl) L
theorem shape_run {ans : List Mem → T3 → Bool} {act : List Mem → T3 → List Mem} (h : ∀ L k, shape (act L k) = shape L) (ks : List T3) (L : List Mem) : shape (runK ans act ks L).1 = shape L := by
  have : ∀ (ks : List T3) (s : List Mem × List T3), shape (ks.foldl (fun s k => (act s.1 k, if ans s.1 k then s.2 ++ [k] else s.2)) s).1 = shape s.1 := by
    intro ks
    induction ks with
    | nil => intro s; rfl
    | cons k r ih =>
      intro s
      rw [List.foldl_cons, ih]
      exact h _ _
  exact this ks (L, [])
theorem shape_one {L : List Mem} {o : T3} {n : Nat} (h : shape L = [(o, n)]) : ∃ hs, L = [⟨o, n, hs⟩] := by
  unfold shape at h
  match L, h with
  | [m], h =>
    simp at h
    exact ⟨m.has, by rw [← h.1, ← h.2]⟩
/-- .. with the other one wanted so often. -/
def backL (o k : T3) (hs : List Int) : Nat → List Mem
  | 0 => [⟨o, 1, hs⟩]
  | i + 1 => [⟨o, 1, hs⟩, ⟨k, i + 1, []⟩]
section
variable {o k : T3} {hs : List Int}
theorem back_mem (h : k ≠ o) (i : Nat) : mem (backL o k hs (i + 1)) k = some ⟨k, i + 1, []⟩ := by
  unfold backL
  rw [mem_cons, if_neg (fun e => h e.symm), mem_cons, if_pos rfl]
theorem back_mem0 (h : k ≠ o) : mem (backL o k hs 0) k = none := by
  unfold backL
  rw [mem_cons, if_neg (fun e => h e.symm)]; rfl
theorem back_other (i : Nat) : items (backL o k hs i) o = hs := by
  cases i <;> (unfold backL; exact items_some (m := ⟨o, 1, hs⟩) (by rw [mem_cons, if_pos rfl]))
theorem back_wanted (h : k ≠ o) (i : Nat) : wanted (backL o k hs i) k = i := by
  cases i with
  | zero => exact wanted_none (back_mem0 h)
  | succ i => exact wanted_some (back_mem h i)
theorem back_want (h : k ≠ o) (i : Nat) : wantL (backL o k hs i) k [] = backL o k hs (i + 1) := by
  unfold wantL
  cases i with
  | zero => rw [back_mem0 h]; rfl
  | succ i =>
    rw [back_mem h]
    unfold backL upd
    simp [Ne.symm h]
theorem back_drop (h : k ≠ o) (i : Nat) : dropL (backL o k hs (i + 1)) k = backL o k hs i := by
  unfold dropL
  rw [back_wanted h]
  cases i with
  | zero =>
    rw [if_pos rfl]
    unfold backL rem
    simp [Ne.symm h]
  | succ i =>
    rw [if_neg (by omega)]
    unfold backL upd
    simp [Ne.symm h]
theorem back_len (i : Nat) : (backL o k hs (i + 1)).length = 2 := rfl
theorem back_few (i : Nat) : Few (backL o k hs i) hs.length := by
  cases i with
  | zero => intro m hm; rw [List.mem_singleton.1 hm]; exact Nat.le_refl _
  | succ i =>
    intro m hm
    rcases List.mem_cons.1 hm with e | hm
    · rw [e]; exact Nat.le_refl _
    · rw [List.mem_singleton.1 hm]; exact Nat.zero_le _
end
end Go.Proofs.Ythiijlngoikhkaa
