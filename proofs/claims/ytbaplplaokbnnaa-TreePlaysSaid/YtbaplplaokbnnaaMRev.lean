/- slices.Reverse of a row of numbers that a call owns. -/
import Derived.Test.YtbaplplaokbnnaaMSort
import Derived.Sort.Grow
namespace Go.Proofs.Ytbaplplaokbnnaa
open Go.RowKit Go.Shelf Go.Sort
set_option maxRecDepth 100000

theorem kept_put (w : World) (g n : Nat) (d : Array Int) : Kept (fun k => k = g) w (putRow (Value.int .i64) (Sort.ahead w n) g 0 d) := by
  refine ⟨rfl, rfl, rfl, by simp [putRow, mapBlock, Sort.ahead], fun k hk hF => ?_⟩
  show (w.heap.modify g _)[k]? = _
  rw [Array.getElem?_modify, if_neg (fun e => hF e.symm)]
theorem heap_put {w : World} {g : Nat} {cur : Array Value} {t : TypeId} {fr : Nat × Nat} (d : Array Int) (n : Nat) (hg : w.heap[g]? = some (.cells cur t fr)) :
    (putRow (Value.int .i64) (Sort.ahead w n) g 0 d).heap[g]? = some (.cells (putCells (Value.int .i64) 0 d cur) t fr) := by
  show (w.heap.modify g _)[g]? = _
  rw [Array.getElem?_modify, if_pos rfl, hg]
  rfl
theorem reverse_any {w : World} {B n cap : Nat} {a : Option Addr} {l : List Int} (h : Row cN 3 1 w B (.slice a n cap) l) (hl : l.length ≤ 50000) :
    Calls Try.prog 49 #[.slice a n cap] w fun e w' => e = .returned (.tuple #[]) ∧ Row cN 3 1 w' B (.slice a n cap) l.reverse ∧ Kept (fun k => (Value.slice a n cap).ownBlock = some k) w w' := by
  obtain ⟨a', c', e'⟩ := h.shape
  have hn : n = l.length := by injection e'
  subst hn
  rcases Nat.eq_zero_or_pos l.length with h0 | hpos
  · have hl0 := List.length_eq_zero_iff.1 h0
    subst hl0
    refine (Any.slices_Reverse_int_empty Try.revI a cap w).mono ?_
    rintro e w' ⟨rfl, rfl⟩
    exact ⟨rfl, h, Kept.refl _ _⟩
  · rcases h.2 with ⟨_, e0⟩ | ⟨g, cap', cur, e1, hb, hg, hnc, hm, hs, htk⟩
    · omega
    · cases e1
      have hH : _root_.Go.Sort.Holds (Value.int .i64) w g 0 l.toArray := fun j hj => by
        have hj' : j < l.length := by simpa using hj
        have := h.cells (g := g) rfl j (.int .i64 l[j]) (by rw [← map_flat]; simp [hj', encZ])
        rw [Addr.add_mid] at this
        exact ⟨by rw [this]; simp [hj'], by simp [World.frozen?, hg]⟩
      refine (Any.slices_Reverse_int Try.revI g 0 cap l w hH (by omega)).mono ?_
      rintro e w' ⟨rfl, n, rfl⟩
      refine ⟨rfl, ⟨?_, .inr ⟨g, cap, _, ?_, hb, heap_put l.reverse.toArray n hg, ?_, hm, ?_, ?_⟩⟩, (kept_put w g n _).mono (fun i _ e => by rw [e]; rfl)⟩
      · rw [flat_len cN_len]
      · rw [List.length_reverse]
      · rw [List.length_reverse]; exact hnc
      · rw [show (putCells (Value.int .i64) 0 l.reverse.toArray cur).size = cur.size by simp [putCells]]; exact hs
      · rw [List.length_reverse, ← map_flat]
        apply List.ext_getElem?
        intro i
        have hcl : l.length ≤ cur.size := by omega
        by_cases hi : i < l.length
        · have hi2 : i < cur.size := by omega
          rw [List.getElem?_take, if_pos (by omega), List.getElem?_map, Array.getElem?_toList]
          unfold putCells
          rw [Array.getElem?_mapIdx, Array.getElem?_eq_getElem hi2, Option.map_some, if_pos (by simp; omega), List.getElem?_eq_getElem (by simpa using hi), Option.map_some]
          simp [encZ, hi]
        · rw [List.getElem?_take, if_neg (by omega), List.getElem?_eq_none (by simp; omega)]
end Go.Proofs.Ytbaplplaokbnnaa
