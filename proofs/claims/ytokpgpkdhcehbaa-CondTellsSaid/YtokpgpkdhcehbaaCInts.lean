/- Layer cond: rows of numbers that a call owns: append, slices.Sort, slices.Compact. -/
import Derived.Test.YtokpgpkdhcehbaaCRow
import Derived.Test.YtokpgpkdhcehbaaUShelf
import Derived.OwnWalk
namespace Go.Proofs.Ytokpgpkdhcehbaa
open Go.RowKit Go.Shelf Go.Sort

/-- A row of the call's own that holds numbers. -/
def IRow (w : World) (B : Nat) (v : Value) (l : List Int) : Prop := w.ownsRow B 3 1 v l.length (l.map (Value.int .i64))
theorem IRow.shape {w : World} {B : Nat} {v : Value} {l : List Int} (h : IRow w B v l) : ∃ a cap, v = .slice a l.length cap := by
  rcases h.2 with ⟨e, e0⟩ | ⟨g, cap, cur, e, _⟩
  · exact ⟨none, 0, by rw [e, e0]⟩
  · exact ⟨_, _, e⟩
theorem IRow.kept {w w' : World} {B : Nat} {v : Value} {l : List Int} (h : IRow w B v l) (k : Kept Nil w w') : IRow w' B v l := Kept.row k h (fun _ _ g => g)
theorem IRow.own {w : World} {B : Nat} {v : Value} {l : List Int} (h : IRow w B v l) : ∀ k, v.ownBlock = some k → B ≤ k := by
  intro k hk
  rcases h.2 with ⟨e, _⟩ | ⟨g, cap, cur, e, hb, _⟩
  · rw [e] at hk; cases hk
  · rw [e] at hk; cases hk; exact hb
theorem Try.infoI : (Try.prog.info? 3).map (fun i => (i.zero, i.size, i.bytes)) = some (some (.int .i64 0), 1, 8) := by kernel_rfl
theorem kept_putRow (w : World) (g n : Nat) (d : Array Int) (os : Array Obj) : Kept (fun k => k = g) w (Sort.grow (putRow (Value.int .i64) (Sort.ahead w n) g 0 d) os) := by
  refine (?_ : Kept (fun k => k = g) w (putRow (Value.int .i64) (Sort.ahead w n) g 0 d)).trans (Kept.mono (F := Nil) ?_ (fun _ _ h => h.elim)) (fun _ _ h => h)
  · refine ⟨rfl, rfl, rfl, by simp [putRow, mapBlock, Sort.ahead], fun k hk hF => ?_⟩
    show (w.heap.modify g _)[k]? = _
    rw [Array.getElem?_modify, if_neg (fun e => hF e.symm)]
  · refine ⟨rfl, rfl, rfl, by simp [Sort.grow], fun k hk _ => ?_⟩
    show ((putRow (Value.int .i64) (Sort.ahead w n) g 0 d).heap ++ os)[k]? = _
    rw [Array.getElem?_append_left hk]
theorem IRow.holds {w : World} {B g cap : Nat} {l : List Int} (h : IRow w B (.slice (some ⟨g, 0, none⟩) l.length cap) l) (hl : 0 < l.length) : _root_.Go.Sort.Holds (Value.int .i64) w g 0 l.toArray ∧ g < w.heap.size ∧ B ≤ g ∧ l.length ≤ cap := by
  rcases h.2 with ⟨e, e0⟩ | ⟨g', cap', cur, e, hb, hg, hle, _⟩
  · omega
  · cases e
    refine ⟨fun j hj => ?_, (Array.getElem?_eq_some_iff.1 hg).1, hb, hle⟩
    have hj' : j < l.length := by simpa using hj
    have := h.cells (g := g) rfl j (.int .i64 l[j]) (by simp [hj'])
    rw [show (⟨g, 0, none⟩ : Addr).add j = ⟨g, 0 + j, none⟩ from by unfold Addr.add; split <;> simp_all] at this
    exact ⟨by rw [this]; simp [hj'], by simp [World.frozen?, hg]⟩

theorem cell_one_new2 (w : World) (x : Value) (t : TypeId) : ∀ j u, [x][j]? = some u → (w.alloc (.cells #[x] t)).cell? ((⟨w.heap.size, 0, none⟩ : Addr).add j) = some u := by
  intro j u hj
  rw [Addr.add_mid, Nat.zero_add, (Blk.new w t #[x]).cell j]
  simpa using hj
theorem appendI_one (w : World) {B : Nat} {v : Value} {l : List Int} (h : IRow w B v l) (hB : B ≤ w.heap.size) (hl : l.length ≤ 50000) (s : Int) :
    ∃ v' w', (Builtin.append_ #[40, 40] 40 #[v, .slice (some ⟨w.heap.size, 0, none⟩) 1 1]).run Try.prog (w.alloc (.cells #[.int .i64 s] 3)) = .ok v' w' ∧ IRow w' B v' (l ++ [s]) ∧ (w.alloc (.cells #[.int .i64 s] 3)).grownBy w' v.ownBlock := by
  obtain ⟨i0, hi, hz0, hz1, hz2⟩ := info_parts Try.infoI
  obtain ⟨v', w', r, o, g', _⟩ := run_append_own (P := Try.prog) (w.alloc (.cells #[.int .i64 s] 3)) B 40 40 3 i0 (.int .i64 0) 1 8 Try.underlying40 hi hz0 hz1 hz2 rfl (by decide) v l.length (l.map (Value.int .i64)) (h.alloc _)
    ⟨w.heap.size, 0, none⟩ 1 1 [.int .i64 s] rfl (cell_one_new2 _ _ _) (fun u hu => by simp at hu; subst hu; rfl) (by unfold maxLen; omega) (by omega) (by simp; omega)
  exact ⟨v', w', r, by simpa [IRow] using o, g'⟩
theorem IRow.cellAt {w : World} {B g cap n : Nat} {l : List Int} (h : IRow w B (.slice (some ⟨g, 0, none⟩) n cap) l) {i : Nat} {x : Int} (hx : l[i]? = some x) : w.cell? ⟨g, i, none⟩ = some (.int .i64 x) := by
  have := h.cells (g := g) rfl i (.int .i64 x) (by rw [List.getElem?_map, hx]; rfl)
  rwa [Addr.add_mid, Nat.zero_add] at this
theorem appendI_all (w : World) {B B2 : Nat} {v v2 : Value} {l l2 : List Int} (h : IRow w B v l) (h2 : IRow w B2 v2 l2) (hB : B ≤ w.heap.size) (hl : l.length + l2.length ≤ 50000) :
    ∃ v' w', (Builtin.append_ #[40, 40] 40 #[v, v2]).run Try.prog w = .ok v' w' ∧ IRow w' B v' (l ++ l2) ∧ Kept (fun k => v.ownBlock = some k) w w' := by
  obtain ⟨i0, hi, hz0, hz1, hz2⟩ := info_parts Try.infoI
  rcases h2.2 with ⟨e, e0⟩ | ⟨g, cap, cur, e, _⟩
  · obtain rfl := List.length_eq_zero_iff.1 e0
    subst e
    exact ⟨v, w, run_append_owned_none (P := Try.prog) (w := w) B 40 40 3 i0 1 Try.underlying40 hi v l.length _ h, by simpa using h, Kept.refl _ _⟩
  · subst e
    obtain ⟨v', w', r, o, gr, _⟩ := run_append_own (P := Try.prog) w B 40 40 3 i0 (.int .i64 0) 1 8 Try.underlying40 hi hz0 hz1 hz2 rfl (by decide) v l.length (l.map (Value.int .i64)) h
      ⟨g, 0, none⟩ l2.length cap (l2.map (Value.int .i64)) (by simp) (h2.cells rfl) (fun u hu => by obtain ⟨x, _, rfl⟩ := List.mem_map.1 hu; rfl) (by unfold maxLen; omega) (by omega) hB
    exact ⟨v', w', r, by simpa [IRow] using o, ⟨gr.os, gr.tape, gr.output, gr.size, fun k hk hF => gr.block k hk (fun e => hF e.symm)⟩⟩
/-- A row known by its cells. -/
theorem IRow.of_cells {w : World} {B g cap : Nat} {cur : Array Value} {l : List Int} (hb : B ≤ g) (hg : w.heap[g]? = some (.cells cur 3 (0, 0))) (hn : l.length ≤ cap) (hm : cap ≤ maxLen) (hs : cur.size = cap * 1) (hc : ∀ i x, l[i]? = some x → w.cell? ⟨g, i, none⟩ = some (.int .i64 x)) :
    IRow w B (.slice (some ⟨g, 0, none⟩) l.length cap) l := by
  refine ⟨by simp, .inr ⟨g, cap, cur, rfl, hb, hg, hn, hm, hs, ?_⟩⟩
  apply List.ext_getElem?
  intro i
  by_cases hi : i < l.length
  · rw [List.getElem?_take, if_pos (by omega), List.getElem?_map, List.getElem?_eq_getElem hi]
    have := hc i _ (List.getElem?_eq_getElem hi)
    rw [cell_of_row w g i cur _ _ hg] at this
    simpa using this
  · rw [List.getElem?_take, if_neg (by omega), List.getElem?_eq_none (by simp; omega)]
theorem heap_putRow {w : World} {g : Nat} {cur : Array Value} {t : TypeId} {fr : Nat × Nat} (d : Array Int) (n : Nat) (os : Array Obj) (hg : w.heap[g]? = some (.cells cur t fr)) :
    ∃ cur', (Sort.grow (putRow (Value.int .i64) (Sort.ahead w n) g 0 d) os).heap[g]? = some (.cells cur' t fr) ∧ cur'.size = cur.size := by
  refine ⟨putCells (Value.int .i64) 0 d cur, ?_, by simp [putCells]⟩
  have hlt := (Array.getElem?_eq_some_iff.1 hg).1
  show ((putRow (Value.int .i64) (Sort.ahead w n) g 0 d).heap ++ os)[g]? = _
  rw [Array.getElem?_append_left (by simpa [putRow, mapBlock, Sort.ahead] using hlt)]
  show (w.heap.modify g _)[g]? = _
  rw [Array.getElem?_modify, if_pos rfl, hg]
  rfl
theorem sort_any {w : World} {B : Nat} {v : Value} {l : List Int} (h : IRow w B v l) (hl : l.length ≤ 50000) :
    Calls Try.prog 27 #[v] w fun e w' => e = .returned (.tuple #[]) ∧ IRow w' B v (l.mergeSort fun x y => decide (x ≤ y)) ∧ Kept (fun k => v.ownBlock = some k) w w' := by
  rcases Nat.eq_zero_or_pos l.length with h0 | hpos
  · obtain rfl := List.length_eq_zero_iff.1 h0
    obtain ⟨a, cap, rfl⟩ := h.shape
    refine (AnyM.slices_Sort_int_none Try.sortI a cap w).mono ?_
    rintro e w' ⟨rfl, rfl⟩
    exact ⟨rfl, by simpa using h, Kept.refl _ _⟩
  · rcases h.2 with ⟨_, e0⟩ | ⟨g, cap, cur, rfl, hb, hg, hn, hm, hs, _⟩
    · omega
    · obtain ⟨hH, hgl, _, _⟩ := h.holds hpos
      refine (AnyM.slices_Sort_int Try.sortI g 0 cap l w hH hgl (by omega)).mono ?_
      rintro e w' ⟨rfl, n, os, rfl⟩
      have hsz : (l.mergeSort fun x y => decide (x ≤ y)).length = l.length := List.length_mergeSort _
      refine ⟨rfl, ?_, (kept_putRow w g n _ os).mono (fun i _ e => by rw [e]; rfl)⟩
      obtain ⟨cur', hg', hs'⟩ := heap_putRow (l.mergeSort fun x y => decide (x ≤ y)).toArray n os hg
      have H2 : _root_.Go.Sort.Holds (Value.int .i64) (Sort.grow (putRow (Value.int .i64) (Sort.ahead w n) g 0 (l.mergeSort fun x y => decide (x ≤ y)).toArray) os) g 0 (l.mergeSort fun x y => decide (x ≤ y)).toArray :=
        holds_grow _ _ _ _ _ _ (by simpa [putRow, mapBlock, Sort.ahead] using hgl) (holds_putRow _ _ _ _ _ _ (holds_ahead _ _ _ _ _ _ hH) (by simp [hsz]))
      have := IRow.of_cells (B := B) (l := l.mergeSort fun x y => decide (x ≤ y)) (cap := cap) hb hg' (by omega) hm (by omega) (fun i x hx => by
        have hil := (List.getElem?_eq_some_iff.1 hx).1
        have := (H2 i (by simpa using hil)).1
        rw [Nat.zero_add] at this
        rw [this, getElem!_pos _ i (by simpa using hil)]
        exact congrArg some (congrArg _ (by simpa using (List.getElem?_eq_some_iff.1 hx).2)))
      rwa [hsz] at this
theorem compact_any {w : World} {B : Nat} {v : Value} {l : List Int} (h : IRow w B v l) (hl : l.length ≤ 50000) :
    Calls Try.prog 28 #[v] w fun e w' => ∃ a cap, e = .returned (.slice a (Lib.compact l).length cap) ∧ IRow w' B (.slice a (Lib.compact l).length cap) (Lib.compact l) ∧ Kept (fun k => v.ownBlock = some k) w w' := by
  rcases Nat.eq_zero_or_pos l.length with h0 | hpos
  · obtain rfl := List.length_eq_zero_iff.1 h0
    obtain ⟨a, cap, rfl⟩ := h.shape
    refine (Any.slices_Compact_int_empty Try.compactI a cap w).mono ?_
    rintro e w' ⟨rfl, rfl⟩
    exact ⟨a, cap, rfl, h, Kept.refl _ _⟩
  · rcases h.2 with ⟨_, e0⟩ | ⟨g, cap, cur, rfl, hb, hg, hn, hm, hs, _⟩
    · omega
    · obtain ⟨hH, hgl, _, _⟩ := h.holds hpos
      refine (Any.slices_Compact_int Try.compactI g 0 cap l w hH (by omega) hn).mono ?_
      rintro e w' ⟨rfl, q, rfl⟩
      have hle : (Lib.compact l).length ≤ l.length := by
        unfold Lib.compact Lib.compactUpTo
        rw [List.length_map]
        exact Nat.le_trans (List.length_filter_le _ _) (by simp)
      have kc := kept_putRow w g q (Lib.compact l ++ List.replicate (l.length - (Lib.compact l).length) 0).toArray #[]
      rw [Sort.grow_empty] at kc
      refine ⟨_, cap, rfl, ?_, kc.mono (fun i _ e => by rw [e]; rfl)⟩
      obtain ⟨cur', hg', hs'⟩ := heap_putRow (Lib.compact l ++ List.replicate (l.length - (Lib.compact l).length) 0).toArray q #[] hg
      rw [Sort.grow_empty] at hg'
      have hh := holds_putRow (Value.int .i64) (Sort.ahead w q) g 0 l.toArray (Lib.compact l ++ List.replicate (l.length - (Lib.compact l).length) 0).toArray (holds_ahead _ _ _ _ _ _ hH) (by simp; omega)
      refine IRow.of_cells hb hg' (by omega) hm (by omega) (fun i x hx => ?_)
      have hil := (List.getElem?_eq_some_iff.1 hx).1
      have := (hh i (by simp; omega)).1
      rw [Nat.zero_add] at this
      rw [this]
      have e : (Lib.compact l ++ List.replicate (l.length - (Lib.compact l).length) 0).toArray[i]! = x := by
        rw [getElem!_pos _ i (by simp; omega)]
        have h2 : (Lib.compact l ++ List.replicate (l.length - (Lib.compact l).length) 0)[i]? = some x := by rw [List.getElem?_append_left hil]; exact hx
        simpa using (List.getElem?_eq_some_iff.1 h2).2
      rw [e]
end Go.Proofs.Ytokpgpkdhcehbaa
