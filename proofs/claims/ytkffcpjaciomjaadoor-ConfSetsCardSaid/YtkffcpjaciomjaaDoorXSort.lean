/- Contracts of slices.SortFunc and slices.CompactFunc at matches. -/
import Derived.Test.YtkffcpjaciomjaaDoorXClone
import Derived.Test.YtkffcpjaciomjaaDoorXShelf
import Derived.Sort.OwnSorted
import Derived.BigQuiet
import Derived.IntWalk
namespace Go.Proofs.YtkffcpjaciomjaaDoor
open Go.RowKit Go.Shelf Go.Sort
set_option maxRecDepth 100000

theorem kept_sortWorld {α : Type} [Inhabited α] {cells : α → List Value} {size : Nat} (w : World) (g n : Nat) (d : Array α) (os : Array Obj) : Kept (fun k => k = g) w (sortWorldK cells size w g 0 n d os) := by
  unfold sortWorldK
  refine (?_ : Kept (fun k => k = g) w (putRowK cells size (Sort.ahead w n) g 0 d)).trans (Kept.mono (F := Nil) ?_ (fun _ _ h => h.elim)) (fun _ _ h => h)
  · refine ⟨rfl, rfl, rfl, by simp [putRowK, putRow, mapBlock, Sort.ahead], fun k hk hF => ?_⟩
    show (w.heap.modify g _)[k]? = _
    rw [Array.getElem?_modify, if_neg (fun e => hF e.symm)]
  · exact ⟨rfl, rfl, rfl, by simp [Sort.grow], fun k hk _ => by simp [Sort.grow, Array.getElem?_append, hk]⟩

theorem cell_far {w : World} {g i j : Nat} {u : Value} (h : i ≠ j) : (w.setCell ⟨g, i, none⟩ u).cell? ⟨g, j, none⟩ = w.cell? ⟨g, j, none⟩ := World.cell?_setCell_other (w := w) (a := ⟨g, i, none⟩) (b := ⟨g, j, none⟩) (v := u) (h := fun e => h (Addr.mk.inj e).2.1)
/-- Matches lie in block g from its beginning on; they may be written. -/
def Rw (w : World) (g : Nat) (l : List MC) : Prop := g < w.heap.size ∧ ∀ (j : Nat) m, l[j]? = some m → w.cell? ⟨g, j * 2, none⟩ = some (.string m.r) ∧ w.cell? ⟨g, j * 2 + 1, none⟩ = some (.slice m.a m.n m.c) ∧ w.frozen? ⟨g, j * 2, none⟩ = false ∧ w.frozen? ⟨g, j * 2 + 1, none⟩ = false
theorem Row.rw_ {w : World} {B g n c : Nat} {l : List MC} {e : TypeId} (h : Row cM e 2 w B (.slice (some ⟨g, 0, none⟩) n c) l) : Rw w g l := ⟨(h.lt g rfl).2, fun _ _ hj => h.at_ hj⟩
theorem Rw.keptN {w w' : World} {g : Nat} {l : List MC} (h : Rw w g l) (k : Kept Nil w w') : Rw w' g l :=
  ⟨Nat.lt_of_lt_of_le h.1 k.size, fun j m hj => by
    obtain ⟨a, b, c, d⟩ := h.2 j m hj
    exact ⟨by rw [k.cell h.1 (fun e => e)]; exact a, by rw [k.cell h.1 (fun e => e)]; exact b, by rw [k.frozen h.1 (fun e => e)]; exact c, by rw [k.frozen h.1 (fun e => e)]; exact d⟩⟩
theorem Rw.toIn {w : World} {g n : Nat} {l : List MC} (h : Rw w g l) (hn : l.length = n) : In cM 2 w (some ⟨g, 0, none⟩) n l :=
  ⟨hn, .inr ⟨g, 0, rfl, h.1, fun j m i v hj hi => by
    obtain ⟨a, b, _⟩ := h.2 j m hj
    have hi2 : i < 2 := by have := (List.getElem?_eq_some_iff.1 hi).1; exact this
    have e : i = 0 ∨ i = 1 := by omega
    rw [Nat.zero_add]
    rcases e with rfl | rfl
    · cases hi; exact a
    · cases hi; exact b⟩⟩
theorem Rw.take {w : World} {g : Nat} {l : List MC} (h : Rw w g l) (k : Nat) : Rw w g (l.take k) :=
  ⟨h.1, fun j m hj => h.2 j m (by
    have := (List.getElem?_eq_some_iff.1 hj).1
    rw [List.length_take] at this
    rw [List.getElem?_take, if_pos (by omega)] at hj; exact hj)⟩
theorem Rw.put {w : World} {g : Nat} {l : List MC} (h : Rw w g l) {j : Nat} (hj : j < l.length) (m : MC) :
    Rw ((w.setCell ⟨g, j * 2, none⟩ (.string m.r)).setCell ⟨g, j * 2 + 1, none⟩ (.slice m.a m.n m.c)) g (l.set j m) ∧ Kept (fun k => k = g) w ((w.setCell ⟨g, j * 2, none⟩ (.string m.r)).setCell ⟨g, j * 2 + 1, none⟩ (.slice m.a m.n m.c)) := by
  obtain ⟨x, hx⟩ : ∃ x, l[j]? = some x := ⟨_, List.getElem?_eq_getElem hj⟩
  obtain ⟨a0, a1, a2, a3⟩ := h.2 j x hx
  refine ⟨⟨by simpa [World.setCell] using h.1, fun i y hi => ?_⟩, Kept.setCell (F := fun k => k = g) (Kept.setCell (F := fun k => k = g) (Kept.refl _ w) ⟨g, j * 2, none⟩ (.inl rfl) _) ⟨g, j * 2 + 1, none⟩ (.inl rfl) _⟩
  by_cases e : i = j
  · subst e
    rw [List.getElem?_set_self hj] at hi
    cases hi
    refine ⟨?_, ?_, ?_, ?_⟩
    · rw [cell_far (by omega)]
      exact World.cell?_setCell_same' _ _ _ (by rw [a0]; rfl)
    · exact World.cell?_setCell_same' _ _ _ (by rw [cell_far (by omega), a1]; rfl)
    · rw [World.frozen?_setCell, World.frozen?_setCell]; exact a2
    · rw [World.frozen?_setCell, World.frozen?_setCell]; exact a3
  · rw [List.getElem?_set_ne (fun e2 => e e2.symm)] at hi
    obtain ⟨b0, b1, b2, b3⟩ := h.2 i y hi
    refine ⟨?_, ?_, ?_, ?_⟩
    · rw [cell_far (by omega), cell_far (by omega)]; exact b0
    · rw [cell_far (by omega), cell_far (by omega)]; exact b1
    · rw [World.frozen?_setCell, World.frozen?_setCell]; exact b2
    · rw [World.frozen?_setCell, World.frozen?_setCell]; exact b3

/-! ### The sort -/
theorem getD_of {l : List MC} {x0 : MC} {j : Nat} {m : MC} (h : l[j]? = some m) : l.getD j x0 = m := by rw [List.getD_eq_getElem?_getD, h]; rfl
theorem getD_mem {l : List MC} {x0 : MC} (h0 : x0 ∈ l) (j : Nat) : l.getD j x0 ∈ l := by
  rw [List.getD_eq_getElem?_getD]
  cases h : l[j]? with
  | none => exact h0
  | some m => exact List.mem_of_getElem? h
theorem map_range_getD (l : List MC) (x0 : MC) : (List.range l.length).map (fun i => l.getD i x0) = l := by
  apply List.ext_getElem?
  intro i
  rw [List.getElem?_map]
  by_cases h : i < l.length
  · rw [List.getElem?_range h, List.getElem?_eq_getElem h]
    show some (l.getD i x0) = _
    rw [getD_of (List.getElem?_eq_getElem h)]
  · rw [List.getElem?_eq_none (by simpa using h), List.getElem?_eq_none (by omega)]; rfl
theorem ltOf_M {α : Type} (f : α → M) (x y : α) : ltOf (fun x y => cmpM (f x) (f y)) x y = ltM (f x) (f y) := by
  unfold ltOf
  rw [Bool.eq_iff_iff, decide_eq_true_eq, cmpM_neg]
theorem swoM {α : Type} (f : α → M) : SWO (ltOf fun x y => cmpM (f x) (f y)) where
  irrefl x := by rw [ltOf_M]; exact ltM_irrefl _
  trans x y z h1 h2 := by rw [ltOf_M] at *; exact ltM_trans _ _ _ h1 h2
  ntrans x y z h1 h2 := by
    rw [ltOf_M] at *
    cases h : ltM (f x) (f z) with
    | false => rfl
    | true =>
      by_cases e1 : f x = f y
      · rw [e1, h2] at h; cases h
      · have hyx := (ltM_total _ _ e1).resolve_left (by rw [h1]; simp)
        have := ltM_trans _ _ _ hyx h
        rw [h2] at this; cases this
theorem sorted_wk {α : Type} [Inhabited α] {f : α → M} {d : Array α} (h : SortedIn (ltOf fun x y => cmpM (f x) (f y)) 0 d.size d) : Wk (d.toList.map f) := by
  unfold Wk
  rw [List.pairwise_map, List.pairwise_iff_getElem]
  intro i j hi hj hij
  have hj' : j < d.size := by simpa using hj
  have hi' : i < d.size := by simpa using hi
  have := h i j (Nat.zero_le _) hij hj'
  rw [ltOf_M, getElem!_pos d j hj', getElem!_pos d i hi'] at this
  simpa using this
theorem perm_of {α : Type} [Inhabited α] {d d' : Array α} (h : PermIn 0 d.size d d') : d'.toList.Perm d.toList := by
  have := h.2.2
  have e1 : d.extract 0 d.size = d := by simp
  have e2 : d'.extract 0 d.size = d' := by rw [← h.1]; simp
  rw [e1, e2] at this
  exact this

theorem holdsK_rw {w : World} {g : Nat} {l : List MC} {x0 : MC} (h : Rw w g l) : HoldsK (fun i : Nat => cM (l.getD i x0)) 2 w g 0 (List.range l.length).toArray := by
  intro j hj
  rw [size_flatK] at hj
  rw [get_flatK _ _ _ _ hj]
  have hj' : j < l.length * 2 := by simpa using hj
  have hi : j / 2 < l.length := by omega
  obtain ⟨m, hm⟩ : ∃ m, l[j / 2]? = some m := ⟨_, List.getElem?_eq_getElem hi⟩
  obtain ⟨a, b, c, d⟩ := h.2 _ _ hm
  have e1 : (List.range l.length).toArray[j / 2]! = j / 2 := by
    rw [getElem!_pos _ (j / 2) (by simpa using hi)]; simp
  rw [e1, getD_of hm, Nat.zero_add]
  have e : j % 2 = 0 ∨ j % 2 = 1 := by omega
  rcases e with e | e
  · rw [e]
    have : j = j / 2 * 2 := by omega
    constructor
    · show w.cell? ⟨g, j, none⟩ = _
      rw [this, show j / 2 * 2 / 2 = j / 2 by omega] at *
      exact a
    · show w.frozen? ⟨g, j, none⟩ = _
      rw [this]; exact c
  · rw [e]
    have : j = j / 2 * 2 + 1 := by omega
    constructor
    · show w.cell? ⟨g, j, none⟩ = _
      rw [this]; exact b
    · show w.frozen? ⟨g, j, none⟩ = _
      rw [this]; exact d
theorem rw_holdsK {w : World} {g : Nat} {l : List MC} {x0 : MC} {d : Array Nat} (h : HoldsK (fun i : Nat => cM (l.getD i x0)) 2 w g 0 d) (hg : g < w.heap.size) : Rw w g (d.toList.map fun i => l.getD i x0) := by
  refine ⟨hg, fun j m hj => ?_⟩
  rw [List.getElem?_map] at hj
  have hjd : j < d.size := by
    by_cases h2 : j < d.size
    · exact h2
    · rw [List.getElem?_eq_none (by simpa using h2)] at hj; cases hj
  rw [List.getElem?_eq_getElem (by simpa using hjd)] at hj
  simp only [Option.map_some, Option.some.injEq] at hj
  have c0 := HoldsK.cell h hjd (c := 0) (by decide)
  have c1 := HoldsK.cell h hjd (c := 1) (by decide)
  have e1 : l.getD d[j]! x0 = m := by rw [getElem!_pos d j hjd]; simpa using hj
  simp only [Nat.zero_add, Nat.add_zero] at c0 c1
  rw [e1] at c0 c1
  exact ⟨c0.1, c1.1, c0.2, c1.2⟩

theorem sort_any {w : World} {g n c : Nat} {l : List MC} (h : Rw w g l) (hn : l.length = n) (hl : n ≤ 5000) (HM : ∀ m ∈ l, ∀ W, Kept (fun k => k = g) w W → Mok W m) :
    Calls Tryd.prog 47 #[.slice (some ⟨g, 0, none⟩) n c, .func (.func 20) #[] #[]] w fun e w' => e = .returned (.tuple #[]) ∧ ∃ l' : List MC, l'.Perm l ∧ Wk (l'.map MC.val) ∧ Rw w' g l' ∧ Kept (fun k => k = g) w w' := by
  cases hl0 : l with
  | nil =>
    subst hl0
    have hn0 : n = 0 := by rw [← hn]; rfl
    subst hn0
    have hc := AnyF.slices_SortFunc_none (P := Tryd.prog) (ρ := Tryd.sortF_ren) { Tryd.sortF with } (some ⟨g, 0, none⟩) c (.func (.func 20) #[] #[]) w
    change Calls Tryd.prog 47 _ _ _ at hc
    refine hc.mono ?_
    rintro e w' ⟨rfl, rfl⟩
    exact ⟨rfl, [], .refl _, List.Pairwise.nil, h, Kept.refl _ _⟩
  | cons x0 r =>
    have h0 : x0 ∈ l := by rw [hl0]; exact List.mem_cons_self ..
    rw [← hl0]
    have eg : ∀ args w, (callFunc 20 args).run Tryd.prog w = .ok (.enter 20 args) w := enters_of Tryd.func20 (by kernel_rfl) rfl
    have hcon := AnyQ.slices_SortFunc Tryd.sortF 2 Tryd.isAgg37 Tryd.sizeOf37 (fun i : Nat => cM (l.getD i x0)) (fun _ => rfl) (fun i => cM_one _) (fun x y => cmpM (l.getD x x0).val (l.getD y x0).val) (swoM fun i => (l.getD i x0).val) 20 #[] g 0 c (List.range l.length).toArray w eg
      (fun m os dk _ x y => by
        have kk : Kept (fun k => k = g) w (sortWorldK (fun i : Nat => cM (l.getD i x0)) 2 w g 0 m dk os) := kept_sortWorld w g m dk os
        refine (compare_any (HM _ (getD_mem h0 x) _ kk) (HM _ (getD_mem h0 y) _ kk)).mono ?_
        rintro e w' ⟨he, q, os', hw⟩
        exact ⟨he, q, os', hw⟩)
      (holdsK_rw h) h.1 (by simp; omega)
    have hs : (List.range l.length).toArray.size = n := by simp [hn]
    rw [hs] at hcon
    change Calls Tryd.prog 47 _ _ _ at hcon
    refine hcon.mono ?_
    rintro e w' ⟨rfl, d', m, os, hp, hso, rfl⟩
    rw [← hs] at hp hso
    have hk : Kept (fun k => k = g) w (sortWorldK (fun i : Nat => cM (l.getD i x0)) 2 w g 0 m d' os) := kept_sortWorld w g m d' os
    have hd := holdsK_sortWorldK_c (fun i : Nat => cM (l.getD i x0)) 2 w g 0 (List.range l.length).toArray d' m os (holdsK_rw h) h.1 hp.1
    refine ⟨rfl, d'.toList.map (fun i => l.getD i x0), ?_, ?_, rw_holdsK hd (Nat.lt_of_lt_of_le h.1 hk.size), hk⟩
    · have := (perm_of hp).map (fun i => l.getD i x0)
      rw [show (List.range l.length).toArray.toList = List.range l.length from by simp, map_range_getD] at this
      exact this
    · rw [List.map_map]
      rw [← hp.1] at hso
      exact sorted_wk (f := fun i => (l.getD i x0).val) hso

/-! ### Compacted -/
theorem kept_setCells (b : Nat) : ∀ (vs : List Value) (o : Nat) (w : World), Kept (fun k => k = b) w (w.setCells b o vs)
  | [], _, w => Kept.refl _ w
  | v :: r, o, w => (Kept.setCell (F := fun k => k = b) (Kept.refl _ w) ⟨b, o, none⟩ (.inl rfl) v).trans (kept_setCells b r (o + 1) _) (fun _ _ e => e)
theorem clear_two (w : World) (b o n c : Nat) (hn : 0 < n) (hc : ∀ j, j < n * 2 → (w.cell? ⟨b, o + j, none⟩).isSome = true) (hf : ∀ j, j < n * 2 → w.frozen? ⟨b, o + j, none⟩ = false) :
    ∃ w', (∀ ty, (Builtin.clear_ #[22] ty #[.slice (some ⟨b, o, none⟩) n c]).run Tryd.prog w = .ok (.tuple #[]) w') ∧ Kept (fun k => k = b) w w' ∧ (∀ i, i < o → w'.cell? ⟨b, i, none⟩ = w.cell? ⟨b, i, none⟩) := by
  obtain ⟨zs, hzs⟩ : ∃ zs, (Builtin.zeroCells (Value.agg #[.string .empty, .slice none 0 0]).cells n).toList = zs := ⟨_, rfl⟩
  have hl : zs.length = n * 2 := by rw [← hzs]; simp [Builtin.zeroCells, Value.cells]
  have h1 : ∀ v ∈ zs, v.oneCell' = true := by
    intro v hv
    rw [← hzs] at hv
    simp only [Builtin.zeroCells, Array.toList_map, List.mem_map] at hv
    obtain ⟨i, _, rfl⟩ := hv
    have : i % 2 = 0 ∨ i % 2 = 1 := by omega
    rcases this with e | e
    · show ((#[Value.string .empty, .slice none 0 0] : Array Value)[i % 2]!).oneCell' = true
      rw [e]; rfl
    · show ((#[Value.string .empty, .slice none 0 0] : Array Value)[i % 2]!).oneCell' = true
      rw [e]; rfl
  have hst := run_storeCells_cells (P := Tryd.prog) b o zs 0 w (by rw [hl]; exact hc) (by rw [hl]; exact hf) h1
  simp only [Nat.add_zero] at hst
  obtain ⟨m, rfl⟩ : ∃ m, n = m + 1 := ⟨n - 1, by omega⟩
  refine ⟨w.setCells b o zs, fun ty => ?_, ?_, fun i hi => World.cell?_setCells_out b zs o w _ (fun _ _ => .inl hi)⟩
  · simp [Builtin.clear_, run_underlying Tryd.underlying22, Tryd.zeroValue37]
    rw [show (Builtin.zeroCells (Value.agg #[Value.string { data := #[] }, Value.slice none 0 0]).cells (m + 1)).toList = zs from hzs, hst]; rfl
  · exact kept_setCells b zs o w

/-- Two that stand in the row, alike or not. -/
theorem take_succ' {l : List MC} {k : Nat} {x : MC} (h : l[k]? = some x) : l.take (k + 1) = l.take k ++ [x] := by rw [List.take_add_one, h]; rfl
theorem drop_more {d l : List MC} {m : Nat} (h : d.drop m = l.drop m) : d.drop (m + 1) = l.drop (m + 1) := by
  have := congrArg (List.drop 1) h
  rwa [List.drop_drop, List.drop_drop] at this
/-- Between two rounds of the loop that moves elements to the front. -/
structure CmpSt (g : Nat) (l : List MC) (w : World) (k0 k1 k2 : Nat) (d : List MC) (wt : World) : Prop where
  len : d.length = l.length
  rw_ : Rw wt g d
  front : d.take k1 = cptL MC.val (l.take (k0 + k2 + 1))
  back : d.drop (k0 + k2) = l.drop (k0 + k2)
  kept : Kept (fun k => k = g) w wt
theorem CmpSt.next {g : Nat} {l : List MC} {w : World} {k0 k1 k2 : Nat} {d : List MC} {wt : World} (h : CmpSt g l w k0 k1 k2 d wt) {x : MC} (hx : l[k0 + k2 + 1]? = some x) : d[k0 + k2 + 1]? = some x := by
  have := congrArg (fun z : List MC => z[1]?) h.back
  simp only [List.getElem?_drop] at this
  rw [show k0 + k2 + 1 = k0 + k2 + 1 from rfl] at *
  rw [this]; exact hx
theorem CmpSt.here {g : Nat} {l : List MC} {w : World} {k0 k1 k2 : Nat} {d : List MC} {wt : World} (h : CmpSt g l w k0 k1 k2 d wt) {x : MC} (hx : l[k0 + k2]? = some x) : d[k0 + k2]? = some x := by
  have := congrArg (fun z : List MC => z[0]?) h.back
  simp only [List.getElem?_drop, Nat.add_zero] at this
  rw [this]; exact hx
theorem CmpSt.same {g : Nat} {l : List MC} {w : World} {k0 k1 k2 : Nat} {d : List MC} {wt wt' : World} (h : CmpSt g l w k0 k1 k2 d wt) (k : Kept Nil wt wt') {x y : MC} (hx : l[k0 + k2 + 1]? = some x) (hy : l[k0 + k2]? = some y) (e : x.val = y.val) : CmpSt g l w k0 k1 (k2 + 1) d wt' := by
  refine ⟨h.len, h.rw_.keptN k, ?_, ?_, h.kept.trans k (fun _ _ e => e.elim)⟩
  · rw [h.front, show k0 + (k2 + 1) + 1 = k0 + k2 + 2 from by omega, cptL_snoc hy hx, if_pos e]
  · rw [show k0 + (k2 + 1) = k0 + k2 + 1 from by omega]; exact drop_more h.back
theorem CmpSt.move {g : Nat} {l : List MC} {w : World} {k0 k1 k2 : Nat} {d : List MC} {wt wt' : World} (h : CmpSt g l w k0 k1 k2 d wt) (k : Kept Nil wt wt') (h1 : k1 ≤ k0 + k2) {x y : MC} (hx : l[k0 + k2 + 1]? = some x) (hy : l[k0 + k2]? = some y) (e : x.val ≠ y.val) :
    CmpSt g l w k0 (k1 + 1) (k2 + 1) (d.set k1 x) ((wt'.setCell ⟨g, k1 * 2, none⟩ (.string x.r)).setCell ⟨g, k1 * 2 + 1, none⟩ (.slice x.a x.n x.c)) := by
  have hl := (List.getElem?_eq_some_iff.1 hx).1
  have hk1 : k1 < d.length := by rw [h.len]; omega
  obtain ⟨r1, kk⟩ := (h.rw_.keptN k).put hk1 x
  refine ⟨by rw [List.length_set]; exact h.len, r1, ?_, ?_, (h.kept.trans k (fun _ _ e => e.elim)).trans kk (fun _ _ e => e)⟩
  · rw [show k0 + (k2 + 1) + 1 = k0 + k2 + 2 from by omega, cptL_snoc hy hx, if_neg e, ← h.front, List.take_add_one, List.getElem?_set_self hk1]
    congr 1
    rw [List.take_set]
    rw [List.set_eq_of_length_le (by rw [List.length_take]; omega)]
  · rw [List.drop_set_of_lt (by omega), show k0 + (k2 + 1) = k0 + k2 + 1 from by omega]; exact drop_more h.back
def CmpctEnd (l : List MC) (g c : Nat) (w : World) (e : Ending) (w' : World) : Prop := ∃ n', e = .returned (.slice (some ⟨g, 0, none⟩) n' c) ∧ In cM 2 w' (some ⟨g, 0, none⟩) n' (cptL MC.val l) ∧ Kept (fun k => k = g) w w'
set_option maxHeartbeats 4000000 in
theorem compact_any {w : World} {g n c : Nat} {l : List MC} (h : Rw w g l) (hn : l.length = n) (hc : n ≤ c) (hl : n ≤ 5000) (HM : ∀ m ∈ l, ∀ W, Kept (fun k => k = g) w W → Mok W m) :
    Calls Tryd.prog 48 #[.slice (some ⟨g, 0, none⟩) n c, .func (.func 31) #[] #[]] w (CmpctEnd l g c w) := by
  have HW := Lib.hid h
  have HN := Lib.hid hn
  have HMM := Lib.hid HM
  clear h hn HM
  by_cases h2 : n < 2
  · have HE : Hid (In cM 2 w (some ⟨g, 0, none⟩) n (cptL MC.val l)) := Lib.hid (by
      have e : cptL MC.val l = l := by
        have := HN.out
        match l, this with
        | [], _ => rfl
        | [_], _ => rfl
        | _ :: _ :: r, h => simp at h; omega
      rw [e]
      exact HW.out.toIn HN.out)
    go_enter Tryd.func48, Tryd.ntmps48
    go_wp2_with fail
    go_ret
    exact ⟨n, rfl, HE.out, Kept.refl _ _⟩
  have CA : Hid (∀ x y, x ∈ l → y ∈ l → ∀ W, Kept (fun k => k = g) w W → Calls Tryd.prog 31 #[vM x, vM y] W fun e w' => e = .returned (.bool (decide (x.val = y.val))) ∧ Gr W w') := Lib.hid fun x y hx hy W k => alike_any (HMM.out x hx W k) (HMM.out y hy W k)
  have hlt2 : ¬ (n : Int) < 2 := by omega
  go_enter Tryd.func48, Tryd.ntmps48
  go_wp2_with fail
  go_loopw [5, 6, 7] (fun i _ _ wr => ∃ k : Nat, 1 ≤ k ∧ k ≤ n ∧ i = .int .i64 k ∧ Hid (cptL MC.val (l.take k) = l.take k) ∧ Kept Nil w wr) (fun i _ _ _ => n - (intOf i).toNat)
  case atStart => exact ⟨1, Nat.le_refl _, by omega, rfl, by
    have := HN.out
    match l, this with
    | [], h => simp at h; omega
    | x :: r, _ => rfl, Kept.refl _ _⟩
  case round =>
    obtain ⟨k, hk1, hkn, rfl, HC, hk⟩ := hrel
    by_cases hlt : k < n
    · obtain ⟨k0, hk0⟩ : ∃ k0, k = k0 + 1 := ⟨k - 1, by omega⟩
      have HK0 := Lib.hid hk0
      obtain ⟨x, hx⟩ : ∃ x, l[k]? = some x := ⟨_, List.getElem?_eq_getElem (by have := HN.out; omega)⟩
      obtain ⟨y, hy⟩ : ∃ y, l[k0]? = some y := ⟨_, List.getElem?_eq_getElem (by have := HN.out; omega)⟩
      have HX := Lib.hid hx
      have HY := Lib.hid hy
      have HK := Lib.hid hk
      have HS : Hid (∀ W, Kept Nil wr W → W.cell? ⟨g, k * 2, none⟩ = some (.string x.r) ∧ W.cell? ⟨g, k * 2 + 1, none⟩ = some (.slice x.a x.n x.c) ∧ W.cell? ⟨g, k0 * 2, none⟩ = some (.string y.r) ∧ W.cell? ⟨g, k0 * 2 + 1, none⟩ = some (.slice y.a y.n y.c)) := Lib.hid fun W kW => by
        have hR := HW.out.keptN (hk.trans kW (fun _ _ e => e))
        obtain ⟨a0, a1, _⟩ := hR.2 k x hx
        obtain ⟨b0, b1, _⟩ := hR.2 k0 y hy
        exact ⟨a0, a1, b0, b1⟩
      have CC : Hid (∀ W, Kept Nil wr W → Calls Tryd.prog 31 #[.agg #[.string x.r, .slice x.a x.n x.c], .agg #[.string y.r, .slice y.a y.n y.c]] W fun e w' => e = .returned (.bool (decide (x.val = y.val))) ∧ Kept Nil W w') := Lib.hid fun W kW => (CA.out x y (List.mem_of_getElem? hx) (List.mem_of_getElem? hy) W ((hk.trans kW (fun _ _ e => e)).mono (fun _ _ e => e.elim))).mono fun e w' ⟨he, hg⟩ => ⟨he, hg.kept⟩
      have s1 : (k : Int) - 1 = (k0 : Int) := by omega
      have s2 : IntKind.i64.wrap (k0 : Int) = (k0 : Int) := IntWalk.i64_in _ (by omega)
      have s3 : (0 : Int) ≤ (k0 : Int) := by omega
      have s4 : (k0 : Int) < (n : Int) := by omega
      obtain ⟨eqb, heqb⟩ : ∃ b, decide (x.val = y.val) = b := ⟨_, rfl⟩
      have HQ := Lib.hid heqb
      rw [heqb] at CC
      clear hx hy hk heqb hk0
      go_wp2_with fail
      refine wp_region_in (Kept Nil wr) (by kernel_rfl) (by kernel_rfl) ((Kept.refl Nil wr).drew) ?_
      have inst : Nonempty (CW (Kept Nil wr)) := ⟨⟨_, Kept.refl Nil wr⟩⟩
      have hc0 : ∀ n : CW (Kept Nil wr), n.w.cell? ⟨g, k * 2, none⟩ = some (.string x.r) := fun n => (HS.out _ n.of).1
      have hc1 : ∀ n : CW (Kept Nil wr), n.w.cell? ⟨g, k * 2 + 1, none⟩ = some (.slice x.a x.n x.c) := fun n => (HS.out _ n.of).2.1
      have hc2 : ∀ n : CW (Kept Nil wr), n.w.cell? ⟨g, k0 * 2, none⟩ = some (.string y.r) := fun n => (HS.out _ n.of).2.2.1
      have hc3 : ∀ n : CW (Kept Nil wr), n.w.cell? ⟨g, k0 * 2 + 1, none⟩ = some (.slice y.a y.n y.c) := fun n => (HS.out _ n.of).2.2.2
      repeat (go_big_quiet_step ((go_at_call 31; exact call_in (fun W W' h k => h.trans k (fun _ _ e => e)) (CC.out _ (CW.of _)))))
      refine wpQuiet_nil ?_
      rintro _ ⟨nn, rfl⟩
      have K1 := Lib.hid (HK.out.trans nn.of (fun _ _ e => e))
      clear hc0 hc1 hc2 hc3
      cases hq : eqb with
      | false =>
        subst hq
        have HC2 : Hid (cptL MC.val (l.take (k + 1)) = l.take (k + 1)) := Lib.hid (by
          have hk0 := HK0.out
          subst hk0
          rw [cptL_snoc HY.out HX.out, if_neg (of_decide_eq_false HQ.out), HC.out, ← take_succ' HX.out])
        go_wp2_with fail
        go_roundw
        case rel => exact ⟨k + 1, by omega, by omega, by go_num, HC2, K1.out⟩
        case measure => simp [intOf]; omega
      | true =>
        subst hq
        have HC2 : Hid (cptL MC.val (l.take (k + 1)) = l.take k) := Lib.hid (by
          have hk0 := HK0.out
          subst hk0
          rw [cptL_snoc HY.out HX.out, if_pos (of_decide_eq_true HQ.out), HC.out])
        have HR0 := Lib.hid (HW.out.keptN K1.out)
        obtain ⟨rs, hrs⟩ : ∃ rs, n - k = rs := ⟨_, rfl⟩
        have hcc : k ≤ c := by omega
        go_wp2_with fail
        go_loopw [5, 7] (fun i2 j2 wt => ∃ (k1 k2 : Nat) (d : List MC), 1 ≤ k2 ∧ k2 ≤ rs ∧ i2 = .int .i64 k1 ∧ j2 = .int .i64 k2 ∧ k1 ≤ k0 + k2 ∧ Hid (CmpSt g l w k0 k1 k2 d wt)) (fun _ j2 _ => rs - (intOf j2).toNat)
        case atStart => exact ⟨k, 1, l, Nat.le_refl _, by omega, rfl, rfl, by have := HK0.out; omega, ⟨rfl, HR0.out, by have := HK0.out; subst this; rw [HC2.out], rfl, K1.out.mono (fun _ _ e => e.elim)⟩⟩
        case round =>
          obtain ⟨k1, k2, d, hk2, hk2r, rfl, rfl, hk12, HST⟩ := hrel
          by_cases hlt2 : k2 < rs
          · obtain ⟨x2, hx2⟩ : ∃ x, l[k0 + k2 + 1]? = some x := ⟨_, List.getElem?_eq_getElem (by have := HN.out; have := HK0.out; omega)⟩
            obtain ⟨y2, hy2⟩ : ∃ y, l[k0 + k2]? = some y := ⟨_, List.getElem?_eq_getElem (by have := HN.out; have := HK0.out; omega)⟩
            obtain ⟨k3, hk3⟩ : ∃ k3, k2 = k3 + 1 := ⟨k2 - 1, by omega⟩
            have HX2 := Lib.hid hx2
            have HY2 := Lib.hid hy2
            have HK3 := Lib.hid hk3
            have e12 : k0 + k2 + 1 = k + k2 := by have := HK0.out; omega
            have e13 : k0 + k2 = k + k3 := by have := HK0.out; omega
            have HS2 : Hid (∀ W, Kept Nil wr W → W.cell? ⟨g, k * 2 + k2 * 2, none⟩ = some (.string x2.r) ∧ W.cell? ⟨g, k * 2 + k2 * 2 + 1, none⟩ = some (.slice x2.a x2.n x2.c) ∧ W.cell? ⟨g, k * 2 + k3 * 2, none⟩ = some (.string y2.r) ∧ W.cell? ⟨g, k * 2 + k3 * 2 + 1, none⟩ = some (.slice y2.a y2.n y2.c)) := Lib.hid fun W kW => by
              have hR := HST.out.rw_.keptN kW
              have h1 := HST.out.next hx2
              have h2 := HST.out.here hy2
              rw [e12] at h1
              rw [e13] at h2
              obtain ⟨a0, a1, _⟩ := hR.2 _ x2 h1
              obtain ⟨b0, b1, _⟩ := hR.2 _ y2 h2
              rw [Nat.add_mul] at a0 a1 b0 b1
              exact ⟨a0, a1, b0, b1⟩
            have HF2 : Hid (∀ W, Kept Nil wr W → (W.cell? ⟨g, k1 * 2, none⟩).isSome = true ∧ (W.cell? ⟨g, k1 * 2 + 1, none⟩).isSome = true ∧ W.frozen? ⟨g, k1 * 2, none⟩ = false ∧ W.frozen? ⟨g, k1 * 2 + 1, none⟩ = false) := Lib.hid fun W kW => by
              have hR := HST.out.rw_.keptN kW
              obtain ⟨z, hz⟩ : ∃ z, d[k1]? = some z := ⟨_, List.getElem?_eq_getElem (by rw [HST.out.len]; have := HN.out; have := HK0.out; omega)⟩
              obtain ⟨a0, a1, a2, a3⟩ := hR.2 _ z hz
              exact ⟨by rw [a0]; rfl, by rw [a1]; rfl, a2, a3⟩
            have CC2 : Hid (∀ W, Kept Nil wr W → Calls Tryd.prog 31 #[.agg #[.string x2.r, .slice x2.a x2.n x2.c], .agg #[.string y2.r, .slice y2.a y2.n y2.c]] W fun e w' => e = .returned (.bool (decide (x2.val = y2.val))) ∧ Kept Nil W w') := Lib.hid fun W kW => (CA.out x2 y2 (List.mem_of_getElem? hx2) (List.mem_of_getElem? hy2) W (HST.out.kept.trans kW (fun _ _ e => e.elim))).mono fun e w' ⟨he, hg⟩ => ⟨he, hg.kept⟩
            have s1' : (k2 : Int) - 1 = (k3 : Int) := by omega
            have s2' : IntKind.i64.wrap (k3 : Int) = (k3 : Int) := IntWalk.i64_in _ (by omega)
            have s3' : (0 : Int) ≤ (k3 : Int) := by omega
            have s4' : (k3 : Int) < (rs : Int) := by omega
            have s5' : (k1 : Int) < (n : Int) := by have := HK0.out; omega
            obtain ⟨eqb2, heqb2⟩ : ∃ b, decide (x2.val = y2.val) = b := ⟨_, rfl⟩
            have HQ2 := Lib.hid heqb2
            rw [heqb2] at CC2
            clear hx2 hy2 heqb2 hk3 e12 e13
            go_wp2_with fail
            refine wp_region_in (Kept Nil wr) (by kernel_rfl) (by kernel_rfl) ((Kept.refl Nil wr).drew) ?_
            have inst2 : Nonempty (CW (Kept Nil wr)) := ⟨⟨_, Kept.refl Nil wr⟩⟩
            have hc0 : ∀ n : CW (Kept Nil wr), n.w.cell? ⟨g, k * 2 + k2 * 2, none⟩ = some (.string x2.r) := fun n => (HS2.out _ n.of).1
            have hc1 : ∀ n : CW (Kept Nil wr), n.w.cell? ⟨g, k * 2 + k2 * 2 + 1, none⟩ = some (.slice x2.a x2.n x2.c) := fun n => (HS2.out _ n.of).2.1
            have hc2 : ∀ n : CW (Kept Nil wr), n.w.cell? ⟨g, k * 2 + k3 * 2, none⟩ = some (.string y2.r) := fun n => (HS2.out _ n.of).2.2.1
            have hc3 : ∀ n : CW (Kept Nil wr), n.w.cell? ⟨g, k * 2 + k3 * 2 + 1, none⟩ = some (.slice y2.a y2.n y2.c) := fun n => (HS2.out _ n.of).2.2.2
            repeat (go_big_quiet_step ((go_at_call 31; exact call_in (fun W W' h k => h.trans k (fun _ _ e => e)) (CC2.out _ (CW.of _)))))
            refine wpQuiet_nil ?_
            rintro _ ⟨n2, rfl⟩
            have K2 := Lib.hid n2.of
            clear hc0 hc1 hc2 hc3
            cases hq2 : eqb2 with
            | true =>
              subst hq2
              have HST2 := Lib.hid (HST.out.same K2.out HX2.out HY2.out (of_decide_eq_true HQ2.out))
              go_wp2_with fail
              go_roundw
              case rel => exact ⟨k1, k2 + 1, d, by omega, by omega, rfl, by go_num, by omega, HST2⟩
              case measure => simp [intOf]; omega
            | false =>
              subst hq2
              have HST2 := Lib.hid (HST.out.move K2.out hk12 HX2.out HY2.out (of_decide_eq_false HQ2.out))
              obtain ⟨q0, q1, _, _⟩ := HS2.out _ K2.out
              obtain ⟨p0, p1, p2, p3⟩ := HF2.out _ K2.out
              obtain ⟨u0, hu0⟩ := Option.isSome_iff_exists.1 p0
              obtain ⟨u1, hu1⟩ := Option.isSome_iff_exists.1 p1
              clear p0 p1
              go_wp2_with fail
              go_roundw
              case rel => exact ⟨k1 + 1, k2 + 1, _, by omega, by omega, by go_num, by go_num, by omega, HST2⟩
              case measure => simp [intOf]; omega
          · have e2 : k2 = rs := by omega
            have HE2 := Lib.hid e2
            have hk1n : k1 < n := by have := HK0.out; omega
            obtain ⟨ro, hro⟩ : ∃ ro, n - k1 = ro := ⟨_, rfl⟩
            have hcl := clear_two wr g (k1 * 2) ro (c - k1) (by omega) (fun j hj => by
                obtain ⟨z, hz⟩ : ∃ z, d[k1 + j / 2]? = some z := ⟨_, List.getElem?_eq_getElem (by rw [HST.out.len]; have := HN.out; omega)⟩
                obtain ⟨a0, a1, _⟩ := HST.out.rw_.2 _ z hz
                have hm : j % 2 = 0 ∨ j % 2 = 1 := by omega
                rcases hm with hm | hm
                · rw [show k1 * 2 + j = (k1 + j / 2) * 2 from by omega, a0]; rfl
                · rw [show k1 * 2 + j = (k1 + j / 2) * 2 + 1 from by omega, a1]; rfl)
              (fun j hj => by
                obtain ⟨z, hz⟩ : ∃ z, d[k1 + j / 2]? = some z := ⟨_, List.getElem?_eq_getElem (by rw [HST.out.len]; have := HN.out; omega)⟩
                obtain ⟨_, _, a2, a3⟩ := HST.out.rw_.2 _ z hz
                have hm : j % 2 = 0 ∨ j % 2 = 1 := by omega
                rcases hm with hm | hm
                · rw [show k1 * 2 + j = (k1 + j / 2) * 2 from by omega]; exact a2
                · rw [show k1 * 2 + j = (k1 + j / 2) * 2 + 1 from by omega]; exact a3)
            obtain ⟨w9, hcl, hk9, hc9⟩ := hcl
            have HIN : Hid (In cM 2 w9 (some ⟨g, 0, none⟩) k1 (cptL MC.val l)) := Lib.hid (by
              have hf := HST.out.front
              rw [List.take_of_length_le (l := l) (by have := HN.out; have := HK0.out; omega)] at hf
              rw [← hf]
              refine ⟨by rw [List.length_take, HST.out.len]; have := HN.out; omega, .inr ⟨g, 0, rfl, Nat.lt_of_lt_of_le HST.out.rw_.1 hk9.size, fun j x i v hj hi => ?_⟩⟩
              have hjk : j < k1 := by have := (List.getElem?_eq_some_iff.1 hj).1; rw [List.length_take] at this; omega
              have hi2 : i < 2 := (List.getElem?_eq_some_iff.1 hi).1
              rw [show (⟨g, 0 + j * 2 + i, none⟩ : Addr) = ⟨g, j * 2 + i, none⟩ from by rw [Nat.zero_add], hc9 _ (by omega)]
              have := (HST.out.rw_.take k1).toIn (n := k1) (by rw [List.length_take, HST.out.len]; have := HN.out; omega)
              rcases this.2 with e | ⟨b, off, e, _, hc⟩
              · omega
              · cases e
                have := hc j x i v hj hi
                rwa [Nat.zero_add] at this)
            have HK9 := Lib.hid (HST.out.kept.trans hk9 (fun _ _ e => e))
            clear hk9 hc9
            go_wp2_with fail
            go_ret
            exact ⟨k1, rfl, HIN.out, HK9.out⟩
    · have e : k = n := by omega
      subst e
      have HE : Hid (In cM 2 wr (some ⟨g, 0, none⟩) k (cptL MC.val l)) := Lib.hid (by
        have := HC.out
        rw [List.take_of_length_le (by have := HN.out; omega)] at this
        rw [this]
        exact (HW.out.keptN hk).toIn HN.out)
      have HK := Lib.hid hk
      clear hk
      go_wp2_with fail
      go_ret
      exact ⟨k, rfl, HE.out, HK.out.mono (fun _ _ e => e.elim)⟩
end Go.Proofs.YtkffcpjaciomjaaDoor
