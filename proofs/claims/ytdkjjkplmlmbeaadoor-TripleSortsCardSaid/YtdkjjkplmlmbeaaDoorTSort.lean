/- Layer triple: the contract of Sort. -/
import Derived.Test.YtdkjjkplmlmbeaaDoorTSame
import Derived.Test.YtdkjjkplmlmbeaaDoorShelf2
import Derived.OwnWalk
namespace Go.Proofs.YtdkjjkplmlmbeaaDoor
open Go.RowKit Go.Shelf Go.Sort

/-- A triple's cells. -/
def encT (t : T3) : List Value := [.int .i64 t.1, .int .i64 t.2.1, .int .i64 t.2.2]
def flat (ts : List T3) : List Value := ts.flatMap encT
theorem flat_len : ∀ ts : List T3, (flat ts).length = ts.length * 3
  | [] => rfl
  | t :: r => by
    show (encT t ++ flat r).length = _
    rw [List.length_append, flat_len r, List.length_cons]
    show 3 + _ = _
    omega
theorem flat_get : ∀ (ts : List T3) (i j : Nat) (t : T3), ts[i]? = some t → j < 3 → (flat ts)[i * 3 + j]? = (encT t)[j]?
  | [], i, j, t, h, _ => by simp at h
  | x :: r, 0, j, t, h, hj => by
    simp only [List.getElem?_cons_zero, Option.some.injEq] at h
    subst h
    show (encT x ++ flat r)[0 * 3 + j]? = _
    rw [Nat.zero_mul, Nat.zero_add, List.getElem?_append_left (by show j < 3; exact hj)]
  | x :: r, i + 1, j, t, h, hj => by
    show (encT x ++ flat r)[(i + 1) * 3 + j]? = _
    rw [List.getElem?_append_right (by show 3 ≤ _; omega), show (i + 1) * 3 + j - (encT x).length = i * 3 + j by show _ - 3 = _; omega]
    exact flat_get r i j t (by simpa using h) hj
theorem flat_one (ts : List T3) : ∀ u ∈ flat ts, u.oneCell' = true := by
  intro u hu
  obtain ⟨t, _, ht⟩ := List.mem_flatMap.1 hu
  simp only [encT, List.mem_cons, List.not_mem_nil, or_false] at ht
  rcases ht with rfl | rfl | rfl <;> rfl
theorem encT_one (x : T3) : ∀ v ∈ encT x, v.oneCell' = true := fun v hv => by
  simp only [encT, List.mem_cons, List.not_mem_nil, or_false] at hv
  rcases hv with rfl | rfl | rfl <;> rfl

/-- Triples lie there. -/
def TAt (w : World) (b off : Nat) (ts : List T3) : Prop := ∀ i t, ts[i]? = some t →
  w.cell? ⟨b, off + i * 3, none⟩ = some (.int .i64 t.1) ∧ w.cell? ⟨b, off + i * 3 + 1, none⟩ = some (.int .i64 t.2.1) ∧ w.cell? ⟨b, off + i * 3 + 2, none⟩ = some (.int .i64 t.2.2)
theorem TAt.kept {w w' : World} {b off : Nat} {ts : List T3} (h : TAt w b off ts) (k : Kept Nil w w') : TAt w' b off ts := fun i t ht => by
  obtain ⟨c0, c1, c2⟩ := h i t ht
  exact ⟨by rw [k.cell (World.block_lt_of_cell? w _ c0) id]; exact c0, by rw [k.cell (World.block_lt_of_cell? w _ c1) id]; exact c1, by rw [k.cell (World.block_lt_of_cell? w _ c2) id]; exact c2⟩
theorem TAt.news {w : World} {b off : Nat} {ts : List T3} (h : TAt w b off ts) : ∀ j u, (flat ts)[j]? = some u → w.cell? ⟨b, off + j, none⟩ = some u := by
  intro j u hj
  have hl := (List.getElem?_eq_some_iff.1 hj).1
  rw [flat_len] at hl
  obtain ⟨t, ht⟩ : ∃ t, ts[j / 3]? = some t := ⟨_, List.getElem?_eq_getElem (by omega)⟩
  have := flat_get ts (j / 3) (j % 3) t ht (by omega)
  rw [show j / 3 * 3 + j % 3 = j by omega, hj] at this
  obtain ⟨c0, c1, c2⟩ := h _ t ht
  have hm : j % 3 = 0 ∨ j % 3 = 1 ∨ j % 3 = 2 := by omega
  rcases hm with e | e | e
  · rw [e] at this
    have e2 : off + j / 3 * 3 = off + j := by omega
    rw [e2] at c0
    rw [c0]; exact this.symm
  · rw [e] at this
    have e2 : off + j / 3 * 3 + 1 = off + j := by omega
    rw [e2] at c1
    rw [c1]; exact this.symm
  · rw [e] at this
    have e2 : off + j / 3 * 3 + 2 = off + j := by omega
    rw [e2] at c2
    rw [c2]; exact this.symm
/-- A row of the call's own that holds triples. -/
def TRow (w : World) (base g cap : Nat) (ts : List T3) : Prop := w.ownsRow base 23 3 (.slice (some ⟨g, 0, none⟩) ts.length cap) ts.length (flat ts)
theorem TRow.tat {w : World} {base g cap : Nat} {ts : List T3} (h : TRow w base g cap ts) : TAt w g 0 ts := fun i t ht => by
  have hc := h.cells (g := g) rfl
  have key : ∀ j v, (encT t)[j]? = some v → w.cell? ⟨g, 0 + i * 3 + j, none⟩ = some v := fun j v hv => by
    have hj : j < 3 := (List.getElem?_eq_some_iff.1 hv).1
    have := hc (i * 3 + j) v (by rw [flat_get ts i j t ht hj]; exact hv)
    rw [show (⟨g, 0, none⟩ : Addr).add (i * 3 + j) = ⟨g, i * 3 + j, none⟩ from by unfold Addr.add; split <;> simp_all] at this
    rw [Nat.zero_add]; exact this
  exact ⟨key 0 _ rfl, key 1 _ rfl, key 2 _ rfl⟩
theorem TRow.block {w : World} {base g cap : Nat} {ts : List T3} (h : TRow w base g cap ts) : base ≤ g ∧ ∃ cur, w.heap[g]? = some (.cells cur 23 (0, 0)) := by
  rcases h.2 with ⟨e, _⟩ | ⟨g', cap', cur, e, hb, hh, _⟩
  · cases e
  · cases e
    exact ⟨hb, cur, hh⟩
theorem TRow.holds {w : World} {base g cap : Nat} {ts : List T3} (h : TRow w base g cap ts) : HoldsK encT 3 w g 0 ts.toArray := by
  intro j hj
  rw [size_flatK] at hj
  rw [get_flatK _ _ _ _ hj]
  obtain ⟨_, cur, hh⟩ := h.block
  have hj' : j < ts.length * 3 := hj
  have hi : j / 3 < ts.length := by omega
  obtain ⟨t, ht⟩ : ∃ t, ts[j / 3]? = some t := ⟨_, List.getElem?_eq_getElem hi⟩
  have e1 : ts.toArray[j / 3]! = t := by
    rw [getElem!_pos ts.toArray (j / 3) (by simpa using hi)]
    exact Option.some.inj ((List.getElem?_eq_getElem hi).symm.trans ht)
  refine ⟨?_, by simp [World.frozen?, hh]⟩
  have := h.tat.news j ((encT t)[j % 3]!) (by
    have hf := flat_get ts (j / 3) (j % 3) t ht (by omega)
    rw [show j / 3 * 3 + j % 3 = j by omega] at hf
    rw [hf, getElem!_pos (encT t) (j % 3) (by show _ < 3; omega)]
    exact List.getElem?_eq_getElem (by show _ < 3; omega))
  rw [e1]
  exact this
theorem tat_of_holds {w : World} {g : Nat} {d : Array T3} (h : HoldsK encT 3 w g 0 d) : TAt w g 0 d.toList := fun i t ht => by
  have hi : i < d.size := by have := (List.getElem?_eq_some_iff.1 ht).1; simpa using this
  have e1 : d[i]! = t := by
    rw [getElem!_pos d i hi]
    have := List.getElem?_eq_getElem (l := d.toList) (i := i) (by simpa using hi)
    rw [ht] at this
    exact (Option.some.inj this).symm
  have c0 := (HoldsK.cell h hi (c := 0) (by decide)).1
  have c1 := (HoldsK.cell h hi (c := 1) (by decide)).1
  have c2 := (HoldsK.cell h hi (c := 2) (by decide)).1
  rw [e1] at c0 c1 c2
  exact ⟨c0, c1, c2⟩

theorem ltOf_cmp (x y : T3) : ltOf cmpT x y = lessT x y := cmp_neg x y
theorem swoT : SWO (ltOf cmpT) where
  irrefl x := by rw [ltOf_cmp]; exact less_irrefl x
  trans x y z h1 h2 := by rw [ltOf_cmp] at *; exact less_trans h1 h2
  ntrans x y z h1 h2 := by
    rw [ltOf_cmp] at *
    cases h : lessT x z with
    | false => rfl
    | true =>
      have n1 : ¬ lessT x y = true := by rw [h1]; simp
      have n2 : ¬ lessT y z = true := by rw [h2]; simp
      rw [lessT_iff] at h n1 n2
      omega
theorem totT (x y : T3) (h1 : ltOf cmpT x y = false) (h2 : ltOf cmpT y x = false) : x = y := by
  rw [ltOf_cmp] at h1 h2
  rcases cmpT_cases x y with ⟨_, l⟩ | ⟨_, e⟩ | ⟨_, l⟩
  · rw [h1] at l; cases l
  · exact e
  · rw [h2] at l; cases l
theorem cmpLaysT (blk off size : Nat) (w : World) : CmpLays Tryd.prog 16 #[] encT 3 cmpT blk off size w := fun m os dk _ x y => by
  refine (compare_any x y _).mono ?_
  rintro e w' ⟨he, q, hw⟩
  exact ⟨he, q, _, by rw [hw, alloc_eq_grow, alloc_eq_grow, grow_grow]; rfl⟩

/-- What a sort leaves but for its own block. -/
theorem kept_sortWorld (w : World) (g n : Nat) (d : Array T3) (os : Array Obj) : Kept (fun k => k = g) w (sortWorldK encT 3 w g 0 n d os) := by
  unfold sortWorldK
  refine (?_ : Kept (fun k => k = g) w (putRowK encT 3 (Sort.ahead w n) g 0 d)).trans (Kept.mono (F := Nil) ?_ (fun _ _ h => h.elim)) (fun _ _ h => h)
  · refine ⟨rfl, rfl, rfl, by simp [putRowK, putRow, mapBlock, Sort.ahead], fun k hk hF => ?_⟩
    show (w.heap.modify g _)[k]? = _
    rw [Array.getElem?_modify, if_neg (fun e => hF e.symm)]
  · exact ⟨rfl, rfl, rfl, by simp [Sort.grow], fun k hk _ => by simp [Sort.grow, Array.getElem?_append, hk]⟩

theorem Tryd.infoT : (Tryd.prog.info? 23).map (fun i => (i.zero, i.size, i.bytes)) = some (some (.agg #[.int .i64 0, .int .i64 0, .int .i64 0]), 3, 24) := by kernel_rfl

theorem cloneT_any {w : World} {base g cap : Nat} {ts : List T3} (h : TRow w base g cap ts) (hl : ts.length ≤ 1000) :
    Calls Tryd.prog 26 #[.slice (some ⟨g, 0, none⟩) ts.length cap] w fun e w' => ∃ g' cap', e = .returned (.slice (some ⟨g', 0, none⟩) ts.length cap') ∧ TRow w' w.heap.size g' cap' ts ∧ Kept Nil w w' := by
  obtain ⟨i0, hi, hz0, hz1, hz2⟩ := info_parts Tryd.infoT
  have hc := AnyE.slices_Clone Tryd.cloneT i0 (.agg #[.int .i64 0, .int .i64 0, .int .i64 0]) 3 24 hi hz0 hz1 hz2 rfl (by decide) Tryd.sizeOf23 g 0 ts.length cap (flat ts) w (flat_len ts) (by unfold maxLen; omega) (by omega) h.tat.news (flat_one ts)
  change Calls Tryd.prog 26 _ _ _ at hc
  refine hc.mono ?_
  rintro e w' ⟨v', rfl, ho, hn, hb⟩
  rcases ho.2 with ⟨e, _⟩ | ⟨g', cap', cur, e, hh⟩
  · exact absurd e hn
  · subst e
    exact ⟨g', cap', rfl, ho, Kept.ofBelow hb⟩

def SortEnd (ts : List T3) (w : World) (e : Ending) (w' : World) : Prop := ∃ g cap us, e = .returned (.slice (some ⟨g, 0, none⟩) ts.length cap) ∧ TAt w' g 0 us ∧ us.Perm ts ∧ us.Pairwise (fun x y => lessT y x = false) ∧ Kept Nil w w'

set_option maxHeartbeats 1000000 in
theorem sort_any {w : World} {base g cap : Nat} {ts : List T3} (h : TRow w base g cap ts) (hl : ts.length ≤ 1000) :
    Calls Tryd.prog 18 #[.slice (some ⟨g, 0, none⟩) ts.length cap] w (SortEnd ts w) := by
  have C := Lib.hid (cloneT_any h hl)
  clear h
  go_enter Tryd.func18, Tryd.ntmps18
  go_wp2_with fail
  refine C.out.mono ?_
  rintro e w1 ⟨g', cap', rfl, h', k1⟩
  have eg : ∀ args w, (callFunc 16 args).run Tryd.prog w = .ok (.enter 16 args) w := enters_of Tryd.func16 (by kernel_rfl) rfl
  obtain ⟨hb, cur, hh⟩ := h'.block
  have hlt := lt_of_block hh
  have hcon := AnyQ.slices_SortFunc_total Tryd.sortT 3 Tryd.isAgg23 Tryd.sizeOf23 encT (fun _ => rfl) encT_one cmpT swoT 16 #[] g' 0 cap' ts.toArray w1 eg (cmpLaysT g' 0 _ w1) h'.holds hlt (by simp; omega) totT
  change Calls Tryd.prog 27 _ _ _ at hcon
  have HC := Lib.hid hcon
  have HH := Lib.hid h'.holds
  clear hcon eg hh h'
  go_wp2_with fail
  refine HC.out.mono ?_
  rintro e w2 ⟨rfl, n, os, rfl⟩
  go_wp2_with fail
  go_ret
  refine ⟨g', cap', (ts.mergeSort fun x y => !(ltOf cmpT) y x), rfl, ?_, List.mergeSort_perm _ _, ?_, k1.trans (kept_sortWorld w1 g' n _ os) (fun i hi e => ?_)⟩
  · have := tat_of_holds (holdsK_sortWorldK_c encT 3 w1 g' 0 ts.toArray (ts.mergeSort fun x y => !(ltOf cmpT) y x).toArray n os HH.out hlt (by simp))
    exact this
  · have := List.pairwise_mergeSort (le := fun x y => !(ltOf cmpT) y x) (fun a b c h1 h2 => by
      simp only [Bool.not_eq_true'] at *
      exact swoT.ntrans c b a h2 h1) (fun a b => by
      simp only [ltOf_cmp]
      cases h : lessT b a with
      | false => rfl
      | true => rw [less_asymm h]; rfl) ts
    refine this.imp (fun {x y} h => ?_)
    rw [← ltOf_cmp]
    simpa using h
  · omega
end Go.Proofs.YtdkjjkplmlmbeaaDoor
