/- Rows of bytes whose mark lies behind their cells (what '[]byte(s)' makes); append to them; internal/strconv.AppendUint and strconv.AppendInt at base 10 onto them. -/
import Derived.Test.YtkffcpjaciomjaaDoorXNum
import Derived.Test.YtkffcpjaciomjaaDoorXRef
import Derived.Lib.AppendStr
import Derived.Lib.AppendIntMem
import Derived.Lib.ItoaMem
import Derived.Laws.CopyRow
import Derived.Laws.IdiomStrings
namespace Go.Proofs.YtkffcpjaciomjaaDoor
open Go.RowKit Go.Shelf Go.Sort
set_option maxRecDepth 100000

/-- A row of bytes of the call's own; nothing that it has room for is frozen. -/
def RowB (w : World) (B : Nat) (v : Value) (bs : List UInt8) : Prop := ∃ g cap cur fz, v = .slice (some ⟨g, 0, none⟩) bs.length cap ∧ B ≤ g ∧ w.heap[g]? = some (.cells cur 5 fz) ∧ (fz.2 = 0 ∨ cur.size ≤ fz.1) ∧ bs.length ≤ cap ∧ cap ≤ maxLen ∧ cur.size = cap ∧ cur.toList.take bs.length = Lib.byteCells bs
theorem RowB.keptN {w w' : World} {B : Nat} {v : Value} {bs : List UInt8} (h : RowB w B v bs) (k : Kept Nil w w') : RowB w' B v bs := by
  obtain ⟨g, cap, cur, fz, e, hB, hg, hr⟩ := h
  exact ⟨g, cap, cur, fz, e, hB, (k.block g (Array.getElem?_eq_some_iff.1 hg).1 (fun e => e)).trans hg, hr⟩
theorem RowB.cells {w : World} {B : Nat} {v : Value} {bs : List UInt8} (h : RowB w B v bs) : ∃ g cap, v = .slice (some ⟨g, 0, none⟩) bs.length cap ∧ B ≤ g ∧ ∀ j (hj : j < bs.length), w.cell? ((⟨g, 0, none⟩ : Addr).add j) = some (.int .u8 (bs[j].toNat : Int)) := by
  obtain ⟨g, cap, cur, fz, e, hB, hg, _, _, _, _, ht⟩ := h
  refine ⟨g, cap, e, hB, fun j hj => ?_⟩
  rw [Addr.add_mid, Nat.zero_add, cell_of_row w g j cur 5 fz hg]
  have := congrArg (fun z : List Value => z[j]?) ht
  simp only [List.getElem?_take, if_pos hj, Lib.byteCells, List.getElem?_map, List.getElem?_eq_getElem hj, Option.map_some] at this
  rw [← this]; simp
/-- Stores in such a row, behind what is there. -/
theorem stores_behind (P : Program) (g o : Nat) (t : TypeId) (fz : Nat × Nat) : ∀ (vs : List Value) (i : Nat) (cur : Array Value) (w : World), w.heap[g]? = some (.cells cur t fz) → (fz.2 = 0 ∨ cur.size ≤ fz.1) → o + i + vs.length ≤ cur.size → (∀ v ∈ vs, v.oneCell' = true) →
    (storeCells ⟨g, o, none⟩ vs i).run P w = .ok () (w.setRow g (cur.toList.take (o + i) ++ vs ++ cur.toList.drop (o + i + vs.length)).toArray)
  | [], i, cur, w, hg, _, _, _ => by
    simp only [storeCells, List.append_nil, List.length_nil, Nat.add_zero, List.take_append_drop, Array.toArray_toList]
    rw [setRow_self w g cur t fz hg]
    rfl
  | v :: rest, i, cur, w, hg, hfz, hl, h1 => by
    have hi : o + i < cur.size := by simp at hl; omega
    have hcell : w.cell? ⟨g, o + i, none⟩ = some cur[o + i] := by simp [World.cell?, hg, hi]
    have hfro : w.frozen? ⟨g, o + i, none⟩ = false := by
      obtain ⟨lo, up⟩ := fz
      simp only [World.frozen?, hg, Bool.and_eq_false_iff, decide_eq_false_iff_not]
      simp only at hfz
      omega
    have hst : (store ((⟨g, o, none⟩ : Addr).add i) v).run P w = .ok () (w.setRow g (cur.setIfInBounds (o + i) v)) := by
      rw [Addr.add_mid, run_store P w _ v _ (h1 v (by simp)), hcell]
      simp [hfro, setCell_eq_setRow w g (o + i) cur t fz v hg]
    have ih := stores_behind P g o t fz rest (i + 1) (cur.setIfInBounds (o + i) v) (w.setRow g (cur.setIfInBounds (o + i) v)) (setRow_heap w g cur _ t _ hg) (by simpa using hfz) (by simp at hl ⊢; omega) (fun x hx => h1 x (by simp [hx]))
    simp only [storeCells, Sem.run_bind, hst, Result.andThen_ok, ih, setRow_setRow]
    congr 3
    have e := list_seg_step cur.toList (o + i) v rest (by simp at hl ⊢; omega)
    simpa [Array.toList_setIfInBounds, Nat.add_assoc] using e
theorem byteCells_one (l : List UInt8) : ∀ v ∈ Lib.byteCells l, v.oneCell' = true := fun v hv => by
  obtain ⟨b, _, rfl⟩ := List.mem_map.1 hv; rfl
theorem byteCells_app (l m : List UInt8) : Lib.byteCells (l ++ m) = Lib.byteCells l ++ Lib.byteCells m := List.map_append
/-- What a row holds when bytes have been stored behind what was there. -/
theorem RowB.behind {w : World} {B g cap : Nat} {cur : Array Value} {fz : Nat × Nat} {bs news : List UInt8} (hB : B ≤ g) (hg : w.heap[g]? = some (.cells cur 5 fz)) (hfz : fz.2 = 0 ∨ cur.size ≤ fz.1) (hcm : cap ≤ maxLen) (hcs : cur.size = cap) (ht : cur.toList.take bs.length = Lib.byteCells bs) (hroom : bs.length + news.length ≤ cap) :
    RowB (w.setRow g (cur.toList.take bs.length ++ Lib.byteCells news ++ cur.toList.drop (bs.length + news.length)).toArray) B (.slice (some ⟨g, 0, none⟩) (bs.length + news.length) cap) (bs ++ news) := by
  have hs : (cur.toList.take bs.length ++ Lib.byteCells news ++ cur.toList.drop (bs.length + news.length)).toArray.size = cap := by
    simp only [List.size_toArray, List.length_append, List.length_take, List.length_drop, Array.length_toList, Lib.byteCells_length]
    omega
  refine ⟨g, cap, _, fz, by rw [List.length_append], hB, setRow_heap w g cur _ 5 _ hg, by rw [hs, ← hcs]; exact hfz, by rw [List.length_append]; exact hroom, hcm, hs, ?_⟩
  rw [byteCells_app, ht]
  show (Lib.byteCells bs ++ Lib.byteCells news ++ _).take _ = _
  rw [List.take_left' (by rw [List.length_append, List.length_append, Lib.byteCells_length, Lib.byteCells_length])]

/-- append of the bytes at a slice. -/
theorem appendB {w : World} {B : Nat} {v : Value} {bs : List UInt8} (ty : TypeId) (h : RowB w B v bs) (hB : B ≤ w.heap.size) {a : Addr} {m c : Nat} {news : List UInt8} (hl : news.length = m) (hn : ∀ j u, (Lib.byteCells news)[j]? = some u → w.cell? (a.add j) = some u) (hle : bs.length + m ≤ 100000) :
    ∃ v' w', (Builtin.append_ #[59, 59] ty #[v, .slice (some a) m c]).run Tryd.prog w = .ok v' w' ∧ RowB w' B v' (bs ++ news) ∧ Kept (fun k => B ≤ k) w w' := by
  obtain ⟨i0, hi, hz, hsz, hby⟩ := info_parts Tryd.infoU8
  obtain ⟨g, cap, cur, fz, rfl, hBg, hg, hfz, hnc, hcm, hcs, ht⟩ := h
  subst hl
  have hnl : (Lib.byteCells news).length = news.length * i0.size := by rw [Lib.byteCells_length, hsz, Nat.mul_one]
  by_cases hroom : bs.length + news.length ≤ cap
  · have hf := run_firstCells_some (P := Tryd.prog) w i0.size news.length a news.length c (Lib.byteCells news) hnl hn
    have hst := stores_behind Tryd.prog g bs.length 5 fz (Lib.byteCells news) 0 cur w hg hfz (by rw [Lib.byteCells_length]; omega) (byteCells_one news)
    simp only [Nat.add_zero, Lib.byteCells_length] at hst
    refine ⟨_, _, ?_, RowB.behind hBg hg hfz hcm hcs ht hroom, Kept.setRow (F := fun k => B ≤ k) (Kept.refl _ w) g (.inl hBg) _⟩
    rw [hsz] at hf
    simp [Builtin.append_, run_underlying Tryd.underlying59, sizeOf, typeInfo, hi, Builtin.lenOf, hroom, hf, hsz, Addr.add_mid, hst]
  · have holds : ∀ j u, (Lib.byteCells bs)[j]? = some u → w.cell? ((⟨g, 0, none⟩ : Addr).add j) = some u := fun j u hj => by
      have hjl : j < bs.length := by have := (List.getElem?_eq_some_iff.1 hj).1; rwa [Lib.byteCells_length] at this
      rw [Addr.add_mid, Nat.zero_add, cell_of_row w g j cur 5 fz hg]
      rw [← ht, List.getElem?_take, if_pos hjl] at hj
      simpa using hj
    have hr := run_append_grow (P := Tryd.prog) w 59 ty 5 i0 (.int .u8 0) Tryd.underlying59 hi hz ⟨g, 0, none⟩ bs.length cap (Lib.byteCells bs) (by rw [Lib.byteCells_length, hsz, Nat.mul_one]) holds a news.length c (Lib.byteCells news) hnl hn (by omega) (by omega) (by rw [hby]; exact growslice_fits (by omega) (by omega))
    have hge := grownCap_ge w (bs.length + news.length) cap 5
    have hcm2 : grownCap w (bs.length + news.length) cap 5 ≤ maxLen := grownCap_le_maxLen w _ cap 5 (by unfold maxLen; omega)
    refine ⟨_, _, hr, ⟨w.heap.size, _, _, (0, 0), by rw [List.length_append], hB, heap_alloc_new w.drew _, .inl rfl, by rw [List.length_append]; exact hge, hcm2, ?_, ?_⟩, ((Kept.refl _ w).drew).alloc _⟩
    · have hz1 : (Value.int IntKind.u8 0).cells.size = 1 := rfl
      simp only [Array.size_append, List.size_toArray, size_zeroCells, hz1, Lib.byteCells_length]
      omega
    · simp only [Array.toList_append]
      rw [byteCells_app]
      exact List.take_left' (by rw [List.length_append, List.length_append, Lib.byteCells_length, Lib.byteCells_length])
/-- append of a string. -/
theorem appendBs {w : World} {B : Nat} {v : Value} {bs : List UInt8} (ty : TypeId) (h : RowB w B v bs) (hB : B ≤ w.heap.size) {news : List UInt8} (hle : bs.length + news.length ≤ 100000) :
    ∃ v' w', (Builtin.append_ #[59, 9] ty #[v, .string ⟨news.toArray⟩]).run Tryd.prog w = .ok v' w' ∧ RowB w' B v' (bs ++ news) ∧ Kept (fun k => B ≤ k) w w' := by
  obtain ⟨i0, hi, hz, hsz, hby⟩ := info_parts Tryd.infoU8
  obtain ⟨g, cap, cur, fz, rfl, hBg, hg, hfz, hnc, hcm, hcs, ht⟩ := h
  have hss : (⟨news.toArray⟩ : ByteArray).size = news.length := by show news.toArray.size = _; simp
  have hsc : Lib.strCells ⟨news.toArray⟩ = Lib.byteCells news := by unfold Lib.strCells Lib.byteCells; simp
  by_cases hroom : bs.length + news.length ≤ cap
  · have hf := Lib.run_firstCells_string (P := Tryd.prog) w 1 ⟨news.toArray⟩
    have hst := stores_behind Tryd.prog g bs.length 5 fz (Lib.byteCells news) 0 cur w hg hfz (by rw [Lib.byteCells_length]; omega) (byteCells_one news)
    simp only [Nat.add_zero, Lib.byteCells_length] at hst
    rw [hsc, hss] at hf
    refine ⟨_, _, ?_, RowB.behind hBg hg hfz hcm hcs ht hroom, Kept.setRow (F := fun k => B ≤ k) (Kept.refl _ w) g (.inl hBg) _⟩
    simp [Builtin.append_, run_underlying Tryd.underlying59, run_underlying Tryd.underlying9, sizeOf, typeInfo, hi, Builtin.lenOf, hss, hroom, hf, hsz, Addr.add_mid, hst]
  · have holds : ∀ j u, (Lib.byteCells bs)[j]? = some u → w.cell? ((⟨g, 0, none⟩ : Addr).add j) = some u := fun j u hj => by
      have hjl : j < bs.length := by have := (List.getElem?_eq_some_iff.1 hj).1; rwa [Lib.byteCells_length] at this
      rw [Addr.add_mid, Nat.zero_add, cell_of_row w g j cur 5 fz hg]
      rw [← ht, List.getElem?_take, if_pos hjl] at hj
      simpa using hj
    have hr := Lib.run_append_grow_string (P := Tryd.prog) w 59 9 ty 5 i0 (.int .u8 0) Tryd.underlying59 Tryd.underlying9 hi hz ⟨g, 0, none⟩ bs.length cap (Lib.byteCells bs) (by rw [Lib.byteCells_length, hsz, Nat.mul_one]) holds ⟨news.toArray⟩ (by rw [hss]; omega) (by rw [hss]; omega) (by rw [hby, hss]; exact growslice_fits (by omega) (by omega))
    rw [hss, hsc] at hr
    have hge := grownCap_ge w (bs.length + news.length) cap 5
    have hcm2 : grownCap w (bs.length + news.length) cap 5 ≤ maxLen := grownCap_le_maxLen w _ cap 5 (by unfold maxLen; omega)
    refine ⟨_, _, hr, ⟨w.heap.size, _, _, (0, 0), by rw [List.length_append], hB, heap_alloc_new w.drew _, .inl rfl, by rw [List.length_append]; exact hge, hcm2, ?_, ?_⟩, ((Kept.refl _ w).drew).alloc _⟩
    · have hz1 : (Value.int IntKind.u8 0).cells.size = 1 := rfl
      simp only [Array.size_append, List.size_toArray, size_zeroCells, hz1, Lib.byteCells_length]
      omega
    · simp only [Array.toList_append]
      rw [byteCells_app]
      exact List.take_left' (by rw [List.length_append, List.length_append, Lib.byteCells_length, Lib.byteCells_length])
/-- append of a string at the operation, by an equation on its run. -/
theorem wpList_append_run2 {P : Program} {w : World} {ops : Array Oper} {rest : List Oper} {o : Oper} {a : Act} {Q : Exit → Act → World → Prop} (hgd : o.guard = none) (s x : Operand) (t u : TypeId)
    (ho : o.op = .call { callee := .builtin .append, args := #[s, x], argTypes := #[t, u] }) (v y : Value) (hs : a.eval s = v) (hx : a.eval x = y) {v' : Value} {w' : World}
    (hr : (Builtin.append_ #[t, u] o.type #[v, y]).run P w = .ok v' w') (h : wpList P ops Q rest (a.put o.dst v') w') : wpList P ops Q (o :: rest) a w := by
  refine wpList_plain hgd fun K hK => ?_
  unfold Oper.wp execOp
  simp only [ho, resolve, invoke, builtin, Sem.run_bind, Sem.run_pure, Result.andThen_ok, List.map_toArray, List.map_cons, List.map_nil, hs, hx, hr]
  exact hK _ _ h
end Go.Proofs.YtkffcpjaciomjaaDoor
