/- The parts of a text, and the numbers that are read of them, one by one; no program. -/
import Derived.Test.YtjknibgbbhiooaaDoorTEnv
import Derived.Test.YtjknibgbbhiooaaDoorThree
import Derived.OneCell
namespace Go.Proofs.YtjknibgbbhiooaaDoor
open Go.RowKit

theorem str_eq {x s : ByteArray} (h : x = s) : (x.toList == s.toList) = true := by rw [h]; exact beq_self_eq_true _
theorem str_ne {x s : ByteArray} (h : x ≠ s) : (x.toList == s.toList) = false := by
  rw [beq_eq_false_iff_ne, ByteArray.toList_eq, ByteArray.toList_eq]
  exact fun e => h (ByteArray.ext (Array.toList_inj.1 e))

/-- The number of a text's part. -/
def fldP (s : ByteArray) (j : Nat) : Int := match (parts s)[j]? with
  | some p => fld p.data.toList
  | none => 0
/-- .. as far as k parts are read. -/
def fv (s : ByteArray) (j k : Nat) : Int := if j < k then fldP s j else 0
theorem splitK_size : ∀ (k : Nat) (l x : List UInt8), x ∈ Lib.splitK [32] 0 k l → x.length ≤ l.length
  | 0, l, x, h => by unfold Lib.splitK at h; rw [List.mem_singleton] at h; rw [h]; exact Nat.le_refl _
  | k + 1, l, x, h => by
    unfold Lib.splitK at h
    split at h
    · rw [List.mem_singleton] at h; rw [h]; exact Nat.le_refl _
    · rw [List.mem_cons] at h
      rcases h with h | h
      · rw [h]; exact List.length_take_le' ..
      · exact Nat.le_trans (splitK_size k _ x h) (by simp)
theorem parts_size {s p : ByteArray} {k : Nat} (h : (parts s)[k]? = some p) : p.size ≤ s.size := by
  have hm : p.data.toList ∈ (parts s).map (·.data.toList) := List.mem_map_of_mem (List.mem_of_getElem? h)
  rw [parts_list] at hm
  have := splitK_size _ _ _ hm
  rw [Array.length_toList, Array.length_toList] at this
  exact this
theorem fv_not {s : ByteArray} {j k : Nat} (h : k ≤ j) : fv s j k = 0 := by unfold fv; rw [if_neg (by omega)]
theorem fv_new {s : ByteArray} {k : Nat} {p : ByteArray} (h : (parts s)[k]? = some p) : fv s k (k + 1) = fld p.data.toList := by unfold fv fldP; rw [if_pos (by omega), h]
theorem fv_old {s : ByteArray} {j k : Nat} (h : j ≠ k) : fv s j (k + 1) = fv s j k := by
  unfold fv
  by_cases e : j < k
  · rw [if_pos e, if_pos (by omega)]
  · rw [if_neg e, if_neg (by omega)]
theorem fv_all {s : ByteArray} {j : Nat} : fv s j (parts s).length = fldP s j := by
  unfold fv fldP
  by_cases e : j < (parts s).length
  · rw [if_pos e]
  · rw [if_neg e, List.getElem?_eq_none (by omega)]
/-- The triple that is read. -/
def raw (s : ByteArray) : T3 := (fldP s 0, fldP s 1, fldP s 2)
theorem raw_list (s : ByteArray) : rawL (partsL s.data.toList) = raw s := by
  rw [← parts_list]
  unfold rawL raw fldP
  simp only [List.getElem?_map]
  cases (parts s)[0]? <;> cases (parts s)[1]? <;> cases (parts s)[2]? <;> rfl
structure PSt (w : World) (s : ByteArray) (k : Nat) (W : World) : Prop where
  kept : Kept Nil w W
  res : W.heap[w.heap.size]? = some (.cells #[.int .i64 0, .int .i64 0, .int .i64 0] 23 (0, 0))
  var : W.heap[w.heap.size + 1]? = some (.cells #[.int .i64 (fv s 0 k), .int .i64 (fv s 1 k), .int .i64 (fv s 2 k)] 23 (0, 0))
  part : ∀ i p, (parts s)[i]? = some p → W.cell? ⟨w.heap.size + 2, i, none⟩ = some (.string p)

theorem PSt.call {w W W' : World} {s : ByteArray} {k : Nat} (h : PSt w s k W) (hk : Kept Nil W W') : PSt w s k W' :=
  ⟨h.kept.trans hk (fun _ _ g => g), by rw [hk.block _ (lt_of_block h.res) id]; exact h.res, by rw [hk.block _ (lt_of_block h.var) id]; exact h.var,
    fun i p hp => by rw [hk.cell (World.block_lt_of_cell? W _ (h.part i p hp)) id]; exact h.part i p hp⟩
theorem PSt.put {w W : World} {s : ByteArray} {k : Nat} (h : PSt w s k W) {p : ByteArray} (hp : (parts s)[k]? = some p) :
    PSt w s (k + 1) (W.setCell ⟨w.heap.size + 1, k, none⟩ (.int .i64 (fld p.data.toList))) := by
  have hl := (List.getElem?_eq_some_iff.1 hp).1
  have h3 := parts_len s
  refine ⟨h.kept.setCell _ (.inr (Nat.le_succ _)) _, ?_, ?_, fun i q hq => ?_⟩
  · rw [Below.heap_setCell _ _ _ _ (by simp)]; exact h.res
  · have hb := lt_of_block h.var
    have h' := h.var
    rw [Array.getElem?_eq_getElem hb] at h'
    show (W.heap.modify (w.heap.size + 1) _)[w.heap.size + 1]? = _
    rw [Array.getElem?_eq_getElem (by simpa using hb), Array.getElem_modify_self, Option.some.inj h']
    have e : k = 0 ∨ k = 1 ∨ k = 2 := by omega
    rcases e with rfl | rfl | rfl
    · have q0 : fv s 0 (0 + 1) = fld p.data.toList := fv_new hp
      have q1 : fv s 1 (0 + 1) = fv s 1 0 := fv_old (by omega)
      have q2 : fv s 2 (0 + 1) = fv s 2 0 := fv_old (by omega)
      rw [q0, q1, q2]; rfl
    · have q0 : fv s 0 (1 + 1) = fv s 0 1 := fv_old (by omega)
      have q1 : fv s 1 (1 + 1) = fld p.data.toList := fv_new hp
      have q2 : fv s 2 (1 + 1) = fv s 2 1 := fv_old (by omega)
      rw [q0, q1, q2]; rfl
    · have q0 : fv s 0 (2 + 1) = fv s 0 2 := fv_old (by omega)
      have q1 : fv s 1 (2 + 1) = fv s 1 2 := fv_old (by omega)
      have q2 : fv s 2 (2 + 1) = fld p.data.toList := fv_new hp
      rw [q0, q1, q2]; rfl
  · rw [World.cell?_of_block (Below.heap_setCell _ _ _ _ (by simp))]; exact h.part i q hq
theorem PSt.facts {w W : World} {s : ByteArray} {k : Nat} (h : PSt w s k W) (hk : k < (parts s).length) :
    W.cell? ⟨w.heap.size + 1, k, none⟩ = some (.int .i64 0) ∧ W.frozen? ⟨w.heap.size + 1, k, none⟩ = false := by
  have h3 := parts_len s
  have e : k = 0 ∨ k = 1 ∨ k = 2 := by omega
  have hv := h.var
  rcases e with rfl | rfl | rfl
  all_goals
    rw [fv_not (j := 2) (by omega)] at hv
    try rw [fv_not (j := 1) (by omega)] at hv
    try rw [fv_not (j := 0) (by omega)] at hv
    exact ⟨by simp [World.cell?, hv], by simp [World.frozen?, hv]⟩

/-- The cells of the result and of the variable, and that the result's may be written. -/
def PCells (w : World) (x y z : Int) (W : World) : Prop :=
  W.cell? ⟨w.heap.size, 0, none⟩ = some (.int .i64 0) ∧ W.cell? ⟨w.heap.size, 1, none⟩ = some (.int .i64 0) ∧ W.cell? ⟨w.heap.size, 2, none⟩ = some (.int .i64 0) ∧
  W.cell? ⟨w.heap.size + 1, 0, none⟩ = some (.int .i64 x) ∧ W.cell? ⟨w.heap.size + 1, 1, none⟩ = some (.int .i64 y) ∧ W.cell? ⟨w.heap.size + 1, 2, none⟩ = some (.int .i64 z) ∧
  W.frozen? ⟨w.heap.size, 0, none⟩ = false ∧ W.frozen? ⟨w.heap.size, 1, none⟩ = false ∧ W.frozen? ⟨w.heap.size, 2, none⟩ = false
theorem PSt.vals {w W : World} {s : ByteArray} (h : PSt w s (parts s).length W) : PCells w (fldP s 0) (fldP s 1) (fldP s 2) W := by
  have hv := h.var
  have hr := h.res
  rw [fv_all, fv_all, fv_all] at hv
  refine ⟨?_, ?_, ?_, ?_, ?_, ?_, ?_, ?_, ?_⟩
  all_goals first | (simp [World.cell?, hr]; done) | (simp [World.cell?, hv]; done) | (simp [World.frozen?, hr]; done)
theorem PSt.vals3 {w W : World} {s : ByteArray} {x y z : Int} (h : PSt w s (parts s).length W) (e : raw s = (x, y, z)) : PCells w x y z W := by
  have := h.vals
  have e' : (fldP s 0, fldP s 1, fldP s 2) = (x, y, z) := e
  simp only [Prod.mk.injEq] at e'
  obtain ⟨e1, e2, e3⟩ := e'
  rw [e1, e2, e3] at this
  exact this

end Go.Proofs.YtjknibgbbhiooaaDoor
