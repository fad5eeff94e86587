/- A map from handles to places: how its elements read; its datum; no program. -/
import Derived.Test.YtodghgeghpbdlaaFrame
import Derived.Test.YtodghgeghpbdlaaBlk
import Derived.Test.YtodghgeghpbdlaaLMath
import Derived.Maps.OwnSet
namespace Go.Proofs.Ytodghgeghpbdlaa
open Go.RowKit Go.Maps

/-- How a pointer to a block's beginning reads: as the block's number. -/
def ptrE : Value → Option (DataW Unit × List MemPlace)
  | .pointer none => some (.nil, [])
  | .pointer (some ⟨q, 0, none⟩) => some (.lit (.int .i64 q), [])
  | _ => none
theorem ptrE_nil : ptrE (.pointer none) = some (.nil, []) := rfl
theorem ptrE_mk (q : Nat) : ptrE (.pointer (some ⟨q, 0, none⟩)) = some (.lit (.int .i64 q), []) := rfl
theorem ptrE_inv_nil {v : Value} {ps : List MemPlace} (h : ptrE v = some (.nil, ps)) : v = .pointer none := by
  unfold ptrE at h
  split at h
  · rfl
  · simp at h
  · cases h
theorem ptrE_inv {v : Value} {q : Nat} {ps : List MemPlace} (h : ptrE v = some (.lit (.int .i64 q), ps)) : v = .pointer (some ⟨q, 0, none⟩) := by
  unfold ptrE at h
  split at h
  · simp at h
  · simp at h; have := h.1; congr 3; omega
  · cases h

/-- The datum of a list's map: each handle of the row with the place of its block. -/
structure MapOf (D : DataW Unit) (row : List Nat) (g : Nat → Nat) : Prop where
  tidy : Tidy D
  size : Maps.size D = row.length
  has : ∀ k : Int, Maps.has D (.int .i64 k) = decide (∃ h ∈ row, (h : Int) = k)
  get : ∀ h ∈ row, D.atKey (.int .i64 (h : Int)) .nil = .lit (.int .i64 (g h))
theorem MapOf.nil (g : Nat → Nat) : MapOf (.map []) [] g := ⟨tidy_empty, rfl, fun _ => by simp [Maps.has], by simp⟩
theorem MapOf.there {D : DataW Unit} {row : List Nat} {g : Nat → Nat} (h : MapOf D row g) {x : Nat} (hx : x ∈ row) : Maps.has D (.int .i64 (x : Int)) = true := by
  rw [h.has]; exact decide_eq_true ⟨x, hx, rfl⟩
theorem MapOf.gone {D : DataW Unit} {row : List Nat} {g : Nat → Nat} (h : MapOf D row g) {k : Int} (hk : ∀ x ∈ row, (x : Int) ≠ k) : Maps.has D (.int .i64 k) = false := by
  rw [h.has]; exact decide_eq_false (fun ⟨x, hx, e⟩ => hk x hx e)
theorem int_ne {a b : Int} (h : a ≠ b) : Lit.int .i64 a ≠ .int .i64 b := fun e => h (by simpa using e)
theorem MapOf.put {D : DataW Unit} {row : List Nat} {g : Nat → Nat} (h : MapOf D row g) {n h0 : Nat} (hn : n ∉ row) (q : Nat) :
    MapOf (D.put (.int .i64 (n : Int)) (.lit (.int .i64 (q : Int)))) (ins row h0 n) (fun x => if x = n then q else g x) := by
  have hno : Maps.has D (.int .i64 (n : Int)) = false := h.gone (fun x hx e => hn (by
    have : x = n := by omega
    rw [← this]; exact hx))
  refine ⟨h.tidy.put (by trivial) _, ?_, fun k => ?_, fun x hx => ?_⟩
  · rw [size_put h.tidy, hno, length_ins, h.size]; rfl
  · by_cases e : k = (n : Int)
    · subst e
      rw [has_put_same h.tidy.isMap (by trivial)]
      exact (decide_eq_true ⟨n, mem_ins.2 (.inl rfl), rfl⟩).symm
    · rw [has_put_other (int_ne e), h.has]
      congr 1
      refine propext ⟨fun ⟨x, hx, e'⟩ => ⟨x, mem_ins.2 (.inr hx), e'⟩, fun ⟨x, hx, e'⟩ => ?_⟩
      rcases mem_ins.1 hx with e2 | e2
      · subst e2; exact absurd e'.symm e
      · exact ⟨x, e2, e'⟩
  · by_cases e : x = n
    · subst e
      rw [atKey_put_same h.tidy.isMap (by trivial), if_pos rfl]
    · rw [atKey_put_other (int_ne (by omega)), if_neg e]
      rcases mem_ins.1 hx with e2 | e2
      · exact absurd e2 e
      · exact h.get x e2
theorem MapOf.del {D : DataW Unit} {row : List Nat} {g : Nat → Nat} (h : MapOf D row g) {x : Nat} (hr : row.Nodup) (hx : x ∈ row) : MapOf (D.del (.int .i64 (x : Int))) (rm row x) g := by
  refine ⟨h.tidy.del _, ?_, fun k => ?_, fun y hy => ?_⟩
  · have h1 := size_del h.tidy (k := .int .i64 (x : Int))
    rw [h.there hx, h.size, if_pos rfl] at h1
    have := length_rm hr hx
    omega
  · by_cases e : k = (x : Int)
    · subst e
      rw [has_del_same]
      refine (decide_eq_false ?_).symm
      rintro ⟨y, hy, e⟩
      exact (mem_rm.1 hy).2 (by omega)
    · rw [has_del_other (int_ne e), h.has]
      congr 1
      refine propext ⟨fun ⟨y, hy, e'⟩ => ⟨y, mem_rm.2 ⟨hy, fun e2 => e (by rw [← e', e2])⟩, e'⟩, fun ⟨y, hy, e'⟩ => ⟨y, (mem_rm.1 hy).1, e'⟩⟩
  · have := mem_rm.1 hy
    rw [atKey_del_other (int_ne (by omega))]
    exact h.get y this.1
theorem wf_i64 {a : Int} (h : -9223372036854775808 ≤ a ∧ a ≤ 9223372036854775807) : (Lit.int .i64 a).wf = true := WalkArith.wf_i64 h
theorem endsRule0 (a b : Int) (W : World) : (Instr.field 183 (.agg #[.int .i64 a, .int .i64 b]) 0).run Try.prog W = .ok (.int .i64 a) W := by
  simp [Instr.field, run_underlying Try.underlying183, part, isAgg, run_underlying Try.underlying3, asAgg]
theorem endsRule1 (a b : Int) (W : World) : (Instr.field 183 (.agg #[.int .i64 a, .int .i64 b]) 1).run Try.prog W = .ok (.int .i64 b) W := by
  simp [Instr.field, run_underlying Try.underlying183, part, isAgg, run_underlying Try.underlying3, asAgg]
theorem Blk.set_if {w : World} {g : Nat} {t : TypeId} {cs : Array Value} (h : Blk w g t cs) (e i : Nat) (u : Value) : Blk (w.setCell ⟨e, i, none⟩ u) g t (if e = g then cs.setIfInBounds i u else cs) := by
  split
  · rename_i e; subst e; exact h.set_ i u
  · rename_i hne; exact h.far (fun e => hne e.symm) u
/-- Where the ends of a handle are, or the list's own (0). -/
def eb (p : Nat) (g : Nat → Nat) (x : Nat) : Nat := if x = 0 then p else g x
def eo (x : Nat) : Nat := if x = 0 then 1 else 0
/-- A block of at least so many cells. -/
def Live (w : World) (b n : Nat) : Prop := ∃ t cs, Blk w b t cs ∧ n ≤ cs.size
theorem Live.set {w : World} {b n : Nat} (h : Live w b n) (e i : Nat) (u : Value) : Live (w.setCell ⟨e, i, none⟩ u) b n := by
  obtain ⟨t, cs, hb, hs⟩ := h
  exact ⟨t, _, hb.set_if e i u, by split <;> simpa using hs⟩
theorem Live.alloc {w : World} {b n : Nat} (h : Live w b n) (o : Obj) : Live (w.alloc o) b n := by
  obtain ⟨t, cs, hb, hs⟩ := h
  exact ⟨t, _, hb.alloc o, hs⟩
theorem Live.grown {w w' : World} {b n bm : Nat} (h : Live w b n) (hg : w.grownBy w' (some bm)) (hne : b ≠ bm) : Live w' b n := by
  obtain ⟨t, cs, hb, hs⟩ := h
  exact ⟨t, cs, (hg.block b hb.lt (by simpa using hne)).trans hb, hs⟩
theorem Live.kept {F : Nat → Prop} {w w' : World} {b n : Nat} (h : Live w b n) (hk : Kept F w w') (hF : ¬ F b) : Live w' b n := by
  obtain ⟨t, cs, hb, hs⟩ := h
  exact ⟨t, cs, hb.kept hk hF, hs⟩
theorem Live.at {w : World} {b n : Nat} (h : Live w b n) (i : Nat) (hi : i < n) : ∃ v, w.cell? ⟨b, i, none⟩ = some v := by
  obtain ⟨t, cs, hb, hs⟩ := h
  exact ⟨cs[i]'(by omega), by rw [hb.cell i]; exact Array.getElem?_eq_getElem _⟩
theorem Live.free {w : World} {b n : Nat} (h : Live w b n) (i : Nat) : w.frozen? ⟨b, i, none⟩ = false := by
  obtain ⟨t, cs, hb, hs⟩ := h
  exact hb.frozen i
theorem Live.lt {w : World} {b n : Nat} (h : Live w b n) : b < w.heap.size := by
  obtain ⟨t, cs, hb, hs⟩ := h
  exact hb.lt
theorem setCell_alloc (w : World) (o : Obj) (a : Addr) (u : Value) (h : a.block < w.heap.size) : (w.alloc o).setCell a u = (w.setCell a u).alloc o := by
  have e : (w.alloc o).heap = w.heap.push o := rfl
  have e2 : ((w.setCell a u).alloc o).heap = (w.setCell a u).heap.push o := rfl
  have hh : ((w.alloc o).setCell a u).heap = ((w.setCell a u).alloc o).heap := by
    rw [e2]
    unfold World.setCell
    simp only [e]
    apply Array.ext_getElem?
    intro j
    rw [Array.getElem?_modify, Array.getElem?_push, Array.getElem?_push]
    simp only [Array.size_modify]
    split
    · rename_i hj
      subst hj
      rw [if_neg (by omega), if_neg (by omega), Array.getElem?_modify, if_pos rfl]
    · split
      · rfl
      · rw [Array.getElem?_modify, if_neg (by assumption)]
  show { (w.alloc o) with heap := ((w.alloc o).setCell a u).heap } = { (w.setCell a u) with heap := ((w.setCell a u).alloc o).heap }
  rw [hh]; rfl
/-- Two results: a row in a cell, and a slot. -/
theorem results_rowtmp {P : Program} {fn : Func} {p r : Tmp} {ty : TypeId} (h : fn.results = #[.cell p ty, .tmp r]) (tmps : Array Value) (w : World) (g : Nat) (t : TypeId) (cs : Array Value) (fr : Nat × Nat) (d : TypeDesc)
    (hp : tmps.getD p undef = .pointer (some ⟨g, 0, none⟩)) (hg : w.heap[g]? = some (.cells cs t fr))
    (hu : P.underlying ty = some d) (hd : (match d with | .struct _ | .array _ _ => true | _ => false) = true) (hi : (P.info? ty).map (·.size) = some cs.size) :
    (results fn tmps).run P w = .ok (.tuple #[.agg cs, tmps.getD r undef]) w := by
  have hp' : tmps[p]?.getD undef = .pointer (some ⟨g, 0, none⟩) := by simpa using hp
  simp [results, h, hp', asAddr, run_loadVar_row w g t ty cs fr d hg hu hd hi]
end Go.Proofs.Ytodghgeghpbdlaa
