/- Layer cond: what it needs of terms: contracts of Right, of the program and of the reference; the law's Ref of terms; blocks known whole. -/
import Derived.Test.YtefojaeinhgeiaaUMath
import Derived.Test.YtefojaeinhgeiaaQuiet
import Derived.WalkSpells
import Derived.WalkLawsBesides
import Derived.ProofKit
import Derived.Outline
import Derived.Deep.QuietTactic
import Derived.Deep.MidRow
import Derived.Laws.Tables
import Derived.Laws.Rows
namespace Go.Proofs.Ytefojaeinhgeiaa
open Go.RowKit
set_option maxRecDepth 100000

/-- A term of the reference: 1 says that it is a variable. -/
def isV (v : Bool) : Int := if v then 1 else 0
theorem refRight_any (v : Bool) (n : Int) (w : World) :
    Calls Try.prog 29 #[.agg #[.int .i64 (isV v), .int .i64 n]] w fun e w' => e = .returned (.bool (okTm v n)) ∧ Kept Nil w w' := by
  cases v
  · show Calls Try.prog 29 #[.agg #[.int .i64 0, .int .i64 n]] w _
    cases h : okTm false n
    · have hb := okTm_sym_no h
      clear h
      rcases hb with hb | hb
      all_goals
        go_enter Try.func29, Try.ntmps29
        go_wp2
        go_ret
        first
          | exact ⟨rfl, (Kept.refl _ _).alloc _⟩
          | exact ⟨ret_bool (decide_eq_false (by omega)), (Kept.refl _ _).alloc _⟩
    · obtain ⟨l, u⟩ := okTm_sym.1 h
      clear h
      go_enter Try.func29, Try.ntmps29
      go_wp2
      go_ret
      exact ⟨rfl, (Kept.refl _ _).alloc _⟩
  · show Calls Try.prog 29 #[.agg #[.int .i64 1, .int .i64 n]] w _
    cases h : okTm true n
    · have hb := okTm_var_no h
      clear h
      rcases hb with hb | hb
      all_goals
        go_enter Try.func29, Try.ntmps29
        go_wp2
        go_ret
        first
          | exact ⟨rfl, (Kept.refl _ _).alloc _⟩
          | exact ⟨ret_bool (decide_eq_false (by omega)), (Kept.refl _ _).alloc _⟩
    · obtain ⟨l, u⟩ := okTm_var.1 h
      clear h
      go_enter Try.func29, Try.ntmps29
      go_wp2
      go_ret
      exact ⟨rfl, (Kept.refl _ _).alloc _⟩

/-- A block that holds just these cells. -/
def Blk (w : World) (g : Nat) (t : TypeId) (cs : Array Value) : Prop := w.heap[g]? = some (.cells cs t (0, 0))
section
variable {w w' : World} {g : Nat} {t : TypeId} {cs : Array Value}
theorem Blk.lt (h : Blk w g t cs) : g < w.heap.size := by
  rcases Nat.lt_or_ge g w.heap.size with hlt | hge
  · exact hlt
  · unfold Blk at h; rw [Array.getElem?_eq_none hge] at h; cases h
theorem Blk.cell (h : Blk w g t cs) (i : Nat) : w.cell? ⟨g, i, none⟩ = cs[i]? := cell_of_row w g i cs t (0, 0) h
theorem Blk.frozen (h : Blk w g t cs) (i : Nat) : w.frozen? ⟨g, i, none⟩ = false := by unfold Blk at h; simp [World.frozen?, h]
theorem Blk.new (w : World) (t : TypeId) (cs : Array Value) : Blk (w.alloc (.cells cs t)) w.heap.size t cs := heap_alloc_new w _
theorem Blk.drew (h : Blk w g t cs) : Blk w.drew g t cs := h
theorem Blk.alloc (h : Blk w g t cs) (o : Obj) : Blk (w.alloc o) g t cs := (Below.heap_alloc w o g h.lt).trans h
theorem Blk.set_ (h : Blk w g t cs) (i : Nat) (u : Value) : Blk (w.setCell ⟨g, i, none⟩ u) g t (cs.setIfInBounds i u) := by
  unfold Blk at h ⊢
  simp [World.setCell, Array.getElem?_modify, h]
theorem Blk.far (h : Blk w g t cs) {p : Addr} (hp : g ≠ p.block) (u : Value) : Blk (w.setCell p u) g t cs := (Below.heap_setCell w p u g hp).trans h
theorem Blk.kept {F : Nat → Prop} (h : Blk w g t cs) (k : Kept F w w') (hF : ¬ F g) : Blk w' g t cs := (k.block g h.lt hF).trans h
theorem Blk.row (h : Blk w g t cs) (cs' : Array Value) : Blk (w.setRow g cs') g t cs' := setRow_heap w g cs cs' t (0, 0) h
theorem Blk.row_far (h : Blk w g t cs) {g' : Nat} (hg : g ≠ g') (cs' : Array Value) : Blk (w.setRow g' cs') g t cs := (setRow_other w g' g cs' (fun e => hg e)).trans h
end
theorem Kept.setRow {F : Nat → Prop} {a w : World} (h : Kept F a w) (g : Nat) (hg : F g ∨ a.heap.size ≤ g) (cs : Array Value) : Kept F a (w.setRow g cs) :=
  ⟨h.os, h.tape, h.output, by simpa using h.size, fun k hk hF => (setRow_other w g k cs (fun e => by subst e; rcases hg with hg | hg; exact hF hg; omega)).trans (h.block k hk hF)⟩
/-- Terms, as a value; the reference's terms, as a value. -/
abbrev valL (x0 x1 x2 : Bool) (n0 n1 n2 : Int) : Value := .agg #[.bool x0, .int .i64 n0, .bool x1, .int .i64 n1, .bool x2, .int .i64 n2]
abbrev valR (i0 i1 i2 n0 n1 n2 : Int) : Value := .agg #[.int .i64 i0, .int .i64 n0, .int .i64 i1, .int .i64 n1, .int .i64 i2, .int .i64 n2]
/-- A whole row stored, the new memory under a name. -/
theorem wpList_store_rowW {P : Program} {ops : Array Oper} {rest : List Oper} {o : Oper} {a : Act} {w : World} {Q : Exit → Act → World → Prop} (hgd : o.guard = none) (ty : TypeId) (x y : Operand) (ho : o.op = .store ty x y)
    (g : Nat) (cs : Array Value) (hx : a.eval x = .pointer (some ⟨g, 0, none⟩)) (hy : a.eval y = .agg cs) (t : TypeId) (old : Array Value) (hg : Blk w g t old) (hi : (P.info? ty).map (·.size) = some cs.size) (hold : old.size = cs.size) (h1 : cs.all (·.oneCell') = true)
    (h : ∀ W, Kept (fun k => k = g) w W → Blk W g t cs → wpList P ops Q rest (a.put o.dst undef) W) : wpList P ops Q (o :: rest) a w :=
  wpList_store_row hgd ty x y ho g cs hx hy t old hg hi hold h1 (h _ (Kept.setRow (F := fun k => k = g) (Kept.refl _ w) g (Or.inl rfl) _) (hg.row _))
abbrev z6 : Array Value := #[.int .i64 0, .int .i64 0, .int .i64 0, .int .i64 0, .int .i64 0, .int .i64 0]
theorem wpList_store_refW {ops : Array Oper} {rest : List Oper} {o : Oper} {a : Act} {w : World} {Q : Exit → Act → World → Prop} (hgd : o.guard = none) (x y : Operand) (ho : o.op = .store 43 x y)
    (g : Nat) (a0 a1 a2 a3 a4 a5 : Int) (hx : a.eval x = .pointer (some ⟨g, 0, none⟩)) (hy : a.eval y = .agg #[.int .i64 a0, .int .i64 a1, .int .i64 a2, .int .i64 a3, .int .i64 a4, .int .i64 a5]) (hg : Blk w g 43 z6)
    (h : ∀ W, Kept (fun k => k = g) w W → Blk W g 43 #[.int .i64 a0, .int .i64 a1, .int .i64 a2, .int .i64 a3, .int .i64 a4, .int .i64 a5] → wpList Try.prog ops Q rest (a.put o.dst undef) W) : wpList Try.prog ops Q (o :: rest) a w :=
  wpList_store_rowW hgd _ x y ho g _ hx hy _ _ hg (by kernel_rfl) rfl (by simp [Value.oneCell']) h
structure RefW (w : World) (lc oc : Array Value) (W : World) : Prop where
  kept : Kept Nil w W
  b0 : Blk W w.heap.size 36 lc
  b1 : Blk W (w.heap.size + 1) 43 #[.int .i64 0, .int .i64 0, .int .i64 0, .int .i64 0, .int .i64 0, .int .i64 0]
  b2 : Blk W (w.heap.size + 1 + 1) 43 oc
theorem RefW.start (w : World) (lc : Array Value) : RefW w lc #[.int .i64 0, .int .i64 0, .int .i64 0, .int .i64 0, .int .i64 0, .int .i64 0] (((w.alloc (.cells lc 36)).alloc (.cells #[.int .i64 0, .int .i64 0, .int .i64 0, .int .i64 0, .int .i64 0, .int .i64 0] 43)).alloc (.cells #[.int .i64 0, .int .i64 0, .int .i64 0, .int .i64 0, .int .i64 0, .int .i64 0] 43)) := by
  refine ⟨(((Kept.refl Nil w).alloc _).alloc _).alloc _, ((Blk.new w _ _).alloc _).alloc _, ?_, ?_⟩
  · have := (Blk.new (w.alloc (.cells lc 36)) 43 #[.int .i64 0, .int .i64 0, .int .i64 0, .int .i64 0, .int .i64 0, .int .i64 0]).alloc (.cells #[.int .i64 0, .int .i64 0, .int .i64 0, .int .i64 0, .int .i64 0, .int .i64 0] 43)
    simpa using this
  · have := Blk.new ((w.alloc (.cells lc 36)).alloc (.cells #[.int .i64 0, .int .i64 0, .int .i64 0, .int .i64 0, .int .i64 0, .int .i64 0] 43)) 43 #[.int .i64 0, .int .i64 0, .int .i64 0, .int .i64 0, .int .i64 0, .int .i64 0]
    simpa using this
theorem RefW.alloc {w : World} {lc oc : Array Value} {W : World} (h : RefW w lc oc W) (o : Obj) : RefW w lc oc (W.alloc o) := ⟨h.kept.alloc o, h.b0.alloc o, h.b1.alloc o, h.b2.alloc o⟩
theorem RefW.set_ {w : World} {lc oc : Array Value} {W : World} (h : RefW w lc oc W) (i : Nat) (v : Value) : RefW w lc (oc.setIfInBounds i v) (W.setCell ⟨w.heap.size + 1 + 1, i, none⟩ v) :=
  ⟨h.kept.setCell _ (.inr (by show _ ≤ w.heap.size + 1 + 1; omega)) _, h.b0.far (by show _ ≠ w.heap.size + 1 + 1; omega) _, h.b1.far (by show _ ≠ w.heap.size + 1 + 1; omega) _, h.b2.set_ i v⟩
theorem idxL3 (x0 x1 x2 : Bool) (n0 n1 n2 : Int) : (∀ w, (Instr.index 36 (valL x0 x1 x2 n0 n1 n2) (.int .i64 0)).run Try.prog w = .ok (.agg #[.bool x0, .int .i64 n0]) w) ∧ (∀ w, (Instr.index 36 (valL x0 x1 x2 n0 n1 n2) (.int .i64 1)).run Try.prog w = .ok (.agg #[.bool x1, .int .i64 n1]) w) ∧ (∀ w, (Instr.index 36 (valL x0 x1 x2 n0 n1 n2) (.int .i64 2)).run Try.prog w = .ok (.agg #[.bool x2, .int .i64 n2]) w) :=
  ⟨fun _ => by kernel_rfl, fun _ => by kernel_rfl, fun _ => by kernel_rfl⟩

set_option maxHeartbeats 1000000 in
theorem ref_any (x0 x1 x2 : Bool) (n0 n1 n2 : Int) (w : World) :
    Calls Try.prog 22 #[valL x0 x1 x2 n0 n1 n2] w fun e w' => e = .returned (valR (isV x0) (isV x1) (isV x2) n0 n1 n2) ∧ Kept Nil w w' := by
  obtain ⟨i0, i1, i2⟩ := idxL3 x0 x1 x2 n0 n1 n2
  have A0 := Lib.hid (RefW.start w #[.bool x0, .int .i64 n0, .bool x1, .int .i64 n1, .bool x2, .int .i64 n2])
  go_enter Try.func22, Try.ntmps22
  go_wp2_with fail
  go_loopw [7] (fun i wr => (i = .int .i64 0 ∧ RefW w #[.bool x0, .int .i64 n0, .bool x1, .int .i64 n1, .bool x2, .int .i64 n2] #[.int .i64 0, .int .i64 0, .int .i64 0, .int .i64 0, .int .i64 0, .int .i64 0] wr)
    ∨ (i = .int .i64 1 ∧ RefW w #[.bool x0, .int .i64 n0, .bool x1, .int .i64 n1, .bool x2, .int .i64 n2] #[.int .i64 (isV x0), .int .i64 n0, .int .i64 0, .int .i64 0, .int .i64 0, .int .i64 0] wr)
    ∨ (i = .int .i64 2 ∧ RefW w #[.bool x0, .int .i64 n0, .bool x1, .int .i64 n1, .bool x2, .int .i64 n2] #[.int .i64 (isV x0), .int .i64 n0, .int .i64 (isV x1), .int .i64 n1, .int .i64 0, .int .i64 0] wr)
    ∨ (i = .int .i64 3 ∧ RefW w #[.bool x0, .int .i64 n0, .bool x1, .int .i64 n1, .bool x2, .int .i64 n2] #[.int .i64 (isV x0), .int .i64 n0, .int .i64 (isV x1), .int .i64 n1, .int .i64 (isV x2), .int .i64 n2] wr)) (fun i _ => (3 - intOf i).toNat)
  case atStart => exact .inl ⟨rfl, A0.out⟩
  case round =>
    rcases hrel with ⟨rfl, h⟩ | ⟨rfl, h⟩ | ⟨rfl, h⟩ | ⟨rfl, h⟩
    · have H := Lib.hid h
      have c0 := h.b2.cell 0
      have c1 := h.b2.cell 1
      have f0 := h.b2.frozen 0
      have f1 := h.b2.frozen 1
      have hl : w.heap.size + 1 + 1 < wr.heap.size := h.b2.lt
      simp at c0 c1
      clear h A0
      cases x0
      · go_wp2_with fail
        go_roundw
        case rel => exact .inr (.inl ⟨rfl, (H.out.set_ 1 _).alloc _⟩)
        case measure => decide
      · go_wp2_with fail
        go_roundw
        case rel => exact .inr (.inl ⟨rfl, ((H.out.set_ 1 _).set_ 0 _).alloc _⟩)
        case measure => decide
    · have H := Lib.hid h
      have c0 := h.b2.cell 2
      have c1 := h.b2.cell 3
      have f0 := h.b2.frozen 2
      have f1 := h.b2.frozen 3
      have hl : w.heap.size + 1 + 1 < wr.heap.size := h.b2.lt
      simp at c0 c1
      clear h A0
      cases x1
      · go_wp2_with fail
        go_roundw
        case rel => exact .inr (.inr (.inl ⟨rfl, (H.out.set_ 3 _).alloc _⟩))
        case measure => decide
      · go_wp2_with fail
        go_roundw
        case rel => exact .inr (.inr (.inl ⟨rfl, ((H.out.set_ 3 _).set_ 2 _).alloc _⟩))
        case measure => decide
    · have H := Lib.hid h
      have c0 := h.b2.cell 4
      have c1 := h.b2.cell 5
      have f0 := h.b2.frozen 4
      have f1 := h.b2.frozen 5
      have hl : w.heap.size + 1 + 1 < wr.heap.size := h.b2.lt
      simp at c0 c1
      clear h A0
      cases x2
      · go_wp2_with fail
        go_roundw
        case rel => exact .inr (.inr (.inr ⟨rfl, (H.out.set_ 5 _).alloc _⟩))
        case measure => decide
      · go_wp2_with fail
        go_roundw
        case rel => exact .inr (.inr (.inr ⟨rfl, ((H.out.set_ 5 _).set_ 4 _).alloc _⟩))
        case measure => decide
    · have H := Lib.hid h
      have c0 := h.b2.cell 0
      have c1 := h.b2.cell 1
      have c2 := h.b2.cell 2
      have c3 := h.b2.cell 3
      have c4 := h.b2.cell 4
      have c5 := h.b2.cell 5
      simp at c0 c1 c2 c3 c4 c5
      clear h A0
      go_wp2_with ((with_reducible refine wpList_store_refW rfl _ _ rfl _ _ _ _ _ _ _ rfl rfl ?_ ?_)
                   · exact H.out.b1
                   intro W kW bW
                   have KW := Lib.hid kW
                   have BW := Lib.hid bW
                   clear kW bW)
      exact bodyPost_ret (results_cell_row Try.results22 _ _ _ _ _ _ _ rfl BW.out Try.underlying43 rfl (by kernel_rfl)) rfl ⟨rfl, H.out.kept.trans KW.out (fun i hi e => by omega)⟩

/-- All three are right. -/
def fine (x0 x1 x2 : Bool) (n0 n1 n2 : Int) : Bool := okTm x0 n0 && okTm x1 n1 && okTm x2 n2
end Go.Proofs.Ytefojaeinhgeiaa
