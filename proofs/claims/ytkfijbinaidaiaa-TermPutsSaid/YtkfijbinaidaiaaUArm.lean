/- Arms for a whole binding in memory (33 cells, whatever they hold): made, loaded, stored, in a plain region and in a quiet one. -/
import Derived.Test.YtkfijbinaidaiaaURight
import Derived.Test.YtkfijbinaidaiaaQuiet
import Derived.Laws.Tables
import Derived.Laws.Rows
namespace Go.Proofs.Ytkfijbinaidaiaa
open Go.RowKit

section
variable {P : Program}
theorem wpList_alloc_zero {ops : Array Oper} {rest : List Oper} {o : Oper} {a : Act} {w : World} {Q : Exit → Act → World → Prop} (hg : o.guard = none) (t : TypeId) (ho : o.op = .alloc t) (z : Value)
    (hz : (P.info? t).map (·.zero) = some (some z)) (h : wpList P ops Q rest (a.put o.dst (.pointer (some ⟨w.heap.size, 0, none⟩))) (w.alloc (.cells z.cells t))) : wpList P ops Q (o :: rest) a w := by
  refine wpList_plain hg fun K hK => ?_
  obtain ⟨i, hi, hzi⟩ : ∃ i, P.info? t = some i ∧ i.zero = some z := by
    cases hq : P.info? t with
    | none => rw [hq] at hz; cases hz
    | some i => rw [hq] at hz; simp at hz; exact ⟨i, rfl, hz⟩
  unfold Oper.wp execOp
  simp [ho, Instr.alloc, zeroValue, typeInfo, hi, hzi, newVar, newRow]
  exact hK _ _ h

theorem quiet_load_row {ops : Array Oper} {C : World → Prop} {Q : Act → Prop} {a : Act} {o : Oper} {rest : List Oper} (hg : o.guard = none) (ty : TypeId) (x : Operand) (ho : o.op = .load ty x)
    (g : Nat) (hx : a.eval x = .pointer (some ⟨g, 0, none⟩)) (t : TypeId) (cs : Array Value) (fr : Nat × Nat) (d : TypeDesc) (hC : ∀ w, C w → w.heap[g]? = some (.cells cs t fr))
    (hu : P.underlying ty = some d) (hd : (match d with | .struct _ | .array _ _ => true | _ => false) = true) (hi : (P.info? ty).map (·.size) = some cs.size)
    (h : wpQuiet P ops C Q rest (a.put o.dst (.agg cs))) : wpQuiet P ops C Q (o :: rest) a := by
  refine BigFrame.wpQuiet_want (by simp [Region.wanted, hg]) fun K hK => ?_
  refine ⟨.agg cs, fun w hw => ?_, hK _ h⟩
  unfold Oper.quietAt execOp
  simp only [ho, hx, Instr.loadAt, Instr.sureAddr, Sem.run_bind, Sem.run_pure, Result.andThen_ok, run_loadVar_row w g t ty cs fr d (hC w hw) hu hd hi]
  exact ⟨rfl, rfl⟩
end
theorem wpList_alloc_bind {ops : Array Oper} {rest : List Oper} {o : Oper} {a : Act} {w : World} {Q : Exit → Act → World → Prop} (hg : o.guard = none) (ho : o.op = .alloc 37) (N : Nat) (hN : w.heap.size = N)
    (h : wpList Try.prog ops Q rest (a.put o.dst (.pointer (some ⟨N, 0, none⟩))) (w.alloc (.cells (cellsB zeroB) 37))) : wpList Try.prog ops Q (o :: rest) a w := by
  subst hN
  exact wpList_alloc_zero hg _ ho (valB zeroB) zeroCells h
theorem wpList_load_bind {ops : Array Oper} {rest : List Oper} {o : Oper} {a : Act} {w : World} {Q : Exit → Act → World → Prop} (hgd : o.guard = none) (x : Operand) (ho : o.op = .load 37 x)
    (g : Nat) (hx : a.eval x = .pointer (some ⟨g, 0, none⟩)) (b : Bd) (hg : Blk w g 37 (cellsB b))
    (h : wpList Try.prog ops Q rest (a.put o.dst (.agg (cellsB b))) w) : wpList Try.prog ops Q (o :: rest) a w :=
  wpList_load_row hgd _ x ho g hx _ _ _ _ hg Try.underlying37 rfl (infoB b) h
theorem wpList_store_bind {ops : Array Oper} {rest : List Oper} {o : Oper} {a : Act} {w : World} {Q : Exit → Act → World → Prop} (hgd : o.guard = none) (x y : Operand) (ho : o.op = .store 37 x y)
    (g : Nat) (b : Bd) (hx : a.eval x = .pointer (some ⟨g, 0, none⟩)) (hy : a.eval y = .agg (cellsB b)) (b' : Bd) (hg : Blk w g 37 (cellsB b'))
    (h : wpList Try.prog ops Q rest (a.put o.dst undef) (w.setRow g (cellsB b))) : wpList Try.prog ops Q (o :: rest) a w :=
  wpList_store_row hgd _ x y ho g (cellsB b) hx hy _ _ hg (infoB b) (by rw [cellsB_size, cellsB_size]) (cellsB_one b) h
/-- .. the new memory under a name. -/
theorem wpList_store_bindW {ops : Array Oper} {rest : List Oper} {o : Oper} {a : Act} {w : World} {Q : Exit → Act → World → Prop} (hgd : o.guard = none) (x y : Operand) (ho : o.op = .store 37 x y)
    (g : Nat) (b : Bd) (hx : a.eval x = .pointer (some ⟨g, 0, none⟩)) (hy : a.eval y = .agg (cellsB b)) (b' : Bd) (hg : Blk w g 37 (cellsB b'))
    (h : ∀ W, Kept (fun k => k = g) w W → Blk W g 37 (cellsB b) → wpList Try.prog ops Q rest (a.put o.dst undef) W) : wpList Try.prog ops Q (o :: rest) a w :=
  wpList_store_bind hgd x y ho g b hx hy b' hg (h _ (Kept.setRow (F := fun k => k = g) (Kept.refl _ w) g (Or.inl rfl) _) (hg.row _))
theorem quiet_load_bind {ops : Array Oper} {C : World → Prop} {Q : Act → Prop} {a : Act} {o : Oper} {rest : List Oper} (hg : o.guard = none) (x : Operand) (ho : o.op = .load 37 x)
    (g : Nat) (hx : a.eval x = .pointer (some ⟨g, 0, none⟩)) (b : Bd) (hC : ∀ w, C w → Blk w g 37 (cellsB b))
    (h : wpQuiet Try.prog ops C Q rest (a.put o.dst (.agg (cellsB b)))) : wpQuiet Try.prog ops C Q (o :: rest) a :=
  quiet_load_row hg _ x ho g hx _ _ _ _ hC Try.underlying37 rfl (infoB b) h
end Go.Proofs.Ytkfijbinaidaiaa
