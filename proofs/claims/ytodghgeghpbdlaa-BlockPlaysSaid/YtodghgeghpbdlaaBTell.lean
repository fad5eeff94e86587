/- The book-keeping of a range over a function turns nothing that cells are. No program. -/
import Derived.Test.YtodghgeghpbdlaaBRow
import Derived.Test.YtodghgeghpbdlaaLTold
import Derived.BigRegionIn
import Derived.Sort.CutIn
import Derived.OwnWalkIn
import Derived.TacticsInMore
namespace Go.Proofs.Ytodghgeghpbdlaa
open Go.RowKit
set_option maxRecDepth 100000

theorem kept_of_row {W W' : World} {row : Option Nat} (hg : W.grownBy W' row) : Kept (fun k => row = some k) W W' := ⟨hg.os, hg.tape, hg.output, hg.size, fun k hk hF => hg.block k hk (fun e => hF e.symm)⟩
theorem not_row {B0 : Nat} {W : World} {row : Option Nat} (hr : ∀ r, row = some r → B0 ≤ r ∧ ∃ o : Obj, W.heap[r]? = some o ∧ o.isCells = false) {b : Nat} {cs : Array Value} {t : TypeId} {fr : Nat × Nat} (hb : W.heap[b]? = some (.cells cs t fr)) : ¬ row = some b := by
  intro e
  obtain ⟨_, o, ho, hc⟩ := hr b e
  rw [hb] at ho
  cases ho; cases hc
/-- A block of another type is none of a row's. -/
theorem Row.notOwn {α : Type} {cells : α → List Value} {e : TypeId} {size : Nat} {w : World} {B : Nat} {l : List α} {v : Value} (h : Row cells e size w B v l) {b : Nat} {cs : Array Value} {t : TypeId} (hb : Blk w b t cs) (ht : t ≠ e) : ¬ v.ownBlock = some b := by
  intro eb
  obtain ⟨cur, hc⟩ := h.block eb
  unfold Blk at hb
  rw [hc] at hb
  cases hb
  exact ht rfl
theorem keptUp {B B' : Nat} {W W' : World} (h : B ≤ B') (k : KeepsFrom B W W') : KeepsFrom B' W W' := ⟨k.size, fun j o hj => k.same j o (Nat.le_trans h hj)⟩
/-- A world that is another one but for new blocks, and blocks of cells, keeps all other objects. -/
theorem Kept.keepsC {B : Nat} {F : Nat → Prop} {W W' : World} (k : Kept F W W') (hF : ∀ b, F b → ∃ cs t f, W.heap[b]? = some (.cells cs t f)) : KeepsFrom B W W' :=
  ⟨k.size, fun j o _ ho hc => (k.block j (Array.getElem?_eq_some_iff.1 ho).1 (fun hf => by
    obtain ⟨cs, t, f, e⟩ := hF j hf
    rw [e] at ho
    cases ho; cases hc)).trans ho⟩
theorem Kept.keepsN {B : Nat} {W W' : World} (k : Kept Nil W W') : KeepsFrom B W W' := k.keepsC (fun _ e => e.elim)
/-- An append, by an equation on its run. -/
theorem wpListIn_append_runB {F : Fence} {n : Nat} {P : Program} {w : World} {ops : Array Oper} {rest : List Oper} {o : Oper} {a : Act} {Q : Exit → Act → World → Prop} (hgd : o.guard = none) (s x : Operand) (t : TypeId)
    (ho : o.op = .call { callee := .builtin .append, args := #[s, x], argTypes := #[t, t] }) (v y : Value) (hs : a.eval s = v) (hx : a.eval x = y) {v' : Value} {w' : World}
    (hr : (Builtin.append_ #[t, t] o.type #[v, y]).run P w = .ok v' w') (h : wpListIn F n P ops Q rest (a.put o.dst v') w') : wpListIn F n P ops Q (o :: rest) a w := by
  refine wpListIn_plain hgd fun K hK => ?_
  unfold Oper.wpIn
  refine ⟨by simp [Oper.about, ho, resolve, Target.leads, Sem.run_pure], ?_⟩
  rw [Oper.semAt_plain F _ _ (by rw [ho]; intro c hc'; cases hc')]
  simp [execOp, ho, resolve, invoke, builtin, hs, hx, hr, Result.andThen]
  exact hK _ _ h
end Go.Proofs.Ytodghgeghpbdlaa
