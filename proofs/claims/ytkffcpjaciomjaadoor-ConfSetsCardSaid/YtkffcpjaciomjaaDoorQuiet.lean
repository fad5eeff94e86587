/- A region that draws its order, whose operations read and whose callees make new memory alone: one walk, in a class of worlds that is closed under new memory. -/
import Derived.Test.YtkffcpjaciomjaaDoorFrame
import Derived.Deep.QuietTactic
import Derived.BigQuiet
namespace Go.Proofs.YtkffcpjaciomjaaDoor
open Go.RowKit

/-- The worlds of a class, as a type: what a walk names by a letter. -/
def CW (C : World → Prop) : Type := { W : World // C W }
def CW.w {C : World → Prop} (n : CW C) : World := n.1
theorem CW.of {C : World → Prop} (n : CW C) : C n.w := n.2
theorem CW.mk' {C : World → Prop} {W : World} (h : C W) : ∃ n : CW C, W = n.w := ⟨⟨W, h⟩, rfl⟩

theorem wp_region_in {P : Program} {id : Nat} {Q : Exit → Act → World → Prop} {a : Act} {w : World} {l : List Oper} (C : World → Prop) (hm : P.follows .mixedOrders = true) (hB : Region.lexB .any l.toArray = true) (hC : C w.drew)
    (h : wpQuiet P l.toArray (fun W => ∃ n : CW C, W = n.w) (fun a' => ∀ w', (∃ n : CW C, w' = n.w) → Q .normal a' w') l a) : (Code.region id l.toArray true).wp P Q a w :=
  wp_region_quiet (C := fun W => ∃ n : CW C, W = n.w) hm hB (CW.mk' hC) (by simpa using h)

/-- A callee that makes new memory alone leaves a class that is closed under that. -/
theorem call_in {P : Program} {f : FuncId} {args : Array Value} {C : World → Prop} (hC : ∀ W W', C W → Kept Nil W W' → C W') {n : CW C} {v : Value}
    (h : Calls P f args n.w fun e w' => e = .returned v ∧ Kept Nil n.w w') : Calls P f args n.w fun e w' => e = .returned v ∧ ∃ m : CW C, w' = m.w :=
  h.mono fun _ _ ⟨he, hk⟩ => ⟨he, CW.mk' (hC _ _ n.of hk)⟩
theorem call_in_same {P : Program} {f : FuncId} {args : Array Value} {C : World → Prop} {n : CW C} {v : Value}
    (h : Calls P f args n.w fun e w' => e = .returned v ∧ n.w = w') : Calls P f args n.w fun e w' => e = .returned v ∧ ∃ m : CW C, w' = m.w :=
  h.mono fun _ _ ⟨he, hk⟩ => ⟨he, n, hk.symm⟩
end Go.Proofs.YtkffcpjaciomjaaDoor
