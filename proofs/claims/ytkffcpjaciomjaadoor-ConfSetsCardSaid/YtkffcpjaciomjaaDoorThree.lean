/- A block of three cells, in a class of worlds; no program. -/
import Derived.Test.YtkffcpjaciomjaaDoorQuiet
import Derived.WalkSpells
import Derived.WalkLawsBesides
import Derived.ProofKit
import Derived.Outline
import Derived.Deep.QuietTactic
namespace Go.Proofs.YtkffcpjaciomjaaDoor
open Go.RowKit

theorem keep3 {w W w' : World} {B : Nat} {x y z : Value} (h : W.cell? ⟨B, 0, none⟩ = some x ∧ W.cell? ⟨B, 1, none⟩ = some y ∧ W.cell? ⟨B, 2, none⟩ = some z ∧ Kept Nil w W) (hk : Kept Nil W w') :
    w'.cell? ⟨B, 0, none⟩ = some x ∧ w'.cell? ⟨B, 1, none⟩ = some y ∧ w'.cell? ⟨B, 2, none⟩ = some z ∧ Kept Nil w w' := by
  obtain ⟨a, b, c, d⟩ := h
  have hl : B < W.heap.size := World.block_lt_of_cell? W _ a
  exact ⟨by rw [hk.cell hl id]; exact a, by rw [hk.cell hl id]; exact b, by rw [hk.cell hl id]; exact c, d.trans hk (fun _ _ g => g)⟩

theorem own3 (w : World) (x y z : Value) (t : TypeId) :
    (w.alloc (.cells #[x, y, z] t)).drew.cell? ⟨w.heap.size, 0, none⟩ = some x ∧ (w.alloc (.cells #[x, y, z] t)).drew.cell? ⟨w.heap.size, 1, none⟩ = some y ∧ (w.alloc (.cells #[x, y, z] t)).drew.cell? ⟨w.heap.size, 2, none⟩ = some z ∧ Kept Nil w (w.alloc (.cells #[x, y, z] t)).drew :=
  ⟨by go_simp, by go_simp, by go_simp, ((Kept.refl _ _).alloc _).drew⟩

theorem own3a (w : World) (x y z : Value) (t : TypeId) :
    (w.alloc (.cells #[x, y, z] t)).cell? ⟨w.heap.size, 0, none⟩ = some x ∧ (w.alloc (.cells #[x, y, z] t)).cell? ⟨w.heap.size, 1, none⟩ = some y ∧ (w.alloc (.cells #[x, y, z] t)).cell? ⟨w.heap.size, 2, none⟩ = some z ∧ Kept Nil w (w.alloc (.cells #[x, y, z] t)) :=
  ⟨by go_simp, by go_simp, by go_simp, (Kept.refl _ _).alloc _⟩

/-- The class of worlds in which a triple's block is as it was laid. -/
def C3 (w : World) (B : Nat) (x y z : Value) (W : World) : Prop := W.cell? ⟨B, 0, none⟩ = some x ∧ W.cell? ⟨B, 1, none⟩ = some y ∧ W.cell? ⟨B, 2, none⟩ = some z ∧ Kept Nil w W

theorem C3.drew {w : World} {B : Nat} {x y z : Value} {W : World} (h : C3 w B x y z W) : C3 w B x y z W.drew := ⟨h.1, h.2.1, h.2.2.1, h.2.2.2.drew⟩
theorem C3.step {w : World} {B : Nat} {x y z : Value} (W W' : World) (h : C3 w B x y z W) (k : Kept Nil W W') : C3 w B x y z W' := keep3 h k

end Go.Proofs.YtkffcpjaciomjaaDoor
