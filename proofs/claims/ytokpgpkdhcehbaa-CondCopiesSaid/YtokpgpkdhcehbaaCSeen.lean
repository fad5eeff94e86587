/- Layer cond: what is read in a region of a law that reads two boxed conditions. -/
import Derived.Test.YtokpgpkdhcehbaaCSpoil
import Derived.Test.YtokpgpkdhcehbaaCSmall
namespace Go.Proofs.Ytokpgpkdhcehbaa
open Go.RowKit

abbrev SeenAA (w0 : World) (B : Nat) (h : Hd) (v : Value) (B' : Nat) (h' : Hd) (v' : Value) (w' : World) : Prop :=
  w'.cell? ⟨B, 0, none⟩ = some (.int .i64 h.k) ∧ w'.cell? ⟨B, 1, none⟩ = some (.bool h.x0) ∧ w'.cell? ⟨B, 2, none⟩ = some (.int .i64 h.n0) ∧ w'.cell? ⟨B, 3, none⟩ = some (.bool h.x1) ∧ w'.cell? ⟨B, 4, none⟩ = some (.int .i64 h.n1) ∧ w'.cell? ⟨B, 5, none⟩ = some (.bool h.x2) ∧ w'.cell? ⟨B, 6, none⟩ = some (.int .i64 h.n2) ∧ w'.cell? ⟨B, 7, none⟩ = some (v) ∧
  w'.cell? ⟨B', 0, none⟩ = some (.int .i64 h'.k) ∧ w'.cell? ⟨B', 1, none⟩ = some (.bool h'.x0) ∧ w'.cell? ⟨B', 2, none⟩ = some (.int .i64 h'.n0) ∧ w'.cell? ⟨B', 3, none⟩ = some (.bool h'.x1) ∧ w'.cell? ⟨B', 4, none⟩ = some (.int .i64 h'.n1) ∧ w'.cell? ⟨B', 5, none⟩ = some (.bool h'.x2) ∧ w'.cell? ⟨B', 6, none⟩ = some (.int .i64 h'.n2) ∧ w'.cell? ⟨B', 7, none⟩ = some (v') ∧ Kept Nil w0 w'
theorem seenAA_of {w0 w : World} {B : Nat} {h : Hd} {v : Value} {B' : Nat} {h' : Hd} {v' : Value} (b : Blk w B 27 (arrA h v)) (b' : Blk w B' 27 (arrA h' v')) (k : Kept Nil w0 w) : SeenAA w0 B h v B' h' v' w :=
  ⟨b.cell 0, b.cell 1, b.cell 2, b.cell 3, b.cell 4, b.cell 5, b.cell 6, b.cell 7, b'.cell 0, b'.cell 1, b'.cell 2, b'.cell 3, b'.cell 4, b'.cell 5, b'.cell 6, b'.cell 7, k⟩
theorem seenAA_kept {w0 w w' : World} {B : Nat} {h : Hd} {v : Value} {B' : Nat} {h' : Hd} {v' : Value} (k : Kept Nil w w') (hh : SeenAA w0 B h v B' h' v' w) : SeenAA w0 B h v B' h' v' w' := by
  obtain ⟨g0, g1, g2, g3, g4, g5, g6, g7, g8, g9, g10, g11, g12, g13, g14, g15, kk⟩ := hh
  exact ⟨k.cellOf g0, k.cellOf g1, k.cellOf g2, k.cellOf g3, k.cellOf g4, k.cellOf g5, k.cellOf g6, k.cellOf g7, k.cellOf g8, k.cellOf g9, k.cellOf g10, k.cellOf g11, k.cellOf g12, k.cellOf g13, k.cellOf g14, k.cellOf g15, kk.trans k (fun _ _ g => g)⟩
theorem seenAA_k {w0 w : World} {B : Nat} {h : Hd} {v : Value} {B' : Nat} {h' : Hd} {v' : Value} (hh : SeenAA w0 B h v B' h' v' w) : Kept Nil w0 w := by
  obtain ⟨g0, g1, g2, g3, g4, g5, g6, g7, g8, g9, g10, g11, g12, g13, g14, g15, kk⟩ := hh
  exact kk
abbrev SeenAR (w0 : World) (B : Nat) (h : Hd) (v : Value) (B' : Nat) (h' : Hd) (v' : Value) (w' : World) : Prop :=
  w'.cell? ⟨B, 0, none⟩ = some (.int .i64 h.k) ∧ w'.cell? ⟨B, 1, none⟩ = some (.bool h.x0) ∧ w'.cell? ⟨B, 2, none⟩ = some (.int .i64 h.n0) ∧ w'.cell? ⟨B, 3, none⟩ = some (.bool h.x1) ∧ w'.cell? ⟨B, 4, none⟩ = some (.int .i64 h.n1) ∧ w'.cell? ⟨B, 5, none⟩ = some (.bool h.x2) ∧ w'.cell? ⟨B, 6, none⟩ = some (.int .i64 h.n2) ∧ w'.cell? ⟨B, 7, none⟩ = some (v) ∧
  w'.cell? ⟨B', 0, none⟩ = some (.int .i64 h'.k) ∧ w'.cell? ⟨B', 1, none⟩ = some (.int .i64 (isV h'.x0)) ∧ w'.cell? ⟨B', 2, none⟩ = some (.int .i64 h'.n0) ∧ w'.cell? ⟨B', 3, none⟩ = some (.int .i64 (isV h'.x1)) ∧ w'.cell? ⟨B', 4, none⟩ = some (.int .i64 h'.n1) ∧ w'.cell? ⟨B', 5, none⟩ = some (.int .i64 (isV h'.x2)) ∧ w'.cell? ⟨B', 6, none⟩ = some (.int .i64 h'.n2) ∧ w'.cell? ⟨B', 7, none⟩ = some (v') ∧ Kept Nil w0 w'
theorem seenAR_of {w0 w : World} {B : Nat} {h : Hd} {v : Value} {B' : Nat} {h' : Hd} {v' : Value} (b : Blk w B 27 (arrA h v)) (b' : Blk w B' 38 (arrR h' v')) (k : Kept Nil w0 w) : SeenAR w0 B h v B' h' v' w :=
  ⟨b.cell 0, b.cell 1, b.cell 2, b.cell 3, b.cell 4, b.cell 5, b.cell 6, b.cell 7, b'.cell 0, b'.cell 1, b'.cell 2, b'.cell 3, b'.cell 4, b'.cell 5, b'.cell 6, b'.cell 7, k⟩
theorem seenAR_kept {w0 w w' : World} {B : Nat} {h : Hd} {v : Value} {B' : Nat} {h' : Hd} {v' : Value} (k : Kept Nil w w') (hh : SeenAR w0 B h v B' h' v' w) : SeenAR w0 B h v B' h' v' w' := by
  obtain ⟨g0, g1, g2, g3, g4, g5, g6, g7, g8, g9, g10, g11, g12, g13, g14, g15, kk⟩ := hh
  exact ⟨k.cellOf g0, k.cellOf g1, k.cellOf g2, k.cellOf g3, k.cellOf g4, k.cellOf g5, k.cellOf g6, k.cellOf g7, k.cellOf g8, k.cellOf g9, k.cellOf g10, k.cellOf g11, k.cellOf g12, k.cellOf g13, k.cellOf g14, k.cellOf g15, kk.trans k (fun _ _ g => g)⟩
theorem seenAR_k {w0 w : World} {B : Nat} {h : Hd} {v : Value} {B' : Nat} {h' : Hd} {v' : Value} (hh : SeenAR w0 B h v B' h' v' w) : Kept Nil w0 w := by
  obtain ⟨g0, g1, g2, g3, g4, g5, g6, g7, g8, g9, g10, g11, g12, g13, g14, g15, kk⟩ := hh
  exact kk
end Go.Proofs.Ytokpgpkdhcehbaa
