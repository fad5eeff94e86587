/- A list of names in a row of the call's own; append of one more. -/
import Derived.Test.YtkffcpjaciomjaaDoorEls
import Derived.OwnWalk
import Derived.WalkSpells
import Derived.BigRegion
namespace Go.Proofs.YtkffcpjaciomjaaDoor
open Go.RowKit

theorem Tryd.infoStr : (Tryd.prog.info? 9).map (fun i => (i.zero, i.size, i.bytes)) = some (some (.string .empty), 1, 16) := by kernel_rfl
theorem ownName {w : World} {B : Nat} {sv : Value} {l : List ByteArray} (h : w.ownsRow B 9 1 sv l.length (l.map .string)) {i : Nat} {s : ByteArray} (hi : l[i]? = some s) :
    ∃ g cap, sv = .slice (some ⟨g, 0, none⟩) l.length cap ∧ w.cell? ⟨g, i, none⟩ = some (.string s) := by
  rcases h.2 with ⟨_, e0⟩ | ⟨g, cap, cur, e, _, hg, hl, _, hs, ht⟩
  · rw [List.length_eq_zero_iff.1 e0] at hi; cases hi
  · refine ⟨g, cap, e, ?_⟩
    have := h.cells (g := g) (by rw [e]; rfl) i (.string s) (by simp [hi])
    rw [show (⟨g, 0, none⟩ : Addr).add i = ⟨g, i, none⟩ from by unfold Addr.add; split <;> simp_all] at this
    exact this

def SRow (w : World) (B : Nat) (v : Value) (l : List ByteArray) : Prop := w.ownsRow B 9 1 v l.length (l.map .string)
theorem SRow.shape {w : World} {B : Nat} {v : Value} {l : List ByteArray} (h : SRow w B v l) : ∃ a cap, v = .slice a l.length cap := by
  rcases h.2 with ⟨e, e0⟩ | ⟨g, cap, cur, e, _⟩
  · exact ⟨none, 0, by rw [e, e0]⟩
  · exact ⟨_, _, e⟩

theorem append_one (w : World) {B : Nat} {v : Value} {l : List ByteArray} (h : SRow w B v l) (hB : B ≤ w.heap.size) (hl : l.length ≤ 5000) (s : ByteArray) :
    ∃ a cap w', (Builtin.append_ #[68, 68] 68 #[v, .slice (some ⟨w.heap.size, 0, none⟩) 1 1]).run Tryd.prog (w.alloc (.cells #[.string s] 9)) = .ok (.slice a (l.length + 1) cap) w' ∧ SRow w' B (.slice a (l.length + 1) cap) (l ++ [s]) ∧ (w.alloc (.cells #[.string s] 9)).grownBy w' v.ownBlock := by
  obtain ⟨i0, hi, hz0, hz1, hz2⟩ := info_parts Tryd.infoStr
  obtain ⟨v', w', r, o, g', _⟩ := run_append_own (P := Tryd.prog) (w.alloc (.cells #[.string s] 9)) B 68 68 9 i0 (.string .empty) 1 16 Tryd.underlying68 hi hz0 hz1 hz2 rfl (by decide) v l.length (l.map .string) (h.alloc _)
    ⟨w.heap.size, 0, none⟩ 1 1 [.string s] rfl (cell_one_new _ _ _) (fun u hu => by simp at hu; subst hu; rfl) (by unfold maxLen; omega) (by omega) (by simp; omega)
  have o2 : SRow w' B v' (l ++ [s]) := by simpa [SRow] using o
  obtain ⟨a, cap, rfl⟩ := o2.shape
  refine ⟨a, cap, w', ?_, ?_, g'⟩
  · simpa using r
  · simpa using o2

end Go.Proofs.YtkffcpjaciomjaaDoor
