/- What comes into layer comp's laws, opened: conditions, with their reach. -/
import Derived.Test.YtoceogbanlmnoaaGOpen
import Derived.Test.YtoceogbanlmnoaaEOpen
namespace Go.Proofs.Ytoceogbanlmnoaa
open Go.RowKit Go.ChangeShapes Go.WideShapes Go.ChangeAt Go.Deep
set_option maxRecDepth 100000

theorem cellsC8 : Try.prog.cellsOf 27 = 8 := by kernel_rfl
theorem bytesC8 : Try.prog.bytesOf 27 = 80 := by kernel_rfl
/-- Conditions that come in are no more than a form's own reach. -/
theorem len_S {H : Type} {enc : TypeId × Value → H} {W : World} {sp : Nat → Bool} {held : Bool} {a : Option Addr} {n c : Nat} {d : DataW H} {p : List MemPlace} (h : DataW.Trod enc Try.prog W 0 sp held 22 (.slice a n c) d p) (hs : Sized Try.prog 22 d) : n * 80 ≤ 140737488351232 := by
  obtain ⟨fuel, hf⟩ := h
  obtain ⟨a', len, cap, e, _, hb, _⟩ := open_rows (Q := Unit) Try.underlying22 cellsC8 (by decide) (fun _ _ => True) (c := .slice a n c) (x := (d, p)) (by simpa [Value.cells] using hf) hs (fun _ _ _ _ _ _ => ⟨(), trivial⟩)
  cases e
  rw [bytesC8] at hb
  exact hb
end Go.Proofs.Ytoceogbanlmnoaa
