/- What comes into layer test's laws, opened: a slice of triples is no longer than its capacity. -/
import Derived.Test.YtefojaeinhgeiaaVOpen
namespace Go.Proofs.Ytefojaeinhgeiaa
open Go.RowKit Go.ChangeShapes Go.WideShapes Go.ChangeAt Go.Deep

theorem fits_Ts {H : Type} {enc : TypeId × Value → H} {W : World} {sp : Nat → Bool} {held : Bool} {a : Option Addr} {n c : Nat} {d : DataW H} {p : List MemPlace} (h : DataW.Trod enc Try.prog W 0 sp held 23 (.slice a n c) d p) : n ≤ c := by
  obtain ⟨fuel, hf⟩ := h
  rcases DataW.trod_slice Try.underlying23 hf with ⟨e2, _⟩ | ⟨a', len', cap', elems, rest, n', _, e2, _, _, hlc, _⟩
  · simp [Value.cells] at e2
    omega
  · simp [Value.cells] at e2
    omega
end Go.Proofs.Ytefojaeinhgeiaa
