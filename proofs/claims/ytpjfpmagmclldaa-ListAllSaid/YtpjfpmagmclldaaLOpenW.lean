/- What comes into ListAll, opened: a struct of four bytes. -/
import Derived.Test.YtpjfpmagmclldaaLOpen
namespace Go.Proofs.Ytpjfpmagmclldaa
open Go.RowKit Go.ChangeShapes Go.WideShapes Go.ChangeAt Go.Deep
set_option maxRecDepth 100000

section
variable {H : Type} {enc : TypeId × Value → H}
theorem cellsU : Try.prog.cellsOf 5 = 1 := by kernel_rfl
theorem cellsW : Try.prog.cellsOf 46 = 4 := by kernel_rfl
theorem list4 {α : Type} (l : List α) (h : l.length = 4) : ∃ a b c d, l = [a, b, c, d] := by
  match l, h with
  | [a, b, c, d], _ => exact ⟨a, b, c, d, rfl⟩
theorem wf_u8 {n : Int} (h : (Lit.int .u8 n).wf = true) : 0 ≤ n ∧ n < 256 := by
  simp only [Lit.wf] at h
  obtain ⟨h1, h2⟩ : IntKind.u8.min ≤ n ∧ n ≤ IntKind.u8.max := by simpa using h
  have e1 : IntKind.u8.min = 0 := by decide
  have e2 : IntKind.u8.max = 255 := by decide
  rw [e1] at h1
  rw [e2] at h2
  omega
theorem open_W {W : World} {base : Nat} {sp : Nat → Bool} {held : Bool} {v : Value} {d : DataW H} {p : List MemPlace} (hv : Value.okWide Try.prog W .any base 46 v) (h : DataW.Trod enc Try.prog W 0 sp held 46 v d p) :
    ∃ x y z u, v = .agg #[.int .u8 x, .int .u8 y, .int .u8 z, .int .u8 u] ∧ ((0 ≤ x ∧ x < 256) ∧ (0 ≤ y ∧ y < 256) ∧ (0 ≤ z ∧ z < 256) ∧ (0 ≤ u ∧ u < 256)) := by
  obtain ⟨cs, rfl, hsz⟩ := okWide_struct Try.underlying46 hv
  rw [cellsW] at hsz
  obtain ⟨l⟩ := cs
  obtain ⟨c0, c1, c2, c3, rfl⟩ := list4 l (by simpa using hsz)
  obtain ⟨fuel, hf0⟩ := h
  have hf' : DataW.trod enc Try.prog W 0 sp held fuel 46 [c0, c1, c2, c3] = some (d, p) := by simpa [Value.cells] using hf0
  obtain ⟨xs, n, hn, _, hlen, hxl, hf⟩ := DataW.trod_struct Try.underlying46 hf'
  have hxl' : xs.length = 4 := hxl
  obtain ⟨y0, y1, y2, y3, rfl⟩ := list4 xs hxl'
  have f0 : DataW.trod enc Try.prog W 0 sp held n 5 [c0] = some y0 := by
    have := hf 0 _ rfl
    change DataW.trod enc Try.prog W 0 sp held n 5 (List.take (Try.prog.cellsOf 5) [c0, c1, c2, c3]) = some y0 at this
    rw [cellsU] at this
    exact this
  have f1 : DataW.trod enc Try.prog W 0 sp held n 5 [c1] = some y1 := by
    have := hf 1 _ rfl
    change DataW.trod enc Try.prog W 0 sp held n 5 (List.take (Try.prog.cellsOf 5) [c1, c2, c3]) = some y1 at this
    rw [cellsU] at this
    exact this
  have f2 : DataW.trod enc Try.prog W 0 sp held n 5 [c2] = some y2 := by
    have := hf 2 _ rfl
    change DataW.trod enc Try.prog W 0 sp held n 5 (List.take (Try.prog.cellsOf 5) [c2, c3]) = some y2 at this
    rw [cellsU] at this
    exact this
  have f3 : DataW.trod enc Try.prog W 0 sp held n 5 [c3] = some y3 := by
    have := hf 3 _ rfl
    change DataW.trod enc Try.prog W 0 sp held n 5 (List.take (Try.prog.cellsOf 5) [c3]) = some y3 at this
    rw [cellsU] at this
    exact this
  obtain ⟨a0, e0, _, w0⟩ := DataW.trod_int Try.underlying5 f0
  obtain ⟨a1, e1, _, w1⟩ := DataW.trod_int Try.underlying5 f1
  obtain ⟨a2, e2, _, w2⟩ := DataW.trod_int Try.underlying5 f2
  obtain ⟨a3, e3, _, w3⟩ := DataW.trod_int Try.underlying5 f3
  simp at e0 e1 e2 e3
  subst e0 e1 e2 e3
  exact ⟨a0, a1, a2, a3, rfl, wf_u8 w0, wf_u8 w1, wf_u8 w2, wf_u8 w3⟩
end
end Go.Proofs.Ytpjfpmagmclldaa
