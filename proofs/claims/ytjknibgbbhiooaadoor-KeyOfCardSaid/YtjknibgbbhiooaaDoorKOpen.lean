/- Terms that come in, opened. -/
import Derived.Test.YtjknibgbbhiooaaDoorKLaid
import Derived.Test.YtjknibgbbhiooaaDoorKTerm
import Derived.Carry
namespace Go.Proofs.YtjknibgbbhiooaaDoor
open Go.RowKit Go.ChangeShapes Go.WideShapes Go.ChangeAt
set_option maxRecDepth 100000

theorem laidOut : laidOutB Tryd.prog = true := by kernel_rfl
section
variable {H : Type} {enc : TypeId × Value → H}
theorem cellsL : Tryd.prog.cellsOf 34 = 6 := by kernel_rfl
theorem cellsTm : Tryd.prog.cellsOf 33 = 2 := by kernel_rfl
theorem list6 {α : Type} (l : List α) (h : (⟨l⟩ : Array α).size = 6) : ∃ a b c d e f, l = [a, b, c, d, e, f] := by
  match l, h with
  | [a, b, c, d, e, f], _ => exact ⟨a, b, c, d, e, f, rfl⟩
theorem okWide_arr {P : Program} {w : World} {r : Reach} {base n : Nat} {t e : TypeId} {v : Value} (ht : P.underlying t = some (.array n e)) (h : Value.okWide P w r base t v) : ∃ cs, v = .agg cs ∧ cs.size = P.cellsOf t := by
  unfold Value.okWide at h
  rw [ht] at h
  cases v <;> simp_all
theorem open_Tm {W : World} {b0 n : Nat} {sp : Nat → Bool} {held : Bool} {x y : Value} {d : DataW H × List MemPlace} (h : DataW.trod enc Tryd.prog W b0 sp held n 33 [x, y] = some d) :
    ∃ v k, x = .bool v ∧ y = .int .i64 k := by
  obtain ⟨y0, y1, m, _, _, h0, h1⟩ := trod_struct2 Tryd.underlying33 h
  have c1 : Tryd.prog.cellsOf 4 = 1 := by kernel_rfl
  have h0' : DataW.trod enc Tryd.prog W b0 sp held m 4 [x] = some y0 := by
    have := h0
    rw [c1] at this
    exact this
  have h1' : DataW.trod enc Tryd.prog W b0 sp held m 3 [y] = some y1 := by
    have := h1
    rw [cellsInt] at this
    exact this
  obtain ⟨v, e0, _⟩ := DataW.trod_bool Tryd.underlying4 h0'
  obtain ⟨k, e1, _⟩ := DataW.trod_int Tryd.underlying3 h1'
  simp at e0 e1
  exact ⟨v, k, e0, e1⟩
theorem open_L {W : World} {base b0 : Nat} {sp : Nat → Bool} {held : Bool} {v : Value} {d : DataW H} {p : List MemPlace} (hv : Value.okWide Tryd.prog W .any base 34 v) (h : DataW.Trod enc Tryd.prog W b0 sp held 34 v d p) :
    ∃ x0 x1 x2 n0 n1 n2, v = valL x0 x1 x2 n0 n1 n2 := by
  obtain ⟨cs, rfl, hsz⟩ := okWide_arr Tryd.underlying34 hv
  rw [cellsL] at hsz
  obtain ⟨l⟩ := cs
  obtain ⟨a, b, c, e, f, g, rfl⟩ := list6 l hsz
  obtain ⟨fuel, hf⟩ := h
  obtain ⟨xs, m, _, _, _, hlen, hat⟩ := DataW.trod_array Tryd.underlying34 hf
  rw [cellsTm] at hat
  match xs, hlen with
  | [y0, y1, y2], _ =>
    obtain ⟨x0, n0, rfl, rfl⟩ := open_Tm (hat 0 (by decide))
    obtain ⟨x1, n1, rfl, rfl⟩ := open_Tm (hat 1 (by decide))
    obtain ⟨x2, n2, rfl, rfl⟩ := open_Tm (hat 2 (by decide))
    exact ⟨x0, x1, x2, n0, n1, n2, rfl⟩
end
end Go.Proofs.YtjknibgbbhiooaaDoor
