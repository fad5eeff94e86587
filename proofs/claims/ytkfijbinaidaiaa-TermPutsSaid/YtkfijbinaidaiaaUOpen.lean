/- What comes into layer term's laws, opened: terms, a triple, a binding. -/
import Derived.Test.YtkfijbinaidaiaaUAwake
import Derived.OpenShut
import Derived.ShutString
import Derived.Carry
namespace Go.Proofs.Ytkfijbinaidaiaa
open Go.RowKit Go.ChangeShapes Go.WideShapes Go.ChangeAt

theorem own : ownKnob Try.prog.godebug = none := by kernel_rfl
theorem laidOut : laidOutB Try.prog = true := by kernel_rfl
section
variable {H : Type} {enc : TypeId × Value → H}
theorem cellsL : Try.prog.cellsOf 30 = 6 := by kernel_rfl
theorem cellsT3 : Try.prog.cellsOf 35 = 3 := by kernel_rfl
theorem cellsBd : Try.prog.cellsOf 37 = 33 := by kernel_rfl
theorem cellsTm : Try.prog.cellsOf 23 = 2 := by kernel_rfl
theorem list3 {α : Type} (l : List α) (h : (⟨l⟩ : Array α).size = 3) : ∃ a b c, l = [a, b, c] := by
  match l, h with
  | [a, b, c], _ => exact ⟨a, b, c, rfl⟩
theorem list6 {α : Type} (l : List α) (h : (⟨l⟩ : Array α).size = 6) : ∃ a b c d e f, l = [a, b, c, d, e, f] := by
  match l, h with
  | [a, b, c, d, e, f], _ => exact ⟨a, b, c, d, e, f, rfl⟩
theorem okWide_arr {P : Program} {w : World} {r : Reach} {base n : Nat} {t e : TypeId} {v : Value} (ht : P.underlying t = some (.array n e)) (h : Value.okWide P w r base t v) : ∃ cs, v = .agg cs ∧ cs.size = P.cellsOf t := by
  unfold Value.okWide at h
  rw [ht] at h
  cases v <;> simp_all
theorem open_B {W : World} {base b0 : Nat} {sp : Nat → Bool} {held : Bool} {v : Value} {d : DataW H} {p : List MemPlace} (hv : Value.okWide Try.prog W .any base 37 v) (h : DataW.Trod enc Try.prog W b0 sp held 37 v d p) :
    ∃ b : Bd, v = .agg (cellsB b) := by
  obtain ⟨cs, rfl, hsz⟩ := okWide_arr Try.underlying37 hv
  rw [cellsBd] at hsz
  obtain ⟨fuel, hf⟩ := h
  obtain ⟨xs, m, _, _, _, hlen, hat⟩ := DataW.trod_array Try.underlying37 hf
  rw [cellsInt] at hat
  have key : ∀ i, i < 33 → ∃ x, cs[i]? = some (.int .i64 x) := fun i hi => by
    have h1 := hat i hi
    rw [List.getElem?_eq_getElem (by omega)] at h1
    have hl : i < cs.toList.length := by simpa [hsz] using hi
    have e : ((Value.agg cs).cells.toList.drop (i * 1)).take 1 = [cs.toList[i]] := by
      show (cs.toList.drop (i * 1)).take 1 = _
      rw [Nat.mul_one, List.drop_eq_getElem_cons hl]
      rfl
    rw [e] at h1
    obtain ⟨x, ex, _⟩ := DataW.trod_int Try.underlying3 h1
    simp at ex
    refine ⟨x, ?_⟩
    rw [Array.getElem?_eq_getElem (by omega)]
    exact congrArg some ex
  refine ⟨fun i => match cs[i]? with | some (.int _ x) => x | _ => 0, congrArg Value.agg (Array.ext_getElem? fun i => ?_)⟩
  by_cases hi : i < 33
  · obtain ⟨x, hx⟩ := key i hi
    rw [cellsB_get _ hi, hx]
  · rw [Array.getElem?_eq_none (by omega), Array.getElem?_eq_none (by rw [cellsB_size]; omega)]
theorem open_Tm {W : World} {b0 n : Nat} {sp : Nat → Bool} {held : Bool} {x y : Value} {d : DataW H × List MemPlace} (h : DataW.trod enc Try.prog W b0 sp held n 23 [x, y] = some d) :
    ∃ v k, x = .bool v ∧ y = .int .i64 k := by
  obtain ⟨y0, y1, m, _, _, h0, h1⟩ := trod_struct2 Try.underlying23 h
  have c1 : Try.prog.cellsOf 4 = 1 := by kernel_rfl
  have h0' : DataW.trod enc Try.prog W b0 sp held m 4 [x] = some y0 := by
    have := h0
    rw [c1] at this
    exact this
  have h1' : DataW.trod enc Try.prog W b0 sp held m 3 [y] = some y1 := by
    have := h1
    rw [cellsInt] at this
    exact this
  obtain ⟨v, e0, _⟩ := DataW.trod_bool Try.underlying4 h0'
  obtain ⟨k, e1, _⟩ := DataW.trod_int Try.underlying3 h1'
  simp at e0 e1
  exact ⟨v, k, e0, e1⟩
theorem open_L {W : World} {base b0 : Nat} {sp : Nat → Bool} {held : Bool} {v : Value} {d : DataW H} {p : List MemPlace} (hv : Value.okWide Try.prog W .any base 30 v) (h : DataW.Trod enc Try.prog W b0 sp held 30 v d p) :
    ∃ x0 x1 x2 n0 n1 n2, v = valL x0 x1 x2 n0 n1 n2 := by
  obtain ⟨cs, rfl, hsz⟩ := okWide_arr Try.underlying30 hv
  rw [cellsL] at hsz
  obtain ⟨l⟩ := cs
  obtain ⟨a, b, c, e, f, g, rfl⟩ := list6 l hsz
  obtain ⟨fuel, hf⟩ := h
  obtain ⟨xs, m, _, _, _, hlen, hat⟩ := DataW.trod_array Try.underlying30 hf
  rw [cellsTm] at hat
  match xs, hlen with
  | [y0, y1, y2], _ =>
    obtain ⟨x0, n0, rfl, rfl⟩ := open_Tm (hat 0 (by decide))
    obtain ⟨x1, n1, rfl, rfl⟩ := open_Tm (hat 1 (by decide))
    obtain ⟨x2, n2, rfl, rfl⟩ := open_Tm (hat 2 (by decide))
    exact ⟨x0, x1, x2, n0, n1, n2, rfl⟩
theorem open_T {W : World} {base b0 : Nat} {sp : Nat → Bool} {held : Bool} {v : Value} {d : DataW H} {p : List MemPlace} (hv : Value.okWide Try.prog W .any base 35 v) (h : DataW.Trod enc Try.prog W b0 sp held 35 v d p) :
    ∃ t0 t1 t2, v = .agg #[.int .i64 t0, .int .i64 t1, .int .i64 t2] := by
  obtain ⟨cs, rfl, hsz⟩ := okWide_arr Try.underlying35 hv
  rw [cellsT3] at hsz
  obtain ⟨l⟩ := cs
  obtain ⟨c0, c1, c2, rfl⟩ := list3 l hsz
  obtain ⟨fuel, hf⟩ := h
  obtain ⟨xs, m, _, _, _, hlen, hat⟩ := DataW.trod_array Try.underlying35 hf
  rw [cellsInt] at hat
  match xs, hlen with
  | [y0, y1, y2], _ =>
    obtain ⟨t0, e0, _⟩ := DataW.trod_int Try.underlying3 (show DataW.trod enc Try.prog W b0 sp held m 3 [c0] = some y0 from hat 0 (by decide))
    obtain ⟨t1, e1, _⟩ := DataW.trod_int Try.underlying3 (show DataW.trod enc Try.prog W b0 sp held m 3 [c1] = some y1 from hat 1 (by decide))
    obtain ⟨t2, e2, _⟩ := DataW.trod_int Try.underlying3 (show DataW.trod enc Try.prog W b0 sp held m 3 [c2] = some y2 from hat 2 (by decide))
    simp at e0 e1 e2
    subst e0 e1 e2
    exact ⟨t0, t1, t2, rfl⟩
end

end Go.Proofs.Ytkfijbinaidaiaa
