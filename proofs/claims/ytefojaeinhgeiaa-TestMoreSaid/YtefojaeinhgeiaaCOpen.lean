/- What comes into layer cond's laws, opened: a condition, whatever depth. -/
import Derived.Test.YtefojaeinhgeiaaCTree
import Derived.OpenShut
import Derived.ShutString
import Derived.Carry
import Derived.Deep.Strs
namespace Go.Proofs.Ytefojaeinhgeiaa
open Go.RowKit Go.ChangeShapes Go.WideShapes Go.ChangeAt Go.Deep
set_option maxRecDepth 100000

theorem own : ownKnob Try.prog.godebug = none := by kernel_rfl
theorem laidOut : laidOutB Try.prog = true := by kernel_rfl
theorem cellsInt : Try.prog.cellsOf 3 = 1 := by kernel_rfl
section
variable {H : Type} {enc : TypeId × Value → H}
theorem cellsL : Try.prog.cellsOf 36 = 6 := by kernel_rfl
theorem cellsTm : Try.prog.cellsOf 35 = 2 := by kernel_rfl
theorem cellsCd : Try.prog.cellsOf 38 = 8 := by kernel_rfl
theorem cellsSl : Try.prog.cellsOf 22 = 1 := by kernel_rfl
theorem open_Tm {W : World} {b0 n : Nat} {sp : Nat → Bool} {held : Bool} {x y : Value} {d : DataW H × List MemPlace} (h : DataW.trod enc Try.prog W b0 sp held n 35 [x, y] = some d) :
    ∃ v k, x = .bool v ∧ y = .int .i64 k := by
  obtain ⟨y0, y1, m, _, _, h0, h1⟩ := trod_struct2 Try.underlying35 h
  have c1 : Try.prog.cellsOf 4 = 1 := by kernel_rfl
  have h0' : DataW.trod enc Try.prog W b0 sp held m 4 [x] = some y0 := by
    have := h0
    rw [c1] at this
    exact this
  have h1' : DataW.trod enc Try.prog W b0 sp held m 3 [y] = some y1 := by
    have := h1
    rw [cellsInt] at this
    exact this
  obtain ⟨v, e0, _⟩ := DataW.trod_bool Try.underlying4 h0'
  obtain ⟨k, e1, _⟩ := DataW.trod_int Try.underlying3 h1'
  simp at e0 e1
  exact ⟨v, k, e0, e1⟩
theorem open_terms {W : World} {b0 n : Nat} {sp : Nat → Bool} {held : Bool} {c1 c2 c3 c4 c5 c6 : Value} {d : DataW H × List MemPlace} (hf : DataW.trod enc Try.prog W b0 sp held n 36 [c1, c2, c3, c4, c5, c6] = some d) :
    ∃ x0 x1 x2 n0 n1 n2, [c1, c2, c3, c4, c5, c6] = [Value.bool x0, .int .i64 n0, .bool x1, .int .i64 n1, .bool x2, .int .i64 n2] := by
  obtain ⟨xs, m, _, _, _, hlen, hat⟩ := DataW.trod_array Try.underlying36 hf
  rw [cellsTm] at hat
  match xs, hlen with
  | [y0, y1, y2], _ =>
    obtain ⟨x0, n0, rfl, rfl⟩ := open_Tm (hat 0 (by decide))
    obtain ⟨x1, n1, rfl, rfl⟩ := open_Tm (hat 1 (by decide))
    obtain ⟨x2, n2, rfl, rfl⟩ := open_Tm (hat 2 (by decide))
    exact ⟨x0, x1, x2, n0, n1, n2, rfl⟩
theorem list8 {α : Type} (l : List α) (h : l.length = 8) : ∃ a b c d e f g i, l = [a, b, c, d, e, f, g, i] := by
  match l, h with
  | [a, b, c, d, e, f, g, i], _ => exact ⟨a, b, c, d, e, f, g, i, rfl⟩
theorem open_cond {W : World} {sp : Nat → Bool} {held : Bool} : ∀ (fuel : Nat) (cs : List Value) (x : DataW H × List MemPlace), DataW.trod enc Try.prog W 0 sp held fuel 38 cs = some x →
    ∃ hd a cap subs, cs = cA hd (.slice a subs.length cap) ∧ Holds cA W (fun b _ => b < W.heap.size) (.slice a subs.length cap) subs := by
  intro fuel
  induction fuel using Nat.strongRecOn with
  | ind fuel ih =>
    intro cs x h
    obtain ⟨xs, n, hn, _, hlen, hxl, hf⟩ := DataW.trod_struct Try.underlying38 h
    rw [cellsCd] at hlen
    obtain ⟨c0, c1, c2, c3, c4, c5, c6, c7, rfl⟩ := list8 cs hlen
    have hxl' : xs.length = 3 := hxl
    match xs, hxl' with
    | [y0, y1, y2], _ =>
      have f0 := hf 0 _ rfl
      have f1 := hf 1 _ rfl
      have f2 := hf 2 _ rfl
      have f0' : DataW.trod enc Try.prog W 0 sp held n 3 [c0] = some y0 := by
        have := f0
        change DataW.trod enc Try.prog W 0 sp held n 3 (List.take (Try.prog.cellsOf 3) [c0, c1, c2, c3, c4, c5, c6, c7]) = some y0 at this
        rw [cellsInt] at this
        exact this
      have f1' : DataW.trod enc Try.prog W 0 sp held n 36 [c1, c2, c3, c4, c5, c6] = some y1 := by
        have := f1
        change DataW.trod enc Try.prog W 0 sp held n 36 (List.take (Try.prog.cellsOf 36) [c1, c2, c3, c4, c5, c6, c7]) = some y1 at this
        rw [cellsL] at this
        exact this
      have f2' : DataW.trod enc Try.prog W 0 sp held n 22 [c7] = some y2 := by
        have := f2
        change DataW.trod enc Try.prog W 0 sp held n 22 (List.take (Try.prog.cellsOf 22) [c7]) = some y2 at this
        rw [cellsSl] at this
        exact this
      clear f0 f1 f2 hf
      obtain ⟨k, e0, _⟩ := DataW.trod_int Try.underlying3 f0'
      simp at e0
      subst e0
      obtain ⟨x0, x1, x2, n0, n1, n2, e1⟩ := open_terms f1'
      simp at e1
      obtain ⟨rfl, rfl, rfl, rfl, rfl, rfl⟩ := e1
      rcases DataW.trod_slice Try.underlying22 f2' with ⟨e2, _⟩ | ⟨a, len, cap, elems, rest, n', hn', e2, _, _, hlc, _, hel, hat, _⟩
      · simp at e2
        subst e2
        exact ⟨⟨k, x0, x1, x2, n0, n1, n2⟩, none, 0, [], rfl, .nil none 0⟩
      · simp at e2
        subst e2
        rw [cellsCd] at hat
        have each : ∀ i, i < len → ∃ q : Hd × List Sh × Option Addr × Nat, (∀ j v, (cA q.1 (.slice q.2.2.1 q.2.1.length q.2.2.2))[j]? = some v → W.cell? ((a.add (i * 8)).add j) = some v) ∧ Holds cA W (fun b _ => b < W.heap.size) (.slice q.2.2.1 q.2.1.length q.2.2.2) q.2.1 := by
          intro i hi
          have h1 := hat i hi
          rw [List.getElem?_eq_getElem (by omega)] at h1
          obtain ⟨cs', h2, h3⟩ := Option.bind_eq_some_iff.1 h1
          obtain ⟨hd, a', cap', subs, rfl, hs⟩ := ih n' (by omega) cs' _ h3
          obtain ⟨_, _, hc⟩ := World.cells?_some h2
          refine ⟨⟨hd, subs, a', cap'⟩, fun j v hj => ?_, hs⟩
          rw [hc j (by have := (List.getElem?_eq_some_iff.1 hj).1; simpa using this)]
          exact hj
        haveI : Inhabited (Hd × List Sh × Option Addr × Nat) := ⟨⟨⟨0, false, false, false, 0, 0, 0⟩, [], none, 0⟩⟩
        obtain ⟨q, hq⟩ := choose_lt each
        rcases Nat.eq_zero_or_pos len with rfl | hpos
        · exact ⟨⟨k, x0, x1, x2, n0, n1, n2⟩, some a, cap, [], rfl, .nil _ _⟩
        · obtain ⟨b, o, spot⟩ := a
          have c00 := (hq 0 hpos).1 0 _ rfl
          have hspot : spot = none := by simpa [Addr.add] using World.cell?_spot c00
          subst hspot
          have hb : b < W.heap.size := by
            have := World.block_lt_of_cell? W _ c00
            simpa [Addr.add] using this
          have hl : ((List.range len).map fun i => Sh.mk (q i).1 (q i).2.1).length = len := by simp
          refine ⟨⟨k, x0, x1, x2, n0, n1, n2⟩, some ⟨b, o, none⟩, cap, (List.range len).map fun i => Sh.mk (q i).1 (q i).2.1, by rw [hl], ?_⟩
          refine .row b o cap _ (fun i => .slice (q i).2.2.1 (q i).2.1.length (q i).2.2.2) (by rw [hl]; exact hlc) hb (fun i x hi => ?_) (fun i x hi => ?_)
          · have hil : i < len := by have := (List.getElem?_eq_some_iff.1 hi).1; rwa [hl] at this
            simp [hil] at hi
            subst hi
            intro j v hj
            have := (hq i hil).1 j v hj
            rw [Addr.add_mid, Addr.add_mid] at this
            exact this
          · have hil : i < len := by have := (List.getElem?_eq_some_iff.1 hi).1; rwa [hl] at this
            simp [hil] at hi
            subst hi
            exact (hq i hil).2
theorem open_C {W : World} {base : Nat} {sp : Nat → Bool} {held : Bool} {v : Value} {d : DataW H} {p : List MemPlace} (hv : Value.okWide Try.prog W .any base 38 v) (h : DataW.Trod enc Try.prog W 0 sp held 38 v d p) :
    ∃ s a cap, v = vA (Sh.hd s) (.slice a s.subs.length cap) ∧ Holds cA W (fun b _ => b < W.heap.size) (.slice a s.subs.length cap) s.subs := by
  obtain ⟨cs, rfl, _⟩ := okWide_struct Try.underlying38 hv
  obtain ⟨fuel, hf⟩ := h
  obtain ⟨hd, a, cap, subs, e, hs⟩ := open_cond fuel _ _ hf
  obtain ⟨l⟩ := cs
  refine ⟨.mk hd subs, a, cap, ?_, hs⟩
  have e' : l = cA hd (.slice a subs.length cap) := e
  rw [e']
  rfl
end
end Go.Proofs.Ytefojaeinhgeiaa
