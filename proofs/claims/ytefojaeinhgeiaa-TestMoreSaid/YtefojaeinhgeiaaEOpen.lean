/- What comes into layer scope's laws, opened: conditions. -/
import Derived.Test.YtefojaeinhgeiaaCOpen
namespace Go.Proofs.Ytefojaeinhgeiaa
open Go.RowKit Go.ChangeShapes Go.WideShapes Go.ChangeAt Go.Deep
set_option maxRecDepth 100000

section
variable {H : Type} {enc : TypeId × Value → H}
theorem open_conds {W : World} {sp : Nat → Bool} {held : Bool} (fuel : Nat) (c : Value) (x : DataW H × List MemPlace) (h : DataW.trod enc Try.prog W 0 sp held fuel 22 [c] = some x) :
    ∃ a cap l, c = .slice a (List.length l) cap ∧ (l.length ≤ cap ∧ cap ≤ maxLen) ∧ Holds cA W (fun b _ => b < W.heap.size) (.slice a l.length cap) l := by
  rcases DataW.trod_slice Try.underlying22 h with ⟨e2, _⟩ | ⟨a, len, cap, elems, rest, n', _, e2, _, _, hlc, hcm, hel, hat, _⟩
  · simp at e2
    subst e2
    exact ⟨none, 0, [], rfl, ⟨Nat.le_refl _, Nat.zero_le _⟩, .nil none 0⟩
  · simp at e2
    subst e2
    rw [cellsCd] at hat
    have each : ∀ i, i < len → ∃ q : Hd × List Sh × Option Addr × Nat, (∀ j v, (cA q.1 (.slice q.2.2.1 q.2.1.length q.2.2.2))[j]? = some v → W.cell? ((a.add (i * 8)).add j) = some v) ∧ Holds cA W (fun b _ => b < W.heap.size) (.slice q.2.2.1 q.2.1.length q.2.2.2) q.2.1 := by
      intro i hi
      have h1 := hat i hi
      rw [List.getElem?_eq_getElem (by omega)] at h1
      obtain ⟨cs', h2, h3⟩ := Option.bind_eq_some_iff.1 h1
      obtain ⟨hd, a', cap', subs, rfl, hs⟩ := open_cond n' cs' _ h3
      obtain ⟨_, _, hc⟩ := World.cells?_some h2
      refine ⟨⟨hd, subs, a', cap'⟩, fun j v hj => ?_, hs⟩
      rw [hc j (by have := (List.getElem?_eq_some_iff.1 hj).1; simpa using this)]
      exact hj
    haveI : Inhabited (Hd × List Sh × Option Addr × Nat) := ⟨⟨⟨0, false, false, false, 0, 0, 0⟩, [], none, 0⟩⟩
    obtain ⟨q, hq⟩ := choose_lt each
    rcases Nat.eq_zero_or_pos len with rfl | hpos
    · exact ⟨some a, cap, [], rfl, ⟨Nat.zero_le _, hcm⟩, .nil _ _⟩
    · obtain ⟨b, o, spot⟩ := a
      have c00 := (hq 0 hpos).1 0 _ rfl
      have hspot : spot = none := by simpa [Addr.add] using World.cell?_spot c00
      subst hspot
      have hb : b < W.heap.size := by
        have := World.block_lt_of_cell? W _ c00
        simpa [Addr.add] using this
      have hl : ((List.range len).map fun i => Sh.mk (q i).1 (q i).2.1).length = len := by simp
      refine ⟨some ⟨b, o, none⟩, cap, (List.range len).map fun i => Sh.mk (q i).1 (q i).2.1, by rw [hl], ⟨by rw [hl]; exact hlc, hcm⟩, ?_⟩
      refine .row b o cap _ (fun i => .slice (q i).2.2.1 (q i).2.1.length (q i).2.2.2) (by rw [hl]; exact hlc) hb (fun i x hi => ?_) (fun i x hi => ?_)
      · have hil : i < len := by have := (List.getElem?_eq_some_iff.1 hi).1; rwa [hl] at this
        simp [hil] at hi
        subst hi
        intro j v hj
        have := (hq i hil).1 j v hj
        rw [Addr.add_mid, Addr.add_mid] at this
        exact this
      · have hil : i < len := by have := (List.getElem?_eq_some_iff.1 hi).1; rwa [hl] at this
        simp [hil] at hi
        subst hi
        exact (hq i hil).2
theorem open_S {W : World} {base : Nat} {sp : Nat → Bool} {held : Bool} {v : Value} {d : DataW H} {p : List MemPlace} (hv : Value.okWide Try.prog W .any base 22 v) (h : DataW.Trod enc Try.prog W 0 sp held 22 v d p) :
    ∃ l a cap, v = .slice a (List.length l) cap ∧ Holds cA W (fun b _ => b < W.heap.size) (.slice a l.length cap) l := by
  obtain ⟨a0, n0, c0, rfl⟩ := okWide_slice Try.underlying22 hv
  obtain ⟨fuel, hf⟩ := h
  obtain ⟨a, cap, l, e, _, hh⟩ := open_conds fuel (.slice a0 n0 c0) _ (by simpa [Value.cells] using hf)
  exact ⟨l, a, cap, e, hh⟩
end
end Go.Proofs.Ytefojaeinhgeiaa
