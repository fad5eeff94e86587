/- What comes into layer rule's laws, opened: a rule. -/
import Derived.Test.YtpdofapbbpihlaaCOpen
import Derived.Test.YtpdofapbbpihlaaDRefRule
namespace Go.Proofs.Ytpdofapbbpihlaa
open Go.RowKit Go.ChangeShapes Go.WideShapes Go.ChangeAt Go.Deep

section
variable {H : Type} {enc : TypeId × Value → H}
theorem cellsRl : Try.prog.cellsOf 24 = 2 := by kernel_rfl
theorem cellsStr : Try.prog.cellsOf 9 = 1 := by kernel_rfl
theorem open_conds {W : World} {sp : Nat → Bool} {held : Bool} (fuel : Nat) (c : Value) (x : DataW H × List MemPlace) (h : DataW.trod enc Try.prog W 0 sp held fuel 22 [c] = some x) :
    ∃ a cap l, c = .slice a (List.length l) cap ∧ (l.length ≤ cap ∧ cap ≤ maxLen) ∧ Holds cA W (fun b _ => b < W.heap.size) (.slice a l.length cap) l := by
  rcases DataW.trod_slice Try.underlying22 h with ⟨e2, _⟩ | ⟨a, len, cap, elems, rest, n', _, e2, _, _, hlc, hcm, hel, hat, _⟩
  · simp at e2
    subst e2
    exact ⟨none, 0, [], rfl, ⟨Nat.le_refl _, Nat.zero_le _⟩, .nil none 0⟩
  · simp at e2
    subst e2
    rw [cellsCd] at hat
    have each : ∀ i, i < len → ∃ q : Hd × List Sh × Option Addr × Nat, (∀ j v, (cA q.1 (.slice q.2.2.1 q.2.1.length q.2.2.2))[j]? = some v → W.cell? ((a.add (i * 8)).add j) = some v) ∧ Holds cA W (fun b _ => b < W.heap.size) (.slice q.2.2.1 q.2.1.length q.2.2.2) q.2.1 := by
      intro i hi
      have h1 := hat i hi
      rw [List.getElem?_eq_getElem (by omega)] at h1
      obtain ⟨cs', h2, h3⟩ := Option.bind_eq_some_iff.1 h1
      obtain ⟨hd, a', cap', subs, rfl, hs⟩ := open_cond n' cs' _ h3
      obtain ⟨_, _, hc⟩ := World.cells?_some h2
      refine ⟨⟨hd, subs, a', cap'⟩, fun j v hj => ?_, hs⟩
      rw [hc j (by have := (List.getElem?_eq_some_iff.1 hj).1; simpa using this)]
      exact hj
    haveI : Inhabited (Hd × List Sh × Option Addr × Nat) := ⟨⟨⟨0, false, false, false, 0, 0, 0⟩, [], none, 0⟩⟩
    obtain ⟨q, hq⟩ := choose_lt each
    rcases Nat.eq_zero_or_pos len with rfl | hpos
    · exact ⟨some a, cap, [], rfl, ⟨Nat.zero_le _, hcm⟩, .nil _ _⟩
    · obtain ⟨b, o, spot⟩ := a
      have c00 := (hq 0 hpos).1 0 _ rfl
      have hspot : spot = none := by simpa [Addr.add] using World.cell?_spot c00
      subst hspot
      have hb : b < W.heap.size := by
        have := World.block_lt_of_cell? W _ c00
        simpa [Addr.add] using this
      have hl : ((List.range len).map fun i => Sh.mk (q i).1 (q i).2.1).length = len := by simp
      refine ⟨some ⟨b, o, none⟩, cap, (List.range len).map fun i => Sh.mk (q i).1 (q i).2.1, by rw [hl], ⟨by rw [hl]; exact hlc, hcm⟩, ?_⟩
      refine .row b o cap _ (fun i => .slice (q i).2.2.1 (q i).2.1.length (q i).2.2.2) hb (fun i x hi => ?_) (fun i x hi => ?_)
      · have hil : i < len := by have := (List.getElem?_eq_some_iff.1 hi).1; rwa [hl] at this
        simp [hil] at hi
        subst hi
        intro j v hj
        have := (hq i hil).1 j v hj
        rw [Addr.add_mid, Addr.add_mid] at this
        exact this
      · have hil : i < len := by have := (List.getElem?_eq_some_iff.1 hi).1; rwa [hl] at this
        simp [hil] at hi
        subst hi
        exact (hq i hil).2
theorem open_R {W : World} {base : Nat} {sp : Nat → Bool} {held : Bool} {v : Value} {d : DataW H} {p : List MemPlace} (hv : Value.okWide Try.prog W .any base 24 v) (h : DataW.Trod enc Try.prog W 0 sp held 24 v d p) :
    ∃ nm l a cap, v = vRule nm (.slice a (List.length l) cap) ∧ nm.size ≤ maxLen ∧ (l.length ≤ cap ∧ cap ≤ maxLen) ∧ Holds cA W (fun b _ => b < W.heap.size) (.slice a l.length cap) l := by
  obtain ⟨cs, rfl, _⟩ := okWide_struct Try.underlying24 hv
  obtain ⟨fuel, hf⟩ := h
  obtain ⟨y0, y1, n, _, hlen, f0, f1⟩ := trod_struct2 Try.underlying24 hf
  rw [cellsRl] at hlen
  obtain ⟨l⟩ := cs
  match l, hlen with
  | [c0, c1], _ =>
    have f0' : DataW.trod enc Try.prog W 0 sp held n 9 [c0] = some y0 := by
      have := f0
      change DataW.trod enc Try.prog W 0 sp held n 9 (List.take (Try.prog.cellsOf 9) [c0, c1]) = some y0 at this
      rw [cellsStr] at this
      exact this
    have f1' : DataW.trod enc Try.prog W 0 sp held n 22 [c1] = some y1 := by
      have := f1
      change DataW.trod enc Try.prog W 0 sp held n 22 (List.take (Try.prog.cellsOf 22) [c1]) = some y1 at this
      rw [cellsSl] at this
      exact this
    obtain ⟨nm, e0, hs⟩ := DataW.trod_string Try.underlying9 f0'
    obtain ⟨a, cap, l, e1, hlc, hh⟩ := open_conds n c1 _ f1'
    simp at e0
    subst e0 e1
    exact ⟨nm, l, a, cap, rfl, hs.2, hlc, hh⟩
theorem okWide_u8 {P : Program} {w : World} {r : Reach} {base : Nat} {t : TypeId} {v : Value} (ht : P.underlying t = some (.int .u8)) (h : Value.okWide P w r base t v) : ∃ n, v = .int .u8 n ∧ 0 ≤ n ∧ n < 256 := by
  obtain ⟨n, rfl⟩ := okWide_int ht h
  refine ⟨n, rfl, ?_⟩
  simp only [Value.okWide, ht, Cell.okWide, Cell.ok, IntKind.has] at h
  obtain ⟨h1, h2⟩ : IntKind.u8.min ≤ n ∧ n ≤ IntKind.u8.max := by simpa using h
  have e1 : (0 : Int) ≤ n := h1
  have e2 : n ≤ (255 : Int) := h2
  omega
end
end Go.Proofs.Ytpdofapbbpihlaa
