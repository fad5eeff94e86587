/- What comes into the laws on stores, opened: slices of triples, of bytes, of calls; a struct of AlphaBack's. -/
import Derived.Test.YthiijlngoikhkaaOAw
import Derived.OpenShut
import Derived.Carry
import Derived.Deep.Strs
import Derived.Deep.Slices
import Derived.Laws.IdiomArrays
namespace Go.Proofs.Ythiijlngoikhkaa
open Go.RowKit Go.ChangeShapes Go.WideShapes Go.ChangeAt Go.Deep
set_option maxRecDepth 100000

theorem own : ownKnob Try.prog.godebug = none := by kernel_rfl

section
variable {H : Type} {enc : TypeId × Value → H} {P : Program}
theorem open_in {α : Type} [Inhabited α] {t e : TypeId} {size : Nat} {W : World} {sp : Nat → Bool} {held : Bool} (ht : P.underlying t = some (.slice e)) (hc : P.cellsOf e = size) (hs : 0 < size) (cells : α → List Value) (good : α → Prop) (hsz : ∀ x, (cells x).length = size)
    (hel : ∀ n cs y, DataW.trod enc P W 0 sp held n e cs = some y → ∃ x, cs = cells x ∧ good x) {a : Option Addr} {len cap : Nat} {d : DataW H} {p : List MemPlace} (h : DataW.Trod enc P W 0 sp held t (.slice a len cap) d p) :
    ∃ xs : List α, In cells size W a len xs ∧ (∀ x ∈ xs, good x) ∧ len ≤ maxLen := by
  obtain ⟨fuel, hf⟩ := h
  rcases DataW.trod_slice ht hf with ⟨e2, _⟩ | ⟨a', len', cap', elems, rest, n', _, e2, _, _, hlc, hcm, hl, hat, _⟩
  · simp [Value.cells] at e2
    obtain ⟨rfl, rfl, rfl⟩ := e2
    exact ⟨[], ⟨rfl, .inl rfl⟩, by simp, Nat.zero_le _⟩
  · simp [Value.cells] at e2
    obtain ⟨rfl, rfl, rfl⟩ := e2
    rw [hc] at hat
    have each : ∀ i, i < len → ∃ q : α, (∀ j v, (cells q)[j]? = some v → W.cell? ((a'.add (i * size)).add j) = some v) ∧ good q := by
      intro i hi
      have h1 := hat i hi
      rw [List.getElem?_eq_getElem (by omega)] at h1
      obtain ⟨cs', h2, h3⟩ := Option.bind_eq_some_iff.1 h1
      obtain ⟨x, rfl, hx⟩ := hel n' cs' _ h3
      obtain ⟨_, _, hcc⟩ := World.cells?_some h2
      refine ⟨x, fun j v hj => ?_, hx⟩
      rw [hcc j (by have := (List.getElem?_eq_some_iff.1 hj).1; rwa [hsz] at this)]
      exact hj
    obtain ⟨q, hq⟩ := choose_lt each
    refine ⟨(List.range len).map q, ⟨by simp, ?_⟩, fun x hx => ?_, Nat.le_trans hlc hcm⟩
    · rcases Nat.eq_zero_or_pos len with rfl | hpos
      · exact .inl rfl
      · right
        obtain ⟨b, o, spot⟩ := a'
        obtain ⟨v0, hv0⟩ : ∃ v0, (cells (q 0))[0]? = some v0 := ⟨(cells (q 0))[0]'(by rw [hsz]; exact hs), by simp⟩
        have c00 := (hq 0 hpos).1 0 _ hv0
        have hspot : spot = none := by simpa [Addr.add] using World.cell?_spot c00
        subst hspot
        refine ⟨b, o, rfl, ?_, fun j x i v hj hi => ?_⟩
        · have := World.block_lt_of_cell? W _ c00
          simpa [Addr.add] using this
        · have hjl : j < len := by have := (List.getElem?_eq_some_iff.1 hj).1; simpa using this
          simp [hjl] at hj
          subst hj
          have := (hq j hjl).1 i v hi
          rw [Addr.add_mid, Addr.add_mid] at this
          exact this
    · obtain ⟨i, hi, rfl⟩ := List.mem_map.1 hx
      exact (hq i (List.mem_range.1 hi)).2
theorem open_sl {α : Type} [Inhabited α] {t e : TypeId} {size : Nat} {W : World} {sp : Nat → Bool} {held : Bool} (ht : P.underlying t = some (.slice e)) (hc : P.cellsOf e = size) (hs : 0 < size) (cells : α → List Value) (good : α → Prop) (hsz : ∀ x, (cells x).length = size)
    (hel : ∀ n cs y, DataW.trod enc P W 0 sp held n e cs = some y → ∃ x, cs = cells x ∧ good x) {c : Value} {fuel : Nat} {x : DataW H × List MemPlace} (h : DataW.trod enc P W 0 sp held fuel t [c] = some x) :
    ∃ a len cap, ∃ xs : List α, c = .slice a len cap ∧ In cells size W a len xs ∧ (∀ x ∈ xs, good x) ∧ len ≤ maxLen := by
  have hsl : ∃ a len cap, c = .slice a len cap := by
    rcases DataW.trod_slice ht h with ⟨e2, _⟩ | ⟨a', len', cap', elems, rest, n', _, e2, _⟩
    · simp at e2; exact ⟨_, _, _, e2⟩
    · simp at e2; exact ⟨_, _, _, e2⟩
  obtain ⟨a, len, cap, rfl⟩ := hsl
  obtain ⟨d, p⟩ := x
  obtain ⟨xs, h1, h2, h3⟩ := open_in ht hc hs cells good hsz hel (a := a) (len := len) (cap := cap) (d := d) (p := p) ⟨fuel, h⟩
  exact ⟨a, len, cap, xs, rfl, h1, h2, h3⟩
end

def cB (x : Int) : List Value := [.int .u8 x]
section
variable {H : Type} {enc : TypeId × Value → H}
theorem cellsU : Try.prog.cellsOf 5 = 1 := by kernel_rfl
theorem cellsTsl : Try.prog.cellsOf 45 = 1 := by kernel_rfl
theorem cellsBack : Try.prog.cellsOf 71 = 8 := by kernel_rfl
theorem list3 {α : Type} (l : List α) (h : l.length = 3) : ∃ a b c, l = [a, b, c] := by
  match l, h with
  | [a, b, c], _ => exact ⟨a, b, c, rfl⟩
theorem list4 {α : Type} (l : List α) (h : l.length = 4) : ∃ a b c d, l = [a, b, c, d] := by
  match l, h with
  | [a, b, c, d], _ => exact ⟨a, b, c, d, rfl⟩
theorem list8 {α : Type} (l : List α) (h : l.length = 8) : ∃ a b c d e f g i, l = [a, b, c, d, e, f, g, i] := by
  match l, h with
  | [a, b, c, d, e, f, g, i], _ => exact ⟨a, b, c, d, e, f, g, i, rfl⟩
theorem open_T3 {W : World} {sp : Nat → Bool} {held : Bool} (n : Nat) (cs : List Value) (x : DataW H × List MemPlace) (h : DataW.trod enc Try.prog W 0 sp held n 31 cs = some x) : ∃ k, cs = cT k ∧ K3.ok k := by
  obtain ⟨_, _, _, _, hcs, _, _⟩ := DataW.trod_array Try.underlying31 h
  rw [cells3] at hcs
  obtain ⟨c0, c1, c2, rfl⟩ := list3 cs hcs
  obtain ⟨y0, y1, y2, m, _, h0, h1, h2⟩ := trod_array3 Try.underlying31 cells1 h
  obtain ⟨x0, e0, _, w0⟩ := DataW.trod_int Try.underlying3 h0
  obtain ⟨x1, e1, _, w1⟩ := DataW.trod_int Try.underlying3 h1
  obtain ⟨x2, e2, _, w2⟩ := DataW.trod_int Try.underlying3 h2
  simp at e0 e1 e2
  subst e0 e1 e2
  exact ⟨(x0, x1, x2), rfl, w0, w1, w2⟩
theorem open_u8 {W : World} {sp : Nat → Bool} {held : Bool} (n : Nat) (cs : List Value) (y : DataW H × List MemPlace) (h : DataW.trod enc Try.prog W 0 sp held n 5 cs = some y) : ∃ k, cs = cB k ∧ 0 ≤ k ∧ k < 256 := by
  obtain ⟨k, e0, _, w0⟩ := DataW.trod_int Try.underlying5 h
  refine ⟨k, e0, ?_⟩
  have : 0 ≤ k ∧ k ≤ 255 := by simpa [Lit.wf, IntKind.has, IntKind.min, IntKind.max, IntKind.signed, IntKind.bits] using w0
  omega
theorem open_T {W : World} {base : Nat} {sp : Nat → Bool} {held : Bool} {v : Value} {d : DataW H} {p : List MemPlace} (hv : Value.okWide Try.prog W .any base 45 v) (h : DataW.Trod enc Try.prog W 0 sp held 45 v d p) :
    ∃ l a len cap, v = .slice a len cap ∧ In cT 3 W a len l ∧ (∀ x ∈ l, K3.ok x) ∧ len ≤ maxLen := by
  obtain ⟨a, n, c, rfl⟩ := okWide_slice Try.underlying45 hv
  obtain ⟨xs, h1, h2, h3⟩ := open_in Try.underlying45 cells3 (by decide) cT K3.ok (fun _ => rfl) open_T3 h
  exact ⟨xs, a, n, c, rfl, h1, h2, h3⟩
theorem open_B {W : World} {base : Nat} {sp : Nat → Bool} {held : Bool} {v : Value} {d : DataW H} {p : List MemPlace} (hv : Value.okWide Try.prog W .any base 66 v) (h : DataW.Trod enc Try.prog W 0 sp held 66 v d p) :
    ∃ l a len cap, v = .slice a len cap ∧ In cB 1 W a len l ∧ (∀ x ∈ l, 0 ≤ x ∧ x < 256) ∧ len ≤ maxLen := by
  obtain ⟨a, n, c, rfl⟩ := okWide_slice Try.underlying66 hv
  obtain ⟨xs, h1, h2, h3⟩ := open_in Try.underlying66 cellsU (by decide) cB (fun x => 0 ≤ x ∧ x < 256) (fun _ => rfl) open_u8 h
  exact ⟨xs, a, n, c, rfl, h1, h2, h3⟩
theorem open_Back {W : World} {base : Nat} {sp : Nat → Bool} {held : Bool} {v : Value} {d : DataW H} {p : List MemPlace} (hv : Value.okWide Try.prog W .any base 71 v) (h : DataW.Trod enc Try.prog W 0 sp held 71 v d p) :
    ∃ l a n c k o y, v = .agg #[.slice a n c, .int .i64 k.1, .int .i64 k.2.1, .int .i64 k.2.2, .int .i64 o.1, .int .i64 o.2.1, .int .i64 o.2.2, .int .u8 y] ∧ In cT 3 W a n l ∧ (∀ x ∈ l, K3.ok x) ∧ K3.ok k ∧ K3.ok o ∧ (0 ≤ y ∧ y < 256) ∧ n ≤ maxLen := by
  obtain ⟨cs, rfl, hsz⟩ := okWide_struct Try.underlying71 hv
  rw [cellsBack] at hsz
  obtain ⟨l⟩ := cs
  obtain ⟨c0, c1, c2, c3, c4, c5, c6, c7, rfl⟩ := list8 l (by simpa using hsz)
  obtain ⟨fuel, hf0⟩ := h
  have hf' : DataW.trod enc Try.prog W 0 sp held fuel 71 [c0, c1, c2, c3, c4, c5, c6, c7] = some (d, p) := by simpa [Value.cells] using hf0
  obtain ⟨xs, n, hn, _, hlen, hxl, hf⟩ := DataW.trod_struct Try.underlying71 hf'
  have hxl' : xs.length = 4 := hxl
  obtain ⟨y0, y1, y2, y3, rfl⟩ := list4 xs hxl'
  have f0 : DataW.trod enc Try.prog W 0 sp held n 45 [c0] = some y0 := by
    have := hf 0 _ rfl
    change DataW.trod enc Try.prog W 0 sp held n 45 (List.take (Try.prog.cellsOf 45) [c0, c1, c2, c3, c4, c5, c6, c7]) = some y0 at this
    rw [cellsTsl] at this
    exact this
  have f1 : DataW.trod enc Try.prog W 0 sp held n 31 [c1, c2, c3] = some y1 := by
    have := hf 1 _ rfl
    change DataW.trod enc Try.prog W 0 sp held n 31 (List.take (Try.prog.cellsOf 31) [c1, c2, c3, c4, c5, c6, c7]) = some y1 at this
    rw [cells3] at this
    exact this
  have f2 : DataW.trod enc Try.prog W 0 sp held n 31 [c4, c5, c6] = some y2 := by
    have := hf 2 _ rfl
    change DataW.trod enc Try.prog W 0 sp held n 31 (List.take (Try.prog.cellsOf 31) [c4, c5, c6, c7]) = some y2 at this
    rw [cells3] at this
    exact this
  have f3 : DataW.trod enc Try.prog W 0 sp held n 5 [c7] = some y3 := by
    have := hf 3 _ rfl
    change DataW.trod enc Try.prog W 0 sp held n 5 (List.take (Try.prog.cellsOf 5) [c7]) = some y3 at this
    rw [cellsU] at this
    exact this
  obtain ⟨a, len, cap, l, rfl, h1, h2, h3⟩ := open_sl Try.underlying45 cells3 (by decide) cT K3.ok (fun _ => rfl) open_T3 f0
  obtain ⟨k, e1, hk⟩ := open_T3 _ _ _ f1
  obtain ⟨o, e2, ho⟩ := open_T3 _ _ _ f2
  obtain ⟨y, e3, hy⟩ := open_u8 _ _ _ f3
  unfold cT at e1 e2
  unfold cB at e3
  simp at e1 e2 e3
  obtain ⟨rfl, rfl, rfl⟩ := e1
  obtain ⟨rfl, rfl, rfl⟩ := e2
  subst e3
  exact ⟨l, a, len, cap, k, o, y, rfl, h1, h2, hk, ho, hy, h3⟩
end
end Go.Proofs.Ythiijlngoikhkaa
