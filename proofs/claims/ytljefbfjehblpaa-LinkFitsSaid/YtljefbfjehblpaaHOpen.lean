/- What comes into the laws on links, opened: a link, four numbers, a byte, bytes. -/
import Derived.Test.YtljefbfjehblpaaHB
import Derived.Test.YtljefbfjehblpaaIn
import Derived.OpenShut
import Derived.Carry
import Derived.Deep.Strs
import Derived.Deep.Slices
import Derived.Laws.IdiomArrays
namespace Go.Proofs.Ytljefbfjehblpaa
open Go.RowKit Go.ChangeShapes Go.WideShapes Go.ChangeAt Go.Deep
set_option maxRecDepth 100000

theorem own : ownKnob Try.prog.godebug = none := by kernel_rfl
theorem laidOut : laidOutB Try.prog = true := by kernel_rfl
theorem okWide_u8 {P : Program} {w : World} {r : Reach} {base : Nat} {t : TypeId} {v : Value} (ht : P.underlying t = some (.int .u8)) (h : Value.okWide P w r base t v) : ∃ n, v = .int .u8 n ∧ 0 ≤ n ∧ n < 256 := by
  obtain ⟨n, rfl⟩ := okWide_int ht h
  refine ⟨n, rfl, ?_⟩
  simp only [Value.okWide, ht, Cell.okWide, Cell.ok, IntKind.has] at h
  obtain ⟨h1, h2⟩ : IntKind.u8.min ≤ n ∧ n ≤ IntKind.u8.max := by simpa using h
  have e1 : (0 : Int) ≤ n := h1
  have e2 : n ≤ (255 : Int) := h2
  omega
section
variable {H : Type} {enc : TypeId × Value → H} {P : Program}
theorem open_in {α : Type} [Inhabited α] {t e : TypeId} {size : Nat} {W : World} {sp : Nat → Bool} {held : Bool} (ht : P.underlying t = some (.slice e)) (hc : P.cellsOf e = size) (hs : 0 < size) (cells : α → List Value) (good : α → Prop) (hsz : ∀ x, (cells x).length = size)
    (hel : ∀ n cs y, DataW.trod enc P W 0 sp held n e cs = some y → ∃ x, cs = cells x ∧ good x) {a : Option Addr} {len cap : Nat} {d : DataW H} {p : List MemPlace} (h : DataW.Trod enc P W 0 sp held t (.slice a len cap) d p) :
    ∃ xs : List α, In cells size W a len xs ∧ (∀ x ∈ xs, good x) ∧ len ≤ maxLen := by
  obtain ⟨fuel, hf⟩ := h
  rcases DataW.trod_slice ht hf with ⟨e2, _⟩ | ⟨a', len', cap', elems, rest, n', _, e2, _, _, hlc, hcm, hl, hat, _⟩
  · simp [Value.cells] at e2
    obtain ⟨rfl, rfl, rfl⟩ := e2
    exact ⟨[], ⟨rfl, .inl rfl⟩, by simp, Nat.zero_le _⟩
  · simp [Value.cells] at e2
    obtain ⟨rfl, rfl, rfl⟩ := e2
    rw [hc] at hat
    have each : ∀ i, i < len → ∃ q : α, (∀ j v, (cells q)[j]? = some v → W.cell? ((a'.add (i * size)).add j) = some v) ∧ good q := by
      intro i hi
      have h1 := hat i hi
      rw [List.getElem?_eq_getElem (by omega)] at h1
      obtain ⟨cs', h2, h3⟩ := Option.bind_eq_some_iff.1 h1
      obtain ⟨x, rfl, hx⟩ := hel n' cs' _ h3
      obtain ⟨_, _, hcc⟩ := World.cells?_some h2
      refine ⟨x, fun j v hj => ?_, hx⟩
      rw [hcc j (by have := (List.getElem?_eq_some_iff.1 hj).1; rwa [hsz] at this)]
      exact hj
    obtain ⟨q, hq⟩ := choose_lt each
    refine ⟨(List.range len).map q, ⟨by simp, ?_⟩, fun x hx => ?_, Nat.le_trans hlc hcm⟩
    · rcases Nat.eq_zero_or_pos len with rfl | hpos
      · exact .inl rfl
      · right
        obtain ⟨b, o, spot⟩ := a'
        obtain ⟨v0, hv0⟩ : ∃ v0, (cells (q 0))[0]? = some v0 := ⟨(cells (q 0))[0]'(by rw [hsz]; exact hs), by simp⟩
        have c00 := (hq 0 hpos).1 0 _ hv0
        have hspot : spot = none := by simpa [Addr.add] using World.cell?_spot c00
        subst hspot
        refine ⟨b, o, rfl, ?_, fun j x i v hj hi => ?_⟩
        · have := World.block_lt_of_cell? W _ c00
          simpa [Addr.add] using this
        · have hjl : j < len := by have := (List.getElem?_eq_some_iff.1 hj).1; simpa using this
          simp [hjl] at hj
          subst hj
          have := (hq j hjl).1 i v hi
          rw [Addr.add_mid, Addr.add_mid] at this
          exact this
    · obtain ⟨i, hi, rfl⟩ := List.mem_map.1 hx
      exact (hq i (List.mem_range.1 hi)).2
end

def cB (x : Int) : List Value := [.int .u8 x]
section
variable {H : Type} {enc : TypeId × Value → H}
theorem cellsI : Try.prog.cellsOf 3 = 1 := by kernel_rfl
theorem cellsU : Try.prog.cellsOf 5 = 1 := by kernel_rfl
theorem cellsBool : Try.prog.cellsOf 4 = 1 := by kernel_rfl
theorem cellsK : Try.prog.cellsOf 23 = 2 := by kernel_rfl
theorem cellsF : Try.prog.cellsOf 25 = 4 := by kernel_rfl
theorem list2 {α : Type} (l : List α) (h : l.length = 2) : ∃ a b, l = [a, b] := by
  match l, h with
  | [a, b], _ => exact ⟨a, b, rfl⟩
theorem list4 {α : Type} (l : List α) (h : l.length = 4) : ∃ a b c d, l = [a, b, c, d] := by
  match l, h with
  | [a, b, c, d], _ => exact ⟨a, b, c, d, rfl⟩
theorem open_K {W : World} {base : Nat} {sp : Nat → Bool} {held : Bool} {v : Value} {d : DataW H} {p : List MemPlace} (hv : Value.okWide Try.prog W .any base 23 v) (h : DataW.Trod enc Try.prog W 0 sp held 23 v d p) :
    ∃ x y, v = .agg #[.bool x, .bool y] := by
  obtain ⟨cs, rfl, hsz⟩ := okWide_struct Try.underlying23 hv
  rw [cellsK] at hsz
  obtain ⟨l⟩ := cs
  obtain ⟨c0, c1, rfl⟩ := list2 l (by simpa using hsz)
  obtain ⟨fuel, hf0⟩ := h
  have hf' : DataW.trod enc Try.prog W 0 sp held fuel 23 [c0, c1] = some (d, p) := by simpa [Value.cells] using hf0
  obtain ⟨xs, n, hn, _, hlen, hxl, hf⟩ := DataW.trod_struct Try.underlying23 hf'
  have hxl' : xs.length = 2 := hxl
  obtain ⟨y0, y1, rfl⟩ := list2 xs hxl'
  have f0 : DataW.trod enc Try.prog W 0 sp held n 4 [c0] = some y0 := by
    have := hf 0 _ rfl
    change DataW.trod enc Try.prog W 0 sp held n 4 (List.take (Try.prog.cellsOf 4) [c0, c1]) = some y0 at this
    rw [cellsBool] at this
    exact this
  have f1 : DataW.trod enc Try.prog W 0 sp held n 4 [c1] = some y1 := by
    have := hf 1 _ rfl
    change DataW.trod enc Try.prog W 0 sp held n 4 (List.take (Try.prog.cellsOf 4) [c1]) = some y1 at this
    rw [cellsBool] at this
    exact this
  obtain ⟨a0, e0, _⟩ := DataW.trod_bool Try.underlying4 f0
  obtain ⟨a1, e1, _⟩ := DataW.trod_bool Try.underlying4 f1
  simp at e0 e1
  subst e0 e1
  exact ⟨a0, a1, rfl⟩
theorem open_F {W : World} {base : Nat} {sp : Nat → Bool} {held : Bool} {v : Value} {d : DataW H} {p : List MemPlace} (hv : Value.okWide Try.prog W .any base 25 v) (h : DataW.Trod enc Try.prog W 0 sp held 25 v d p) :
    ∃ x y z u, v = .agg #[.int .i64 x, .int .i64 y, .int .i64 z, .int .i64 u] := by
  obtain ⟨cs, rfl, hsz⟩ := okWide_struct Try.underlying25 hv
  rw [cellsF] at hsz
  obtain ⟨l⟩ := cs
  obtain ⟨c0, c1, c2, c3, rfl⟩ := list4 l (by simpa using hsz)
  obtain ⟨fuel, hf0⟩ := h
  have hf' : DataW.trod enc Try.prog W 0 sp held fuel 25 [c0, c1, c2, c3] = some (d, p) := by simpa [Value.cells] using hf0
  obtain ⟨xs, n, hn, _, hlen, hxl, hf⟩ := DataW.trod_struct Try.underlying25 hf'
  have hxl' : xs.length = 4 := hxl
  obtain ⟨y0, y1, y2, y3, rfl⟩ := list4 xs hxl'
  have f0 : DataW.trod enc Try.prog W 0 sp held n 3 [c0] = some y0 := by
    have := hf 0 _ rfl
    change DataW.trod enc Try.prog W 0 sp held n 3 (List.take (Try.prog.cellsOf 3) [c0, c1, c2, c3]) = some y0 at this
    rw [cellsI] at this
    exact this
  have f1 : DataW.trod enc Try.prog W 0 sp held n 3 [c1] = some y1 := by
    have := hf 1 _ rfl
    change DataW.trod enc Try.prog W 0 sp held n 3 (List.take (Try.prog.cellsOf 3) [c1, c2, c3]) = some y1 at this
    rw [cellsI] at this
    exact this
  have f2 : DataW.trod enc Try.prog W 0 sp held n 3 [c2] = some y2 := by
    have := hf 2 _ rfl
    change DataW.trod enc Try.prog W 0 sp held n 3 (List.take (Try.prog.cellsOf 3) [c2, c3]) = some y2 at this
    rw [cellsI] at this
    exact this
  have f3 : DataW.trod enc Try.prog W 0 sp held n 3 [c3] = some y3 := by
    have := hf 3 _ rfl
    change DataW.trod enc Try.prog W 0 sp held n 3 (List.take (Try.prog.cellsOf 3) [c3]) = some y3 at this
    rw [cellsI] at this
    exact this
  obtain ⟨a0, e0, _⟩ := DataW.trod_int Try.underlying3 f0
  obtain ⟨a1, e1, _⟩ := DataW.trod_int Try.underlying3 f1
  obtain ⟨a2, e2, _⟩ := DataW.trod_int Try.underlying3 f2
  obtain ⟨a3, e3, _⟩ := DataW.trod_int Try.underlying3 f3
  simp at e0 e1 e2 e3
  subst e0 e1 e2 e3
  exact ⟨a0, a1, a2, a3, rfl⟩
theorem open_B {W : World} {base : Nat} {sp : Nat → Bool} {held : Bool} {v : Value} {d : DataW H} {p : List MemPlace} (hv : Value.okWide Try.prog W .any base 37 v) (h : DataW.Trod enc Try.prog W 0 sp held 37 v d p) :
    ∃ l a len cap, v = .slice a len cap ∧ In cB 1 W a len l ∧ (∀ x ∈ l, 0 ≤ x ∧ x ≤ 255) ∧ len ≤ maxLen := by
  obtain ⟨a, n, c, rfl⟩ := okWide_slice Try.underlying37 hv
  obtain ⟨xs, h1, h2, h3⟩ := open_in Try.underlying37 cellsU (by decide) cB (fun x => 0 ≤ x ∧ x ≤ 255) (fun _ => rfl) (fun n cs y hh => by
    obtain ⟨k, e0, _, w0⟩ := DataW.trod_int Try.underlying5 hh
    refine ⟨k, e0, ?_⟩
    simpa [Lit.wf, IntKind.has, IntKind.min, IntKind.max, IntKind.signed, IntKind.bits] using w0) h
  exact ⟨xs, a, n, c, rfl, h1, h2, h3⟩
end
end Go.Proofs.Ytljefbfjehblpaa
