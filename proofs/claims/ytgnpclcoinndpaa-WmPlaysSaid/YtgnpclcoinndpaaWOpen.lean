/- What comes into the laws on memories of facts, opened: numbers; slices of calls, of triples, of bytes. -/
import Derived.Test.YtgnpclcoinndpaaWIn
import Derived.OpenShut
import Derived.Carry
import Derived.Deep.Strs
import Derived.Deep.Slices
import Derived.Laws.IdiomArrays
namespace Go.Proofs.Ytgnpclcoinndpaa
open Go.RowKit Go.ChangeShapes Go.WideShapes Go.ChangeAt Go.Deep
set_option maxRecDepth 100000

theorem own : ownKnob Try.prog.godebug = none := by kernel_rfl
theorem laidOut : laidOutB Try.prog = true := by kernel_rfl
theorem okWide_u16 {P : Program} {w : World} {r : Reach} {base : Nat} {t : TypeId} {v : Value} (ht : P.underlying t = some (.int .u16)) (h : Value.okWide P w r base t v) : ∃ n : Nat, v = .int .u16 n ∧ n ≤ 65535 := by
  obtain ⟨n, rfl⟩ := okWide_int ht h
  simp only [Value.okWide, ht, Cell.okWide, Cell.ok, IntKind.has] at h
  obtain ⟨h1, h2⟩ : IntKind.u16.min ≤ n ∧ n ≤ IntKind.u16.max := by simpa using h
  have e1 : (0 : Int) ≤ n := h1
  have e2 : n ≤ (65535 : Int) := h2
  exact ⟨n.toNat, by rw [Int.toNat_of_nonneg e1], by omega⟩

section
variable {H : Type} {enc : TypeId × Value → H} {P : Program}
theorem open_in {α : Type} [Inhabited α] {t e : TypeId} {size : Nat} {W : World} {sp : Nat → Bool} {held : Bool} (ht : P.underlying t = some (.slice e)) (hc : P.cellsOf e = size) (hs : 0 < size) (cells : α → List Value) (good : α → Prop) (hsz : ∀ x, (cells x).length = size)
    (hel : ∀ n cs y, DataW.trod enc P W 0 sp held n e cs = some y → ∃ x, cs = cells x ∧ good x) {a : Option Addr} {len cap : Nat} {d : DataW H} {p : List MemPlace} (h : DataW.Trod enc P W 0 sp held t (.slice a len cap) d p) :
    ∃ xs : List α, In cells size W a len xs ∧ (∀ x ∈ xs, good x) ∧ len ≤ maxLen := by
  obtain ⟨fuel, hf⟩ := h
  rcases DataW.trod_slice ht hf with ⟨e2, _⟩ | ⟨a', len', cap', elems, rest, n', _, e2, _, _, hlc, hcm, hl, hat, _⟩
  · simp [Value.cells] at e2
    obtain ⟨rfl, rfl, rfl⟩ := e2
    exact ⟨[], ⟨rfl, .inl rfl⟩, by simp, Nat.zero_le _⟩
  · simp [Value.cells] at e2
    obtain ⟨rfl, rfl, rfl⟩ := e2
    rw [hc] at hat
    have each : ∀ i, i < len → ∃ q : α, (∀ j v, (cells q)[j]? = some v → W.cell? ((a'.add (i * size)).add j) = some v) ∧ good q := by
      intro i hi
      have h1 := hat i hi
      rw [List.getElem?_eq_getElem (by omega)] at h1
      obtain ⟨cs', h2, h3⟩ := Option.bind_eq_some_iff.1 h1
      obtain ⟨x, rfl, hx⟩ := hel n' cs' _ h3
      obtain ⟨_, _, hcc⟩ := World.cells?_some h2
      refine ⟨x, fun j v hj => ?_, hx⟩
      rw [hcc j (by have := (List.getElem?_eq_some_iff.1 hj).1; rwa [hsz] at this)]
      exact hj
    obtain ⟨q, hq⟩ := choose_lt each
    refine ⟨(List.range len).map q, ⟨by simp, ?_⟩, fun x hx => ?_, Nat.le_trans hlc hcm⟩
    · rcases Nat.eq_zero_or_pos len with rfl | hpos
      · exact .inl rfl
      · right
        obtain ⟨b, o, spot⟩ := a'
        obtain ⟨v0, hv0⟩ : ∃ v0, (cells (q 0))[0]? = some v0 := ⟨(cells (q 0))[0]'(by rw [hsz]; exact hs), by simp⟩
        have c00 := (hq 0 hpos).1 0 _ hv0
        have hspot : spot = none := by simpa [Addr.add] using World.cell?_spot c00
        subst hspot
        refine ⟨b, o, rfl, ?_, fun j x i v hj hi => ?_⟩
        · have := World.block_lt_of_cell? W _ c00
          simpa [Addr.add] using this
        · have hjl : j < len := by have := (List.getElem?_eq_some_iff.1 hj).1; simpa using this
          simp [hjl] at hj
          subst hj
          have := (hq j hjl).1 i v hi
          rw [Addr.add_mid, Addr.add_mid] at this
          exact this
    · obtain ⟨i, hi, rfl⟩ := List.mem_map.1 hx
      exact (hq i (List.mem_range.1 hi)).2
end

/-- A call's cells, a triple's, a byte's. -/
abbrev Op5 := Bool × T3 × Int
def cO (x : Op5) : List Value := [.bool x.1, .int .i64 x.2.1.1, .int .i64 x.2.1.2.1, .int .i64 x.2.1.2.2, .int .i64 x.2.2]
def cT (k : T3) : List Value := [.int .i64 k.1, .int .i64 k.2.1, .int .i64 k.2.2]
def cB (x : Int) : List Value := [.int .u8 x]
section
variable {H : Type} {enc : TypeId × Value → H}
theorem cellsI : Try.prog.cellsOf 3 = 1 := by kernel_rfl
theorem cellsU : Try.prog.cellsOf 5 = 1 := by kernel_rfl
theorem cells3 : Try.prog.cellsOf 33 = 3 := by kernel_rfl
theorem cellsBool : Try.prog.cellsOf 4 = 1 := by kernel_rfl
theorem cellsOp : Try.prog.cellsOf 35 = 5 := by kernel_rfl
theorem list3 {α : Type} (l : List α) (h : l.length = 3) : ∃ a b c, l = [a, b, c] := by
  match l, h with
  | [a, b, c], _ => exact ⟨a, b, c, rfl⟩
theorem list5 {α : Type} (l : List α) (h : l.length = 5) : ∃ a b c d e, l = [a, b, c, d, e] := by
  match l, h with
  | [a, b, c, d, e], _ => exact ⟨a, b, c, d, e, rfl⟩
theorem open_T3 {W : World} {sp : Nat → Bool} {held : Bool} (n : Nat) (cs : List Value) (x : DataW H × List MemPlace) (h : DataW.trod enc Try.prog W 0 sp held n 33 cs = some x) : ∃ k, cs = cT k ∧ True := by
  obtain ⟨_, _, _, _, hcs, _, _⟩ := DataW.trod_array Try.underlying33 h
  rw [cells3] at hcs
  obtain ⟨c0, c1, c2, rfl⟩ := list3 cs hcs
  obtain ⟨y0, y1, y2, m, _, h0, h1, h2⟩ := trod_array3 Try.underlying33 cellsI h
  obtain ⟨x0, e0, _, w0⟩ := DataW.trod_int Try.underlying3 h0
  obtain ⟨x1, e1, _, w1⟩ := DataW.trod_int Try.underlying3 h1
  obtain ⟨x2, e2, _, w2⟩ := DataW.trod_int Try.underlying3 h2
  simp at e0 e1 e2
  subst e0 e1 e2
  exact ⟨(x0, x1, x2), rfl, trivial⟩
theorem open_Op {W : World} {sp : Nat → Bool} {held : Bool} (fuel : Nat) (cs : List Value) (x : DataW H × List MemPlace) (h : DataW.trod enc Try.prog W 0 sp held fuel 35 cs = some x) : ∃ o, cs = cO o ∧ (Lit.int .i64 o.2.2).wf = true := by
  obtain ⟨xs, n, hn, _, hlen, hxl, hf⟩ := DataW.trod_struct Try.underlying35 h
  rw [cellsOp] at hlen
  obtain ⟨c0, c1, c2, c3, c4, rfl⟩ := list5 cs hlen
  have hxl' : xs.length = 3 := hxl
  obtain ⟨y0, y1, y2, rfl⟩ := list3 xs hxl'
  have f0 := hf 0 _ rfl
  have f1 := hf 1 _ rfl
  have f2 := hf 2 _ rfl
  have f0' : DataW.trod enc Try.prog W 0 sp held n 4 [c0] = some y0 := by
    have := f0
    change DataW.trod enc Try.prog W 0 sp held n 4 (List.take (Try.prog.cellsOf 4) [c0, c1, c2, c3, c4]) = some y0 at this
    rw [cellsBool] at this
    exact this
  have f1' : DataW.trod enc Try.prog W 0 sp held n 33 [c1, c2, c3] = some y1 := by
    have := f1
    change DataW.trod enc Try.prog W 0 sp held n 33 (List.take (Try.prog.cellsOf 33) [c1, c2, c3, c4]) = some y1 at this
    rw [cells3] at this
    exact this
  have f2' : DataW.trod enc Try.prog W 0 sp held n 3 [c4] = some y2 := by
    have := f2
    change DataW.trod enc Try.prog W 0 sp held n 3 (List.take (Try.prog.cellsOf 3) [c4]) = some y2 at this
    rw [cellsI] at this
    exact this
  obtain ⟨b, e0, _⟩ := DataW.trod_bool Try.underlying4 f0'
  obtain ⟨k, e1, _⟩ := open_T3 _ _ _ f1'
  obtain ⟨i, e2, _, w2⟩ := DataW.trod_int Try.underlying3 f2'
  unfold cT at e1
  simp at e0 e1 e2
  obtain ⟨e1, e3, e4⟩ := e1
  subst e0 e1 e2 e3 e4
  exact ⟨(b, k, i), rfl, w2⟩
theorem open_O {W : World} {base : Nat} {sp : Nat → Bool} {held : Bool} {v : Value} {d : DataW H} {p : List MemPlace} (hv : Value.okWide Try.prog W .any base 22 v) (h : DataW.Trod enc Try.prog W 0 sp held 22 v d p) :
    ∃ l a len cap, v = .slice a len cap ∧ In cO 5 W a len l ∧ (∀ x ∈ l, (Lit.int .i64 x.2.2).wf = true) ∧ len ≤ maxLen := by
  obtain ⟨a, n, c, rfl⟩ := okWide_slice Try.underlying22 hv
  obtain ⟨xs, h1, h2, h3⟩ := open_in Try.underlying22 cellsOp (by decide) cO (fun x => (Lit.int .i64 x.2.2).wf = true) (fun _ => rfl) open_Op h
  exact ⟨xs, a, n, c, rfl, h1, h2, h3⟩
theorem open_T {W : World} {base : Nat} {sp : Nat → Bool} {held : Bool} {v : Value} {d : DataW H} {p : List MemPlace} (hv : Value.okWide Try.prog W .any base 56 v) (h : DataW.Trod enc Try.prog W 0 sp held 56 v d p) :
    ∃ l a len cap, v = .slice a len cap ∧ In cT 3 W a len l ∧ (∀ x ∈ l, True) ∧ len ≤ maxLen := by
  obtain ⟨a, n, c, rfl⟩ := okWide_slice Try.underlying56 hv
  obtain ⟨xs, h1, h2, h3⟩ := open_in Try.underlying56 cells3 (by decide) cT (fun _ => True) (fun _ => rfl) open_T3 h
  exact ⟨xs, a, n, c, rfl, h1, h2, h3⟩
theorem open_B {W : World} {base : Nat} {sp : Nat → Bool} {held : Bool} {v : Value} {d : DataW H} {p : List MemPlace} (hv : Value.okWide Try.prog W .any base 57 v) (h : DataW.Trod enc Try.prog W 0 sp held 57 v d p) :
    ∃ l a len cap, v = .slice a len cap ∧ In cB 1 W a len l ∧ (∀ x ∈ l, 0 ≤ x ∧ x ≤ 255) ∧ len ≤ maxLen := by
  obtain ⟨a, n, c, rfl⟩ := okWide_slice Try.underlying57 hv
  obtain ⟨xs, h1, h2, h3⟩ := open_in Try.underlying57 cellsU (by decide) cB (fun x => 0 ≤ x ∧ x ≤ 255) (fun _ => rfl) (fun n cs y hh => by
    obtain ⟨k, e0, _, w0⟩ := DataW.trod_int Try.underlying5 hh
    refine ⟨k, e0, ?_⟩
    simpa [Lit.wf, IntKind.has, IntKind.min, IntKind.max, IntKind.signed, IntKind.bits] using w0) h
  exact ⟨xs, a, n, c, rfl, h1, h2, h3⟩
end
end Go.Proofs.Ytgnpclcoinndpaa
