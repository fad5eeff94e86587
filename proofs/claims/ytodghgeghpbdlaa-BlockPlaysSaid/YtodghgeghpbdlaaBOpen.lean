/- What comes into the laws on blocks, opened: slices of calls, of triples, of texts. -/
import Derived.Test.YtodghgeghpbdlaaBKeys
import Derived.Test.YtodghgeghpbdlaaBIn
import Derived.OpenShut
import Derived.ShutString
import Derived.Carry
import Derived.Deep.Strs
import Derived.Deep.Slices
import Derived.Laws.IdiomArrays
namespace Go.Proofs.Ytodghgeghpbdlaa
open Go.RowKit Go.ChangeShapes Go.WideShapes Go.ChangeAt Go.Deep
set_option maxRecDepth 100000

theorem own : ownKnob Try.prog.godebug = none := by kernel_rfl

section
variable {H : Type} {enc : TypeId × Value → H} {P : Program}
theorem open_in {α : Type} [Inhabited α] {t e : TypeId} {size : Nat} {W : World} {sp : Nat → Bool} {held : Bool} (ht : P.underlying t = some (.slice e)) (hc : P.cellsOf e = size) (hs : 0 < size) (cells : α → List Value) (good : α → Prop) (hsz : ∀ x, (cells x).length = size)
    (hel : ∀ n cs y, DataW.trod enc P W 0 sp held n e cs = some y → ∃ x, cs = cells x ∧ good x) {a : Option Addr} {len cap : Nat} {d : DataW H} {p : List MemPlace} (h : DataW.Trod enc P W 0 sp held t (.slice a len cap) d p) :
    ∃ xs : List α, In cells size W a len xs ∧ (∀ x ∈ xs, good x) ∧ len ≤ maxLen := by
  obtain ⟨fuel, hf⟩ := h
  rcases DataW.trod_slice ht hf with ⟨e2, _⟩ | ⟨a', len', cap', elems, rest, n', _, e2, _, _, hlc, hcm, hl, hat, _⟩
  · simp [Value.cells] at e2
    obtain ⟨rfl, rfl, rfl⟩ := e2
    exact ⟨[], ⟨rfl, .inl rfl⟩, by simp, Nat.zero_le _⟩
  · simp [Value.cells] at e2
    obtain ⟨rfl, rfl, rfl⟩ := e2
    rw [hc] at hat
    have each : ∀ i, i < len → ∃ q : α, (∀ j v, (cells q)[j]? = some v → W.cell? ((a'.add (i * size)).add j) = some v) ∧ good q := by
      intro i hi
      have h1 := hat i hi
      rw [List.getElem?_eq_getElem (by omega)] at h1
      obtain ⟨cs', h2, h3⟩ := Option.bind_eq_some_iff.1 h1
      obtain ⟨x, rfl, hx⟩ := hel n' cs' _ h3
      obtain ⟨_, _, hcc⟩ := World.cells?_some h2
      refine ⟨x, fun j v hj => ?_, hx⟩
      rw [hcc j (by have := (List.getElem?_eq_some_iff.1 hj).1; rwa [hsz] at this)]
      exact hj
    obtain ⟨q, hq⟩ := choose_lt each
    refine ⟨(List.range len).map q, ⟨by simp, ?_⟩, fun x hx => ?_, Nat.le_trans hlc hcm⟩
    · rcases Nat.eq_zero_or_pos len with rfl | hpos
      · exact .inl rfl
      · right
        obtain ⟨b, o, spot⟩ := a'
        obtain ⟨v0, hv0⟩ : ∃ v0, (cells (q 0))[0]? = some v0 := ⟨(cells (q 0))[0]'(by rw [hsz]; exact hs), by simp⟩
        have c00 := (hq 0 hpos).1 0 _ hv0
        have hspot : spot = none := by simpa [Addr.add] using World.cell?_spot c00
        subst hspot
        refine ⟨b, o, rfl, ?_, fun j x i v hj hi => ?_⟩
        · have := World.block_lt_of_cell? W _ c00
          simpa [Addr.add] using this
        · have hjl : j < len := by have := (List.getElem?_eq_some_iff.1 hj).1; simpa using this
          simp [hjl] at hj
          subst hj
          have := (hq j hjl).1 i v hi
          rw [Addr.add_mid, Addr.add_mid] at this
          exact this
    · obtain ⟨i, hi, rfl⟩ := List.mem_map.1 hx
      exact (hq i (List.mem_range.1 hi)).2
end

/-- A call's cells, a text's, a triple's. -/
def cO (x : Int × ByteArray × Int) : List Value := [.int .i64 x.1, .string x.2.1, .int .i64 x.2.2]
def cS (x : ByteArray) : List Value := [.string x]
def cT (k : T3) : List Value := [.int .i64 k.1, .int .i64 k.2.1, .int .i64 k.2.2]
section
variable {H : Type} {enc : TypeId × Value → H}
theorem cellsStr : Try.prog.cellsOf 9 = 1 := by kernel_rfl
theorem cellsOp : Try.prog.cellsOf 67 = 3 := by kernel_rfl
theorem list2 {α : Type} (l : List α) (h : l.length = 2) : ∃ a b, l = [a, b] := by
  match l, h with
  | [a, b], _ => exact ⟨a, b, rfl⟩
theorem list3 {α : Type} (l : List α) (h : l.length = 3) : ∃ a b c, l = [a, b, c] := by
  match l, h with
  | [a, b, c], _ => exact ⟨a, b, c, rfl⟩
theorem open_Op {W : World} {sp : Nat → Bool} {held : Bool} (fuel : Nat) (cs : List Value) (x : DataW H × List MemPlace) (h : DataW.trod enc Try.prog W 0 sp held fuel 67 cs = some x) : ∃ o, cs = cO o ∧ (KS.ok o.2.1 ∧ KI.ok o.2.2) := by
  obtain ⟨y0, y1, y2, m, _, hl, h0, h1, h2⟩ := trod_struct3 Try.underlying67 h
  rw [cellsOp] at hl
  obtain ⟨c0, c1, c2, rfl⟩ := list3 cs hl
  change DataW.trod enc Try.prog W 0 sp held m 3 (List.take (Try.prog.cellsOf 3) [c0, c1, c2]) = some y0 at h0
  change DataW.trod enc Try.prog W 0 sp held m 9 (List.take (Try.prog.cellsOf 9) [c1, c2]) = some y1 at h1
  change DataW.trod enc Try.prog W 0 sp held m 3 (List.take (Try.prog.cellsOf 3) [c2]) = some y2 at h2
  rw [cells1] at h0 h2
  rw [cellsStr] at h1
  obtain ⟨a, e0, _, w0⟩ := DataW.trod_int Try.underlying3 h0
  obtain ⟨b, e1, _, w1⟩ := DataW.trod_string Try.underlying9 h1
  obtain ⟨c, e2, _, w2⟩ := DataW.trod_int Try.underlying3 h2
  simp at e0 e1 e2
  subst e0 e1 e2
  exact ⟨(a, b, c), rfl, w1, w2⟩
theorem open_O {W : World} {base : Nat} {sp : Nat → Bool} {held : Bool} {v : Value} {d : DataW H} {p : List MemPlace} (hv : Value.okWide Try.prog W .any base 58 v) (h : DataW.Trod enc Try.prog W 0 sp held 58 v d p) :
    ∃ l a len cap, v = .slice a len cap ∧ In cO 3 W a len l ∧ (∀ x ∈ l, KS.ok x.2.1 ∧ KI.ok x.2.2) ∧ len ≤ maxLen := by
  obtain ⟨a, n, c, rfl⟩ := okWide_slice Try.underlying58 hv
  obtain ⟨xs, h1, h2, h3⟩ := open_in Try.underlying58 cellsOp (by decide) cO (fun x => KS.ok x.2.1 ∧ KI.ok x.2.2) (fun _ => rfl) open_Op h
  exact ⟨xs, a, n, c, rfl, h1, h2, h3⟩
theorem open_Q {W : World} {base : Nat} {sp : Nat → Bool} {held : Bool} {v : Value} {d : DataW H} {p : List MemPlace} (hv : Value.okWide Try.prog W .any base 62 v) (h : DataW.Trod enc Try.prog W 0 sp held 62 v d p) :
    ∃ l a len cap, v = .slice a len cap ∧ In cS 1 W a len l ∧ (∀ x ∈ l, KS.ok x) ∧ len ≤ maxLen ∧ len ≤ cap := by
  obtain ⟨a, n, c, rfl⟩ := okWide_slice Try.underlying62 hv
  obtain ⟨xs, h1, h2, h3⟩ := open_in Try.underlying62 cellsStr (by decide) cS KS.ok (fun _ => rfl) (fun n cs y hh => by
    obtain ⟨k, e0, _, w0⟩ := DataW.trod_string Try.underlying9 hh
    exact ⟨k, e0, w0⟩) h
  refine ⟨xs, a, n, c, rfl, h1, h2, h3, ?_⟩
  obtain ⟨fuel, hf⟩ := h
  rcases DataW.trod_slice Try.underlying62 hf with ⟨e2, _⟩ | ⟨a', len', cap', elems, rest, n', _, e2, _, _, hlc, hcm, hl, hat, _⟩
  · simp [Value.cells] at e2
    obtain ⟨rfl, rfl, rfl⟩ := e2
    exact Nat.le_refl _
  · simp [Value.cells] at e2
    obtain ⟨rfl, rfl, rfl⟩ := e2
    exact hlc
theorem open_T3 {W : World} {sp : Nat → Bool} {held : Bool} (n : Nat) (cs : List Value) (x : DataW H × List MemPlace) (h : DataW.trod enc Try.prog W 0 sp held n 38 cs = some x) : ∃ k, cs = cT k ∧ K3.ok k := by
  obtain ⟨_, _, _, _, hcs, _, _⟩ := DataW.trod_array Try.underlying38 h
  rw [cells3] at hcs
  obtain ⟨c0, c1, c2, rfl⟩ := list3 cs hcs
  obtain ⟨y0, y1, y2, m, _, h0, h1, h2⟩ := trod_array3 Try.underlying38 cells1 h
  obtain ⟨x0, e0, _, w0⟩ := DataW.trod_int Try.underlying3 h0
  obtain ⟨x1, e1, _, w1⟩ := DataW.trod_int Try.underlying3 h1
  obtain ⟨x2, e2, _, w2⟩ := DataW.trod_int Try.underlying3 h2
  simp at e0 e1 e2
  subst e0 e1 e2
  exact ⟨(x0, x1, x2), rfl, w0, w1, w2⟩
theorem open_T {W : World} {base : Nat} {sp : Nat → Bool} {held : Bool} {v : Value} {d : DataW H} {p : List MemPlace} (hv : Value.okWide Try.prog W .any base 81 v) (h : DataW.Trod enc Try.prog W 0 sp held 81 v d p) :
    ∃ l a len cap, v = .slice a len cap ∧ In cT 3 W a len l ∧ (∀ x ∈ l, K3.ok x) ∧ len ≤ maxLen ∧ len ≤ cap := by
  obtain ⟨a, n, c, rfl⟩ := okWide_slice Try.underlying81 hv
  obtain ⟨xs, h1, h2, h3⟩ := open_in Try.underlying81 cells3 (by decide) cT K3.ok (fun _ => rfl) open_T3 h
  refine ⟨xs, a, n, c, rfl, h1, h2, h3, ?_⟩
  obtain ⟨fuel, hf⟩ := h
  rcases DataW.trod_slice Try.underlying81 hf with ⟨e2, _⟩ | ⟨a', len', cap', elems, rest, n', _, e2, _, _, hlc, hcm, hl, hat, _⟩
  · simp [Value.cells] at e2
    obtain ⟨rfl, rfl, rfl⟩ := e2
    exact Nat.le_refl _
  · simp [Value.cells] at e2
    obtain ⟨rfl, rfl, rfl⟩ := e2
    exact hlc
end
end Go.Proofs.Ytodghgeghpbdlaa
