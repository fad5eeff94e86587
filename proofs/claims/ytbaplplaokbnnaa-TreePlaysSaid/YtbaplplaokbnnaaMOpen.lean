/- What comes into the laws on trees, opened: slices of numbers, of calls. -/
import Derived.Test.YtbaplplaokbnnaaMKeys
import Derived.Test.YtbaplplaokbnnaaIn
import Derived.OpenShut
import Derived.ShutString
import Derived.Carry
import Derived.Deep.Strs
import Derived.Deep.Slices
import Derived.Laws.IdiomArrays
namespace Go.Proofs.Ytbaplplaokbnnaa
open Go.RowKit Go.ChangeShapes Go.WideShapes Go.ChangeAt Go.Deep
set_option maxRecDepth 100000

theorem own : ownKnob Try.prog.godebug = none := by kernel_rfl
section
variable {H : Type} {enc : TypeId × Value → H} {P : Program}
theorem open_in {α : Type} [Inhabited α] {t e : TypeId} {size : Nat} {W : World} {sp : Nat → Bool} {held : Bool} (ht : P.underlying t = some (.slice e)) (hc : P.cellsOf e = size) (hs : 0 < size) (cells : α → List Value) (good : α → Prop) (hsz : ∀ x, (cells x).length = size)
    (hel : ∀ n cs y, DataW.trod enc P W 0 sp held n e cs = some y → ∃ x, cs = cells x ∧ good x) {a : Option Addr} {len cap : Nat} {d : DataW H} {p : List MemPlace} (h : DataW.Trod enc P W 0 sp held t (.slice a len cap) d p) :
    ∃ xs : List α, In cells size W a len xs ∧ (∀ x ∈ xs, good x) ∧ len ≤ maxLen := by
  obtain ⟨fuel, hf⟩ := h
  rcases DataW.trod_slice ht hf with ⟨e2, _⟩ | ⟨a', len', cap', elems, rest, n', _, e2, _, _, hlc, hcm, hl, hat, _⟩
  · simp [Value.cells] at e2
    obtain ⟨rfl, rfl, rfl⟩ := e2
    exact ⟨[], ⟨rfl, .inl rfl⟩, by simp, Nat.zero_le _⟩
  · simp [Value.cells] at e2
    obtain ⟨rfl, rfl, rfl⟩ := e2
    rw [hc] at hat
    have each : ∀ i, i < len → ∃ q : α, (∀ j v, (cells q)[j]? = some v → W.cell? ((a'.add (i * size)).add j) = some v) ∧ good q := by
      intro i hi
      have h1 := hat i hi
      rw [List.getElem?_eq_getElem (by omega)] at h1
      obtain ⟨cs', h2, h3⟩ := Option.bind_eq_some_iff.1 h1
      obtain ⟨x, rfl, hx⟩ := hel n' cs' _ h3
      obtain ⟨_, _, hcc⟩ := World.cells?_some h2
      refine ⟨x, fun j v hj => ?_, hx⟩
      rw [hcc j (by have := (List.getElem?_eq_some_iff.1 hj).1; rwa [hsz] at this)]
      exact hj
    obtain ⟨q, hq⟩ := choose_lt each
    refine ⟨(List.range len).map q, ⟨by simp, ?_⟩, fun x hx => ?_, Nat.le_trans hlc hcm⟩
    · rcases Nat.eq_zero_or_pos len with rfl | hpos
      · exact .inl rfl
      · right
        obtain ⟨b, o, spot⟩ := a'
        obtain ⟨v0, hv0⟩ : ∃ v0, (cells (q 0))[0]? = some v0 := ⟨(cells (q 0))[0]'(by rw [hsz]; exact hs), by simp⟩
        have c00 := (hq 0 hpos).1 0 _ hv0
        have hspot : spot = none := by simpa [Addr.add] using World.cell?_spot c00
        subst hspot
        refine ⟨b, o, rfl, ?_, fun j x i v hj hi => ?_⟩
        · have := World.block_lt_of_cell? W _ c00
          simpa [Addr.add] using this
        · have hjl : j < len := by have := (List.getElem?_eq_some_iff.1 hj).1; simpa using this
          simp [hjl] at hj
          subst hj
          have := (hq j hjl).1 i v hi
          rw [Addr.add_mid, Addr.add_mid] at this
          exact this
    · obtain ⟨i, hi, rfl⟩ := List.mem_map.1 hx
      exact (hq i (List.mem_range.1 hi)).2
end

/-- A call. -/
structure Opn where
  gone : Bool
  id : Int
  at_ : ByteArray
  fact : Int
instance : Inhabited Opn := ⟨⟨false, 0, ⟨#[]⟩, 0⟩⟩
def Opn.good (o : Opn) : Prop := (Lit.int .i64 o.id).wf = true ∧ o.at_.size ≤ maxLen ∧ (Lit.int .i64 o.fact).wf = true
def cO (x : Opn) : List Value := [.bool x.gone, .int .i64 x.id, .string x.at_, .int .i64 x.fact]
theorem cO_len (x : Opn) : (cO x).length = 4 := rfl
section
variable {H : Type} {enc : TypeId × Value → H}
theorem cellsStr : Try.prog.cellsOf 9 = 1 := by kernel_rfl
theorem cellsBool : Try.prog.cellsOf 4 = 1 := by kernel_rfl
theorem cellsInt : Try.prog.cellsOf 3 = 1 := by kernel_rfl
theorem cellsOp : Try.prog.cellsOf 29 = 4 := by kernel_rfl
theorem list4 {α : Type} (l : List α) (h : l.length = 4) : ∃ a b c d, l = [a, b, c, d] := by
  match l, h with
  | [a, b, c, d], _ => exact ⟨a, b, c, d, rfl⟩
theorem open_Op {W : World} {sp : Nat → Bool} {held : Bool} (fuel : Nat) (cs : List Value) (x : DataW H × List MemPlace) (h : DataW.trod enc Try.prog W 0 sp held fuel 29 cs = some x) : ∃ o, cs = cO o ∧ o.good := by
  obtain ⟨xs, n, hn, _, hlen, hxl, hf⟩ := DataW.trod_struct Try.underlying29 h
  rw [cellsOp] at hlen
  obtain ⟨c0, c1, c2, c3, rfl⟩ := list4 cs hlen
  have hxl' : xs.length = 4 := hxl
  obtain ⟨y0, y1, y2, y3, rfl⟩ := list4 xs hxl'
  have f0' : DataW.trod enc Try.prog W 0 sp held n 4 [c0] = some y0 := by
    have := hf 0 _ rfl
    change DataW.trod enc Try.prog W 0 sp held n 4 (List.take (Try.prog.cellsOf 4) [c0, c1, c2, c3]) = some y0 at this
    rw [cellsBool] at this
    exact this
  have f1' : DataW.trod enc Try.prog W 0 sp held n 3 [c1] = some y1 := by
    have := hf 1 _ rfl
    change DataW.trod enc Try.prog W 0 sp held n 3 (List.take (Try.prog.cellsOf 3) [c1, c2, c3]) = some y1 at this
    rw [cellsInt] at this
    exact this
  have f2' : DataW.trod enc Try.prog W 0 sp held n 9 [c2] = some y2 := by
    have := hf 2 _ rfl
    change DataW.trod enc Try.prog W 0 sp held n 9 (List.take (Try.prog.cellsOf 9) [c2, c3]) = some y2 at this
    rw [cellsStr] at this
    exact this
  have f3' : DataW.trod enc Try.prog W 0 sp held n 3 [c3] = some y3 := by
    have := hf 3 _ rfl
    change DataW.trod enc Try.prog W 0 sp held n 3 (List.take (Try.prog.cellsOf 3) [c3]) = some y3 at this
    rw [cellsInt] at this
    exact this
  obtain ⟨b, e0, _⟩ := DataW.trod_bool Try.underlying4 f0'
  obtain ⟨i, e1, _, w1⟩ := DataW.trod_int Try.underlying3 f1'
  obtain ⟨s, e2, _, w2⟩ := DataW.trod_string Try.underlying9 f2'
  obtain ⟨f, e3, _, w3⟩ := DataW.trod_int Try.underlying3 f3'
  simp at e0 e1 e2 e3
  subst e0 e1 e2 e3
  exact ⟨⟨b, i, s, f⟩, rfl, w1, w2, w3⟩
theorem open_O {W : World} {base : Nat} {sp : Nat → Bool} {held : Bool} {v : Value} {d : DataW H} {p : List MemPlace} (hv : Value.okWide Try.prog W .any base 22 v) (h : DataW.Trod enc Try.prog W 0 sp held 22 v d p) :
    ∃ l a len cap, v = .slice a len cap ∧ In cO 4 W a len l ∧ (∀ x ∈ l, x.good) ∧ len ≤ maxLen := by
  obtain ⟨a, n, c, rfl⟩ := okWide_slice Try.underlying22 hv
  obtain ⟨xs, h1, h2, h3⟩ := open_in Try.underlying22 cellsOp (by decide) cO Opn.good (fun _ => rfl) open_Op h
  exact ⟨xs, a, n, c, rfl, h1, h2, h3⟩
theorem open_N {W : World} {base : Nat} {sp : Nat → Bool} {held : Bool} {v : Value} {d : DataW H} {p : List MemPlace} (hv : Value.okWide Try.prog W .any base 38 v) (h : DataW.Trod enc Try.prog W 0 sp held 38 v d p) :
    ∃ l a len cap, v = .slice a len cap ∧ In cN 1 W a len l ∧ (∀ x ∈ l, KI.ok x) ∧ len ≤ maxLen := by
  obtain ⟨a, n, c, rfl⟩ := okWide_slice Try.underlying38 hv
  obtain ⟨xs, h1, h2, h3⟩ := open_in Try.underlying38 cellsInt (by decide) cN KI.ok (fun _ => rfl) (fun n cs y hh => by
    obtain ⟨k, e0, _, w0⟩ := DataW.trod_int Try.underlying3 hh
    exact ⟨k, e0, w0⟩) h
  exact ⟨xs, a, n, c, rfl, h1, h2, h3⟩
theorem open_Str {W : World} {base : Nat} {sp : Nat → Bool} {held : Bool} {v : Value} {d : DataW H} {p : List MemPlace} (hv : Value.okWide Try.prog W .any base 9 v) (h : DataW.Trod enc Try.prog W 0 sp held 9 v d p) : ∃ s : ByteArray, v = .string s ∧ s.size ≤ maxLen := by
  obtain ⟨s, rfl⟩ := okWide_string Try.underlying9 hv
  obtain ⟨fuel, hf⟩ := h
  obtain ⟨s', e, _, w⟩ := DataW.trod_string Try.underlying9 hf
  simp [Value.cells] at e
  exact ⟨s, rfl, by rw [e]; exact w⟩
end
end Go.Proofs.Ytbaplplaokbnnaa
