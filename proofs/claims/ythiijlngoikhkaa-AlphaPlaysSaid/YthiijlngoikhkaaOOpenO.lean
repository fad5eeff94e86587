/- What comes into AlphaPlays, opened: a slice of calls, each with a slice of facts. -/
import Derived.Test.YthiijlngoikhkaaOPair
import Derived.Test.YthiijlngoikhkaaOOpen
namespace Go.Proofs.Ythiijlngoikhkaa
open Go.RowKit Go.ChangeShapes Go.WideShapes Go.ChangeAt Go.Deep
set_option maxRecDepth 100000

/-- A call, as it lies. -/
structure OpV where
  kd : Int
  k : T3
  t : T3
  i : Int
  a : Option Addr
  n : Nat
  c : Nat
  fs : List F4
instance : Inhabited OpV := ⟨⟨0, (0, 0, 0), (0, 0, 0), 0, none, 0, 0, []⟩⟩
def cO (o : OpV) : List Value := [.int .i64 o.kd, .int .i64 o.k.1, .int .i64 o.k.2.1, .int .i64 o.k.2.2, .int .i64 o.t.1, .int .i64 o.t.2.1, .int .i64 o.t.2.2, .int .i64 o.i, .slice o.a o.n o.c]
theorem cO_len (o : OpV) : (cO o).length = 9 := rfl
/-- What is known of a call that came in. -/
def OpOk (W : World) (o : OpV) : Prop := K3.ok o.k ∧ K3.ok o.t ∧ (Lit.int .i64 o.i).wf = true ∧ In cF 4 W o.a o.n o.fs ∧ (∀ f ∈ o.fs, (Lit.int .i64 f.1).wf = true ∧ K3.ok f.2) ∧ o.n ≤ maxLen
section
variable {H : Type} {enc : TypeId × Value → H}
theorem cellsF : Try.prog.cellsOf 51 = 4 := by kernel_rfl
theorem cellsFsl : Try.prog.cellsOf 32 = 1 := by kernel_rfl
theorem cellsO : Try.prog.cellsOf 34 = 9 := by kernel_rfl
theorem list5 {α : Type} (l : List α) (h : l.length = 5) : ∃ a b c d e, l = [a, b, c, d, e] := by
  match l, h with
  | [a, b, c, d, e], _ => exact ⟨a, b, c, d, e, rfl⟩
theorem list9 {α : Type} (l : List α) (h : l.length = 9) : ∃ a b c d e f g i j, l = [a, b, c, d, e, f, g, i, j] := by
  match l, h with
  | [a, b, c, d, e, f, g, i, j], _ => exact ⟨a, b, c, d, e, f, g, i, j, rfl⟩
theorem list2 {α : Type} (l : List α) (h : l.length = 2) : ∃ a b, l = [a, b] := by
  match l, h with
  | [a, b], _ => exact ⟨a, b, rfl⟩
theorem open_F {W : World} {sp : Nat → Bool} {held : Bool} (fuel : Nat) (cs : List Value) (x : DataW H × List MemPlace) (h : DataW.trod enc Try.prog W 0 sp held fuel 51 cs = some x) : ∃ f : F4, cs = cF f ∧ (Lit.int .i64 f.1).wf = true ∧ K3.ok f.2 := by
  obtain ⟨xs, n, hn, _, hlen, hxl, hf⟩ := DataW.trod_struct Try.underlying51 h
  rw [cellsF] at hlen
  obtain ⟨c0, c1, c2, c3, rfl⟩ := list4 cs hlen
  have hxl' : xs.length = 2 := hxl
  obtain ⟨y0, y1, rfl⟩ := list2 xs hxl'
  have f0 : DataW.trod enc Try.prog W 0 sp held n 3 [c0] = some y0 := by
    have := hf 0 _ rfl
    change DataW.trod enc Try.prog W 0 sp held n 3 (List.take (Try.prog.cellsOf 3) [c0, c1, c2, c3]) = some y0 at this
    rw [cells1] at this
    exact this
  have f1 : DataW.trod enc Try.prog W 0 sp held n 31 [c1, c2, c3] = some y1 := by
    have := hf 1 _ rfl
    change DataW.trod enc Try.prog W 0 sp held n 31 (List.take (Try.prog.cellsOf 31) [c1, c2, c3]) = some y1 at this
    rw [cells3] at this
    exact this
  obtain ⟨i, e0, _, w0⟩ := DataW.trod_int Try.underlying3 f0
  obtain ⟨k, e1, hk⟩ := open_T3 _ _ _ f1
  unfold cT at e1
  simp at e0 e1
  obtain ⟨rfl, rfl, rfl⟩ := e1
  subst e0
  exact ⟨(i, k), rfl, w0, hk⟩
theorem open_OpV {W : World} {sp : Nat → Bool} {held : Bool} (fuel : Nat) (cs : List Value) (x : DataW H × List MemPlace) (h : DataW.trod enc Try.prog W 0 sp held fuel 34 cs = some x) : ∃ o, cs = cO o ∧ OpOk W o := by
  obtain ⟨xs, n, hn, _, hlen, hxl, hf⟩ := DataW.trod_struct Try.underlying34 h
  rw [cellsO] at hlen
  obtain ⟨c0, c1, c2, c3, c4, c5, c6, c7, c8, rfl⟩ := list9 cs hlen
  have hxl' : xs.length = 5 := hxl
  obtain ⟨y0, y1, y2, y3, y4, rfl⟩ := list5 xs hxl'
  have f0 : DataW.trod enc Try.prog W 0 sp held n 3 [c0] = some y0 := by
    have := hf 0 _ rfl
    change DataW.trod enc Try.prog W 0 sp held n 3 (List.take (Try.prog.cellsOf 3) [c0, c1, c2, c3, c4, c5, c6, c7, c8]) = some y0 at this
    rw [cells1] at this
    exact this
  have f1 : DataW.trod enc Try.prog W 0 sp held n 31 [c1, c2, c3] = some y1 := by
    have := hf 1 _ rfl
    change DataW.trod enc Try.prog W 0 sp held n 31 (List.take (Try.prog.cellsOf 31) [c1, c2, c3, c4, c5, c6, c7, c8]) = some y1 at this
    rw [cells3] at this
    exact this
  have f2 : DataW.trod enc Try.prog W 0 sp held n 31 [c4, c5, c6] = some y2 := by
    have := hf 2 _ rfl
    change DataW.trod enc Try.prog W 0 sp held n 31 (List.take (Try.prog.cellsOf 31) [c4, c5, c6, c7, c8]) = some y2 at this
    rw [cells3] at this
    exact this
  have f3 : DataW.trod enc Try.prog W 0 sp held n 3 [c7] = some y3 := by
    have := hf 3 _ rfl
    change DataW.trod enc Try.prog W 0 sp held n 3 (List.take (Try.prog.cellsOf 3) [c7, c8]) = some y3 at this
    rw [cells1] at this
    exact this
  have f4 : DataW.trod enc Try.prog W 0 sp held n 32 [c8] = some y4 := by
    have := hf 4 _ rfl
    change DataW.trod enc Try.prog W 0 sp held n 32 (List.take (Try.prog.cellsOf 32) [c8]) = some y4 at this
    rw [cellsFsl] at this
    exact this
  obtain ⟨kd, e0, _, _⟩ := DataW.trod_int Try.underlying3 f0
  obtain ⟨k, e1, hk⟩ := open_T3 _ _ _ f1
  obtain ⟨t, e2, ht⟩ := open_T3 _ _ _ f2
  obtain ⟨i, e3, _, hi⟩ := DataW.trod_int Try.underlying3 f3
  obtain ⟨a, len, cap, fs, rfl, h1, h2, h3⟩ := open_sl Try.underlying32 cellsF (by decide) cF (fun f => (Lit.int .i64 f.1).wf = true ∧ K3.ok f.2) (fun _ => rfl) open_F f4
  unfold cT at e1 e2
  simp at e0 e1 e2 e3
  obtain ⟨rfl, rfl, rfl⟩ := e1
  obtain ⟨rfl, rfl, rfl⟩ := e2
  subst e0 e3
  exact ⟨⟨kd, k, t, i, a, len, cap, fs⟩, rfl, hk, ht, hi, h1, h2, h3⟩
theorem open_O {W : World} {base : Nat} {sp : Nat → Bool} {held : Bool} {v : Value} {d : DataW H} {p : List MemPlace} (hv : Value.okWide Try.prog W .any base 22 v) (h : DataW.Trod enc Try.prog W 0 sp held 22 v d p) :
    ∃ l a len cap, v = .slice a len cap ∧ In cO 9 W a len l ∧ (∀ x ∈ l, OpOk W x) ∧ len ≤ maxLen := by
  obtain ⟨a, n, c, rfl⟩ := okWide_slice Try.underlying22 hv
  obtain ⟨xs, h1, h2, h3⟩ := open_in Try.underlying22 cellsO (by decide) cO (OpOk W) cO_len open_OpV h
  exact ⟨xs, a, n, c, rfl, h1, h2, h3⟩
end
end Go.Proofs.Ythiijlngoikhkaa
