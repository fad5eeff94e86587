/- From a row's list of variables (three, or five) to what the walks need; the witness's worlds; a match that comes in, and matches, opened. -/
import Derived.Test.YtkffcpjaciomjaaDoorCards
import Derived.Test.YtkffcpjaciomjaaDoorTie
import Derived.Test.YtkffcpjaciomjaaDoorXLawCmp
import Derived.Deep.Slices
import Derived.Deep.DeepHandedRow
import Derived.Deep.DeepWitnessRowRef
import Derived.Lib.LaidTab
import Derived.Stop.LaidErr
import Derived.Laws.IdiomArrays
import Derived.Lay
import Derived.LaidLaws
import Derived.SevenTiedAt
import Derived.OpenShut
import Derived.ShutString
import Derived.Carry
import Derived.ProofKit
namespace Go.Proofs.YtkffcpjaciomjaaDoor
open Go.RowKit Go.ChangeShapes Go.WideShapes Go.ChangeAt Go.Deep
set_option maxRecDepth 1000000

theorem own : ownKnob Tryd.prog.godebug = none := by kernel_rfl
theorem star : "*" ++ "errors.errorString" = "*errors.errorString" := by decide
theorem rowErr (u : TypeId) (h : Tryd.prog.typeName? 3 u = some "*errors.errorString") : u = 131 :=
  typeName_ptr_named (nm := "errors.errorString") (by rw [star]; kernel_rfl) (by kernel_rfl) (by decide) u (by rw [star]; exact h)

/-- The listed variables. -/
def theLaid : List (String × DataW Unit) := Rows.confTextsRow.laid

noncomputable def theWorld (os : Os) : World := World.laidAll Tryd.prog os theLaid
theorem layFits (os : Os) : (World.holding Tryd.prog os ⟨#[], #[], []⟩).layFits Tryd.prog theLaid [] = true := by kernel_rfl
theorem layIfaces (os : Os) : (World.holding Tryd.prog os ⟨#[], #[], []⟩).layIfaces Tryd.prog theLaid (World.laidAll Tryd.prog os theLaid) = true := by kernel_rfl
theorem plainLaid : (theLaid.all fun x => x.2.handleName?.isNone) = true := by kernel_rfl
theorem env_of {W : World} (h : laidMetH Tryd.prog theLaid W) (hs : W.ShapedOpen Tryd.prog) : Env W := by
  rw [MakeChecks.laidMetH_plain _ _ _ plainLaid] at h
  have h2 := h.tail.tail
  have h4 := h2.tail
  have h5 := h4.tail
  obtain ⟨a, s, e1, _⟩ := laid_sentinel (nm := "*errors.errorString") h4 (g := 3) (ti := 78) (tp := 131) (by kernel_rfl) (by kernel_rfl) Tryd.underlying78 rowErr Tryd.underlying131 Tryd.underlying133 rfl rfl Tryd.underlying9 (by kernel_rfl) (by kernel_rfl)
  obtain ⟨b, u, e2, _⟩ := laid_sentinel (nm := "*errors.errorString") h5 (g := 2) (ti := 78) (tp := 131) (by kernel_rfl) (by kernel_rfl) Tryd.underlying78 rowErr Tryd.underlying131 Tryd.underlying133 rfl rfl Tryd.underlying9 (by kernel_rfl) (by kernel_rfl)
  exact ⟨hs, Lib.tabIs_of_head (g := 1) (t := 118) (e := 84) (n := 20) (by kernel_rfl) (by kernel_rfl) Tryd.underlying118 Tryd.underlying84 (by kernel_rfl) (by kernel_rfl) h2, ⟨_, _, e2⟩, _, _, e1⟩

theorem laid_met (os : Os) (args : Array Value) : laidMetH Tryd.prog theLaid ((theWorld os).forCall (fun _ _ => 0) ⟨#[], args, []⟩).memory :=
  Eq.mpr (MakeChecks.laidMetH_plain Tryd.prog theLaid _ plainLaid) (laidMet_laidAll (laid := theLaid) args (layFits os) (layIfaces os))

/-- The three that a law lists which only writes numerals. -/
def laid3 : List (String × DataW Unit) := Rows.confSortsRow.laid
noncomputable def world3 (os : Os) : World := World.laidAll Tryd.prog os laid3
theorem layFits3 (os : Os) : (World.holding Tryd.prog os ⟨#[], #[], []⟩).layFits Tryd.prog laid3 [] = true := by kernel_rfl
theorem layIfaces3 (os : Os) : (World.holding Tryd.prog os ⟨#[], #[], []⟩).layIfaces Tryd.prog laid3 (World.laidAll Tryd.prog os laid3) = true := by kernel_rfl
theorem plain3 : (laid3.all fun x => x.2.handleName?.isNone) = true := by kernel_rfl
theorem tab_of {W : World} (h : laidMetH Tryd.prog laid3 W) (_hs : W.ShapedOpen Tryd.prog) : TabW W := by
  rw [MakeChecks.laidMetH_plain _ _ _ plain3] at h
  have h2 := h.tail.tail
  exact Lib.tabIs_of_head (g := 1) (t := 118) (e := 84) (n := 20) (by kernel_rfl) (by kernel_rfl) Tryd.underlying118 Tryd.underlying84 (by kernel_rfl) (by kernel_rfl) h2
theorem laid_met3 (os : Os) (args : Array Value) : laidMetH Tryd.prog laid3 ((world3 os).forCall (fun _ _ => 0) ⟨#[], args, []⟩).memory :=
  Eq.mpr (MakeChecks.laidMetH_plain Tryd.prog laid3 _ plain3) (laidMet_laidAll (laid := laid3) args (layFits3 os) (layIfaces3 os))

theorem laidOut : laidOutB Tryd.prog = true := by kernel_rfl
section
variable {H : Type} {enc : TypeId × Value → H}
/-- A slice opened: its elements' cells in a row, each opened by R. -/
theorem open_rowsN {Q : Type} [Inhabited Q] {W : World} {sp : Nat → Bool} {held : Bool} {t e : TypeId} {sz : Nat} (hu : Tryd.prog.underlying t = some (.slice e)) (hc : Tryd.prog.cellsOf e = sz) (hz : 0 < sz) (R : List Value → Q → Prop) {fuel : Nat} {c : Value} {x : DataW H × List MemPlace} (h : DataW.trod enc Tryd.prog W 0 sp held fuel t [c] = some x)
    (el : ∀ n, n < fuel → ∀ cs x, DataW.trod enc Tryd.prog W 0 sp held n e cs = some x → ∃ q, R cs q) :
    ∃ a len cap, c = .slice a len cap ∧ len ≤ cap ∧ cap ≤ maxLen ∧ (len = 0 ∨ ∃ (b o : Nat) (q : Nat → Q), a = some ⟨b, o, none⟩ ∧ b < W.heap.size ∧ ∀ i, i < len → ∃ cs, R cs (q i) ∧ W.rangeAt b (o + i * sz) cs) := by
  rcases DataW.trod_slice hu h with ⟨e2, _⟩ | ⟨a, len, cap, elems, rest, n', hn', e2, ex, _, hlc, hcm, hel, hat, _⟩
  · simp at e2
    subst e2
    exact ⟨none, 0, 0, rfl, Nat.le_refl _, Nat.zero_le _, .inl rfl⟩
  · simp at e2
    subst e2
    rw [hc] at hat
    have each : ∀ i, i < len → ∃ q : Q × List Value, R q.2 q.1 ∧ q.2.length = sz ∧ ∀ j v, q.2[j]? = some v → W.cell? ((a.add (i * sz)).add j) = some v := by
      intro i hi
      have h1 := hat i hi
      have hel' : elems[i]? = some elems[i] := List.getElem?_eq_getElem (by omega)
      rw [hel'] at h1
      obtain ⟨cs', h2, h3⟩ := Option.bind_eq_some_iff.1 h1
      obtain ⟨q, hq⟩ := el n' (by omega) cs' _ h3
      obtain ⟨_, hl, hcc⟩ := World.cells?_some h2
      refine ⟨⟨q, cs'⟩, hq, hl, fun j v hj => ?_⟩
      have hj' : cs'[j]? = some v := hj
      rw [hcc j (by have := (List.getElem?_eq_some_iff.1 hj').1; omega)]
      exact hj
    obtain ⟨q, hq⟩ := choose_lt each
    rcases Nat.eq_zero_or_pos len with rfl | hpos
    · exact ⟨some a, 0, cap, rfl, hlc, hcm, .inl rfl⟩
    · obtain ⟨b, o, spot⟩ := a
      obtain ⟨_, hl0, hq0⟩ := hq 0 hpos
      have c00 := hq0 0 _ (List.getElem?_eq_getElem (by omega))
      have hspot : spot = none := by simpa [Addr.add] using World.cell?_spot c00
      subst hspot
      refine ⟨some ⟨b, o, none⟩, len, cap, rfl, hlc, hcm, .inr ⟨b, o, fun i => (q i).1, rfl, ?_, fun i hi => ⟨(q i).2, (hq i hi).1, fun j v hj => ?_⟩⟩⟩
      · have := World.block_lt_of_cell? W _ c00
        simpa [Addr.add] using this
      · have := (hq i hi).2.2 j v hj
        rw [Addr.add_mid, Addr.add_mid] at this
        exact this
theorem cellsInt1 : Tryd.prog.cellsOf 3 = 1 := by kernel_rfl
theorem cellsStr1 : Tryd.prog.cellsOf 9 = 1 := by kernel_rfl
theorem cellsIs1 : Tryd.prog.cellsOf 35 = 1 := by kernel_rfl
theorem cellsM2 : Tryd.prog.cellsOf 37 = 2 := by kernel_rfl
theorem listTwo {α : Type} (l : List α) (h : l.length = 2) : ∃ a b, l = [a, b] := by
  match l, h with
  | [a, b], _ => exact ⟨a, b, rfl⟩
/-- Numbers that lie in a row. -/
theorem ints_of {W : World} {a : Option Addr} {n : Nat} (hr : n = 0 ∨ ∃ (b o : Nat) (q : Nat → Int), a = some ⟨b, o, none⟩ ∧ b < W.heap.size ∧ ∀ i, i < n → ∃ cs, cs = [.int .i64 (q i)] ∧ W.rangeAt b (o + i * 1) cs) : ∃ l, In cN 1 W a n l := by
  rcases hr with rfl | ⟨b, o, q, rfl, hlt, hq⟩
  · exact ⟨[], rfl, .inl rfl⟩
  · refine ⟨(List.range n).map q, by simp, .inr ⟨b, o, rfl, hlt, fun j x i v hj hi => ?_⟩⟩
    have hjl : j < n := by have := (List.getElem?_eq_some_iff.1 hj).1; simpa using this
    simp [hjl] at hj
    subst hj
    obtain ⟨cs, rfl, hr⟩ := hq j hjl
    exact hr i v hi
/-- A match's two cells, opened. -/
theorem match_of {W : World} {sp : Nat → Bool} {held : Bool} {n : Nat} {cs : List Value} {x : DataW H × List MemPlace} (hx : DataW.trod enc Tryd.prog W 0 sp held n 37 cs = some x) :
    ∃ m : MC, cs = cM m ∧ MIn W m := by
  obtain ⟨xs, m, hm, hcl, hlen, hxl, hf⟩ := DataW.trod_struct Tryd.underlying37 hx
  have hl : cs.length = 2 := by have := hlen; rw [cellsM2] at this; exact this
  obtain ⟨c1, c2, rfl⟩ := listTwo cs hl
  have hxl' : xs.length = 2 := hxl
  obtain ⟨y0, y1, rfl⟩ := listTwo xs hxl'
  have f0 : DataW.trod enc Tryd.prog W 0 sp held m 9 [c1] = some y0 := by
    have := hf 0 _ rfl
    change DataW.trod enc Tryd.prog W 0 sp held m 9 (List.take (Tryd.prog.cellsOf 9) [c1, c2]) = some y0 at this
    rw [cellsStr1] at this
    exact this
  have f1 : DataW.trod enc Tryd.prog W 0 sp held m 35 [c2] = some y1 := by
    have := hf 1 _ rfl
    change DataW.trod enc Tryd.prog W 0 sp held m 35 (List.take (Tryd.prog.cellsOf 35) [c2]) = some y1 at this
    rw [cellsIs1] at this
    exact this
  obtain ⟨s, e0, _, hs⟩ := DataW.trod_string Tryd.underlying9 f0
  simp at e0
  subst e0
  obtain ⟨a, len, cap, rfl, hlc, hcm, hr⟩ := open_rowsN (Q := Int) Tryd.underlying35 cellsInt1 (by decide) (fun cs q => cs = [.int .i64 q]) f1 (fun n _ cs x hx => by
    obtain ⟨i, e, _, _⟩ := DataW.trod_int Tryd.underlying3 hx
    exact ⟨i, e⟩)
  obtain ⟨l, hl⟩ := ints_of hr
  exact ⟨⟨s, l, len, a, cap⟩, rfl, hl, hlc, by show len ≤ maxLen; omega, hs⟩
theorem open_M {W : World} {base : Nat} {sp : Nat → Bool} {held : Bool} {v : Value} {d : DataW H} {p : List MemPlace} (hv : Value.okWide Tryd.prog W .any base 37 v) (h : DataW.Trod enc Tryd.prog W 0 sp held 37 v d p) :
    ∃ m : MC, v = vM m ∧ MIn W m := by
  obtain ⟨cs, rfl, hsz, _⟩ : ∃ cs, v = .agg cs ∧ cs.size = Tryd.prog.cellsOf 37 ∧ Row.okWide Tryd.prog W .any base 37 cs := by
    have := hv
    simpa [Value.okWide, Tryd.underlying37] using this
  obtain ⟨fuel, hf⟩ := h
  obtain ⟨m, e, hm⟩ := match_of hf
  obtain ⟨l⟩ := cs
  have e' : l = cM m := e
  subst e'
  exact ⟨m, rfl, hm⟩
theorem open_LM {W : World} {base : Nat} {sp : Nat → Bool} {held : Bool} {v : Value} {d : DataW H} {p : List MemPlace} (hv : Value.okWide Tryd.prog W .any base 22 v) (h : DataW.Trod enc Tryd.prog W 0 sp held 22 v d p) :
    ∃ a n c l, v = .slice a n c ∧ LIn W a n l := by
  obtain ⟨a0, n0, c0, rfl⟩ := okWide_slice Tryd.underlying22 hv
  obtain ⟨fuel, hf⟩ := h
  haveI : Inhabited MC := ⟨⟨.empty, [], 0, none, 0⟩⟩
  obtain ⟨a, len, cap, e, hlc, hcm, hr⟩ := open_rowsN (Q := MC) Tryd.underlying22 cellsM2 (by decide) (fun cs q => cs = cM q ∧ MIn W q) (c := .slice a0 n0 c0) (by simpa [Value.cells] using hf) (fun n _ cs x hx => match_of hx)
  cases e
  rcases hr with rfl | ⟨b, o, q, rfl, hlt, hq⟩
  · exact ⟨a0, 0, c0, [], rfl, ⟨rfl, .inl rfl⟩, fun m hm => (by cases hm), Nat.zero_le _⟩
  · refine ⟨_, n0, c0, (List.range n0).map q, rfl, ⟨by simp, .inr ⟨b, o, rfl, hlt, fun j x i v hj hi => ?_⟩⟩, fun m hm => ?_, by omega⟩
    · have hjl : j < n0 := by have := (List.getElem?_eq_some_iff.1 hj).1; simpa using this
      simp [hjl] at hj
      subst hj
      obtain ⟨cs, ⟨rfl, _⟩, hr⟩ := hq j hjl
      exact hr i v hi
    · obtain ⟨i, hi, rfl⟩ := List.mem_map.1 hm
      obtain ⟨cs, ⟨_, hh⟩, _⟩ := hq i (List.mem_range.1 hi)
      exact hh
end
end Go.Proofs.YtkffcpjaciomjaaDoor
