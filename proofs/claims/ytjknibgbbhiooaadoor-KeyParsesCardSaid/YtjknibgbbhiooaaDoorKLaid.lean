/- From a row's list of variables (three, or seven) to what the walks need; the witness's worlds; a triple that comes in, opened and shut. -/
import Derived.Test.YtjknibgbbhiooaaDoorCards
import Derived.Test.YtjknibgbbhiooaaDoorTie
import Derived.Test.YtjknibgbbhiooaaDoorTEnv
import Derived.Test.YtjknibgbbhiooaaDoorKText
import Derived.Deep.DeepHandedRow
import Derived.Deep.DeepWitnessRowRef
import Derived.Lib.LaidTab
import Derived.Stop.LaidErr
import Derived.Laws.IdiomArrays
import Derived.Lay
import Derived.LaidLaws
import Derived.SevenTiedAt
import Derived.OpenShut
import Derived.ProofKit
namespace Go.Proofs.YtjknibgbbhiooaaDoor
open Go.RowKit Go.ChangeShapes Go.WideShapes Go.ChangeAt

theorem own : ownKnob Tryd.prog.godebug = none := by kernel_rfl
theorem star : "*" ++ "errors.errorString" = "*errors.errorString" := by decide
theorem rowErr (u : TypeId) (h : Tryd.prog.typeName? 3 u = some "*errors.errorString") : u = 94 :=
  typeName_ptr_named (nm := "errors.errorString") (by rw [star]; kernel_rfl) (by kernel_rfl) (by decide) u (by rw [star]; exact h)

/-- The listed variables. -/
def theLaid : List (String × DataW Unit) := Rows.keyTextsRow.laid

noncomputable def theWorld (os : Os) : World := World.laidAll Tryd.prog os theLaid
theorem layFits (os : Os) : (World.holding Tryd.prog os ⟨#[], #[], []⟩).layFits Tryd.prog theLaid [] = true := by kernel_rfl
theorem layIfaces (os : Os) : (World.holding Tryd.prog os ⟨#[], #[], []⟩).layIfaces Tryd.prog theLaid (World.laidAll Tryd.prog os theLaid) = true := by kernel_rfl
theorem plainLaid : (theLaid.all fun x => x.2.handleName?.isNone) = true := by kernel_rfl
theorem env_of {W : World} (h : laidMetH Tryd.prog theLaid W) (hs : W.ShapedOpen Tryd.prog) : Env W := by
  rw [MakeChecks.laidMetH_plain _ _ _ plainLaid] at h
  have h2 := h.tail.tail
  have h4 := h2.tail.tail
  have h5 := h4.tail
  obtain ⟨a, s, e1, _⟩ := laid_sentinel (nm := "*errors.errorString") h4 (g := 1) (ti := 58) (tp := 94) (by kernel_rfl) (by kernel_rfl) Tryd.underlying58 rowErr Tryd.underlying94 Tryd.underlying96 rfl rfl Tryd.underlying9 (by kernel_rfl) (by kernel_rfl)
  obtain ⟨b, u, e2, _⟩ := laid_sentinel (nm := "*errors.errorString") h5 (g := 0) (ti := 58) (tp := 94) (by kernel_rfl) (by kernel_rfl) Tryd.underlying58 rowErr Tryd.underlying94 Tryd.underlying96 rfl rfl Tryd.underlying9 (by kernel_rfl) (by kernel_rfl)
  exact ⟨hs, Lib.tabIs_of_head (g := 3) (t := 98) (e := 78) (n := 20) (by kernel_rfl) (by kernel_rfl) Tryd.underlying98 Tryd.underlying78 (by kernel_rfl) (by kernel_rfl) h2, ⟨_, _, e2⟩, _, _, e1⟩

theorem laid_met (os : Os) (args : Array Value) : laidMetH Tryd.prog theLaid ((theWorld os).forCall (fun _ _ => 0) ⟨#[], args, []⟩).memory :=
  Eq.mpr (MakeChecks.laidMetH_plain Tryd.prog theLaid _ plainLaid) (laidMet_laidAll (laid := theLaid) args (layFits os) (layIfaces os))

/-- The three that a law lists which only writes numerals. -/
def laid3 : List (String × DataW Unit) := Rows.keyAllRow.laid
noncomputable def world3 (os : Os) : World := World.laidAll Tryd.prog os laid3
theorem layFits3 (os : Os) : (World.holding Tryd.prog os ⟨#[], #[], []⟩).layFits Tryd.prog laid3 [] = true := by kernel_rfl
theorem layIfaces3 (os : Os) : (World.holding Tryd.prog os ⟨#[], #[], []⟩).layIfaces Tryd.prog laid3 (World.laidAll Tryd.prog os laid3) = true := by kernel_rfl
theorem plain3 : (laid3.all fun x => x.2.handleName?.isNone) = true := by kernel_rfl
theorem tab_of {W : World} (h : laidMetH Tryd.prog laid3 W) (_hs : W.ShapedOpen Tryd.prog) : TabW W := by
  rw [MakeChecks.laidMetH_plain _ _ _ plain3] at h
  have h2 := h.tail.tail
  exact Lib.tabIs_of_head (g := 3) (t := 98) (e := 78) (n := 20) (by kernel_rfl) (by kernel_rfl) Tryd.underlying98 Tryd.underlying78 (by kernel_rfl) (by kernel_rfl) h2
theorem laid_met3 (os : Os) (args : Array Value) : laidMetH Tryd.prog laid3 ((world3 os).forCall (fun _ _ => 0) ⟨#[], args, []⟩).memory :=
  Eq.mpr (MakeChecks.laidMetH_plain Tryd.prog laid3 _ plain3) (laidMet_laidAll (laid := laid3) args (layFits3 os) (layIfaces3 os))

section
variable {H : Type} {enc : TypeId × Value → H}
theorem cellsT : Tryd.prog.cellsOf 23 = 3 := by kernel_rfl
theorem cellsI : Tryd.prog.cellsOf 3 = 1 := cellsInt
theorem list3 {α : Type} (l : List α) (h : (⟨l⟩ : Array α).size = 3) : ∃ a b c, l = [a, b, c] := by
  match l, h with
  | [a, b, c], _ => exact ⟨a, b, c, rfl⟩
/-- A triple, as data. -/
def datT (t : T3) : DataW H := .agg [.lit (.int .i64 t.1), .lit (.int .i64 t.2.1), .lit (.int .i64 t.2.2)]
def wfT (t : T3) : Prop := (Lit.int .i64 t.1).wf = true ∧ (Lit.int .i64 t.2.1).wf = true ∧ (Lit.int .i64 t.2.2).wf = true
set_option maxRecDepth 100000 in
theorem open_T {W : World} {base b : Nat} {sp : Nat → Bool} {held : Bool} {v : Value} {d : DataW H} {p : List MemPlace} (hv : Value.okWide Tryd.prog W .any base 23 v) (h : DataW.Trod enc Tryd.prog W b sp held 23 v d p) :
    ∃ t : T3, v = arr t ∧ d = datT t ∧ p = [] ∧ wfT t := by
  obtain ⟨cs, rfl, hsz, _⟩ : ∃ cs, v = .agg cs ∧ cs.size = Tryd.prog.cellsOf 23 ∧ Row.okWide Tryd.prog W .any base 23 cs := by
    have := hv
    simpa [Value.okWide, Tryd.underlying23] using this
  rw [cellsT] at hsz
  obtain ⟨l⟩ := cs
  obtain ⟨c0, c1, c2, rfl⟩ := list3 l hsz
  obtain ⟨fuel, hf⟩ := h
  obtain ⟨y0, y1, y2, m, hx, hy0, hy1, hy2⟩ := trod_array3 Tryd.underlying23 cellsI hf
  obtain ⟨x0, e0, rfl, w0⟩ := DataW.trod_int Tryd.underlying3 hy0
  obtain ⟨x1, e1, rfl, w1⟩ := DataW.trod_int Tryd.underlying3 hy1
  obtain ⟨x2, e2, rfl, w2⟩ := DataW.trod_int Tryd.underlying3 hy2
  simp at e0 e1 e2
  subst e0 e1 e2
  simp only [Prod.mk.injEq] at hx
  obtain ⟨rfl, rfl⟩ := hx
  exact ⟨(x0, x1, x2), rfl, rfl, rfl, w0, w1, w2⟩
theorem shut_T {W : World} {b : Nat} {sp : Nat → Bool} {held : Bool} {t : T3} (h : wfT t) : DataW.Trod enc Tryd.prog W b sp held 23 (arr t) (datT t) [] := by
  obtain ⟨a, b, c⟩ := t
  have w0 : (Lit.int .i64 a).wf = true := h.1
  have w1 : (Lit.int .i64 b).wf = true := h.2.1
  have w2 : (Lit.int .i64 c).wf = true := h.2.2
  exact ⟨2, by simp [w0, w1, w2, DataW.trod, arr, datT, Value.cells, Tryd.underlying23, Tryd.underlying3, cellsT, cellsI, show List.range 3 = [0, 1, 2] from rfl]⟩
end
end Go.Proofs.YtjknibgbbhiooaaDoor
