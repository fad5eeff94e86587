/- Layer scope: where a variable is bound, as the program looks for it. -/
import Derived.Test.YtefojaeinhgeiaaEIndex
namespace Go.Proofs.Ytefojaeinhgeiaa
open Go.RowKit
set_option maxRecDepth 100000

def hitF (h : Hd) (v : Int) : Int := first3 (decide (true = h.x0 ∧ v = h.n0)) (decide (true = h.x1 ∧ v = h.n1)) (decide (true = h.x2 ∧ v = h.n2))
/-- The first place of a variable: in which of the Pos, in which field. -/
def fpL : List Sh → Int → Nat → Option (Nat × Int)
  | [], _, _ => none
  | s :: r, v, back => if s.hd.k = 1 then (if 0 ≤ hitF s.hd v then some (back, hitF s.hd v) else fpL r v (back + 1)) else fpL r v back
theorem fpL_drop {l : List Sh} {j : Nat} {x : Sh} (h : l[j]? = some x) (v : Int) (back : Nat) : fpL (l.drop j) v back = if x.hd.k = 1 then (if 0 ≤ hitF x.hd v then some (back, hitF x.hd v) else fpL (l.drop (j + 1)) v (back + 1)) else fpL (l.drop (j + 1)) v back := by
  obtain ⟨hl, e⟩ := List.getElem?_eq_some_iff.1 h
  rw [List.drop_eq_getElem_cons hl, e]
  rfl
theorem hitF_le (h : Hd) (v : Int) : hitF h v ≤ 2 ∧ -1 ≤ hitF h v := by
  unfold hitF first3
  split
  · omega
  · split
    · omega
    · split <;> omega
def plV (v : Int) : Option (Nat × Int) → Value
  | none => .agg #[.int .i64 0, .int .i64 0, .int .i64 0]
  | some (b, f) => .agg #[.int .i64 v, .int .i64 (b : Int), .int .i64 f]
abbrev zP : Array Value := #[.int .i64 0, .int .i64 0, .int .i64 0]
/-- The class of worlds in which a condition's block is as it was laid. -/
def CS1 (w : World) (G : Nat) (cs : Array Value) (W : World) : Prop := Blk W G 38 cs ∧ Kept Nil w W
theorem CS1.step {w : World} {G : Nat} {cs : Array Value} (W W' : World) (h : CS1 w G cs W) (k : Kept Nil W W') : CS1 w G cs W' := ⟨h.1.kept k id, h.2.trans k (fun _ _ g => g)⟩
theorem results_pair {fn : Func} {p q : Tmp} {ty t : TypeId} {fs : Array Field} {cs : Array Value} (h : fn.results = #[.cell p ty, .tmp q]) (tmps : Array Value) (w : World) (g : Nat) (v : Value)
    (hp : tmps.getD p undef = .pointer (some ⟨g, 0, none⟩)) (hq : tmps.getD q undef = v) (hg : Blk w g t cs) (hu : Try.prog.underlying ty = some (.struct fs)) (hi : (Try.prog.info? ty).map (·.size) = some cs.size) :
    (results fn tmps).run Try.prog w = .ok (.tuple #[.agg cs, v]) w := by
  have hp' : tmps[p]?.getD undef = .pointer (some ⟨g, 0, none⟩) := by simpa using hp
  have hq' : tmps[q]?.getD undef = v := by simpa using hq
  have hr := run_loadVar_row (P := Try.prog) w g _ _ _ _ _ hg hu rfl hi
  simp [results, h, hp', hq', asAddr, hr]
def FpEnd (l : List Sh) (v : Int) (w : World) (e : Ending) (w' : World) : Prop := e = .returned (.tuple #[plV v (fpL l v 0), .bool (fpL l v 0).isSome]) ∧ Kept Nil w w'
end Go.Proofs.Ytefojaeinhgeiaa
