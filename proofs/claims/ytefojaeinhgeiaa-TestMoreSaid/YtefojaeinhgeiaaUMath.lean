/- Plain mathematics of terms and bindings: what is right, what fits, what is put. No program. -/
import Derived.Test.YtefojaeinhgeiaaFrame
namespace Go.Proofs.Ytefojaeinhgeiaa
open Go.RowKit

/-- A term: is it a variable; its number. -/
abbrev Tm := Bool × Int
def okTm (v : Bool) (n : Int) : Bool := if v then decide (1 ≤ n ∧ n ≤ 32) else decide (1 ≤ n ∧ n ≤ 4096)
theorem okTm_var {n : Int} : okTm true n = true ↔ 1 ≤ n ∧ n ≤ 32 := by unfold okTm; simp
theorem okTm_sym {n : Int} : okTm false n = true ↔ 1 ≤ n ∧ n ≤ 4096 := by unfold okTm; simp
theorem okTm_var_no {n : Int} (h : okTm true n = false) : n < 1 ∨ 32 < n := by unfold okTm at h; simp at h; omega
theorem okTm_sym_no {n : Int} (h : okTm false n = false) : n < 1 ∨ 4096 < n := by unfold okTm at h; simp at h; omega

/-- A binding: what each place holds. -/
abbrev Bd := Nat → Int
def cellsB (b : Bd) : Array Value := Array.ofFn (n := 33) fun i => .int .i64 (b i.val)
abbrev valB (b : Bd) : Value := .agg (cellsB b)
theorem cellsB_size (b : Bd) : (cellsB b).size = 33 := by unfold cellsB; simp
theorem cellsB_get (b : Bd) {i : Nat} (h : i < 33) : (cellsB b)[i]? = some (.int .i64 (b i)) := by
  unfold cellsB
  rw [Array.getElem?_ofFn]
  simp [h]
theorem cellsB_one (b : Bd) : (cellsB b).all (·.oneCell') = true := by
  rw [Array.all_eq_true_iff_forall_mem]
  intro v hv
  unfold cellsB at hv
  obtain ⟨i, rfl⟩ := Array.mem_ofFn.1 hv
  rfl
def upd (b : Bd) (i : Nat) (s : Int) : Bd := fun k => if k = i then s else b k
theorem upd_same (b : Bd) (i : Nat) (s : Int) : upd b i s i = s := by unfold upd; simp
theorem upd_other (b : Bd) {i k : Nat} (s : Int) (h : k ≠ i) : upd b i s k = b k := by unfold upd; simp [h]
theorem cellsB_set (b : Bd) (i : Nat) (s : Int) : (cellsB b).setIfInBounds i (.int .i64 s) = cellsB (upd b i s) := by
  apply Array.ext_getElem?
  intro k
  rw [Array.getElem?_setIfInBounds, cellsB_size]
  by_cases hk : k < 33
  · rw [cellsB_get _ hk, cellsB_get _ hk]
    by_cases e : i = k
    · subst e; simp [hk, upd]
    · simp [e, upd, show ¬ k = i from fun h => e h.symm]
  · have e1 : (cellsB b)[k]? = none := Array.getElem?_eq_none (by rw [cellsB_size]; omega)
    have e2 : (cellsB (upd b i s))[k]? = none := Array.getElem?_eq_none (by rw [cellsB_size]; omega)
    rw [e1, e2]
    by_cases e : i = k
    · subst e; simp [hk]
    · simp [e]
theorem cellsB_ext {a b : Bd} (h : ∀ k, k < 33 → a k = b k) : cellsB a = cellsB b := by
  apply Array.ext_getElem?
  intro k
  by_cases hk : k < 33
  · rw [cellsB_get _ hk, cellsB_get _ hk, h k hk]
  · rw [Array.getElem?_eq_none (by rw [cellsB_size]; omega), Array.getElem?_eq_none (by rw [cellsB_size]; omega)]
/-- Nothing stands for anything. -/
def zeroB : Bd := fun _ => 0
def sameB (a b : Bd) : Bool := (List.range 33).all fun k => decide (a k = b k)
theorem sameB_iff {a b : Bd} : sameB a b = true ↔ ∀ k, k < 33 → a k = b k := by unfold sameB; simp

/-- What a term stands for. -/
def stand (x : Tm) (b : Bd) : Int := if okTm x.1 x.2 then (if x.1 then b x.2.toNat else x.2) else 0
/-- The binding with which a term comes to a symbol. -/
def bound (x : Tm) (s : Int) (b : Bd) : Bd := if x.1 = true ∧ b x.2.toNat = 0 then upd b x.2.toNat s else b
/-- One field: right, and it fits. -/
def step1 (x : Tm) (s : Int) (b : Bd) : Option Bd := if okTm x.1 x.2 then (if stand x (bound x s b) = s then some (bound x s b) else none) else none

/-- Fields, one behind the other. -/
def runL : List (Tm × Int) → Bd → Option Bd
  | [], b => some b
  | p :: r, b => (step1 p.1 p.2 b).bind (runL r)
theorem runL_append (l m : List (Tm × Int)) (b : Bd) : runL (l ++ m) b = (runL l b).bind (runL m) := by
  induction l generalizing b with
  | nil => rfl
  | cons p r ih =>
    show (step1 p.1 p.2 b).bind (runL (r ++ m)) = ((step1 p.1 p.2 b).bind (runL r)).bind (runL m)
    cases step1 p.1 p.2 b with
    | none => rfl
    | some g => exact ih g
theorem runL_take {l : List (Tm × Int)} {b g : Bd} {k : Nat} {x : Tm} {s : Int} (h : runL (l.take k) b = some g) (hk : l[k]? = some (x, s)) : runL (l.take (k + 1)) b = step1 x s g := by
  have hl := (List.getElem?_eq_some_iff.1 hk)
  obtain ⟨hlt, e⟩ := hl
  rw [List.take_succ_eq_append_getElem hlt, runL_append, h, e]
  show (step1 x s g).bind (runL []) = _
  cases step1 x s g <;> rfl
theorem runL_fail {l : List (Tm × Int)} {b g : Bd} {k : Nat} {x : Tm} {s : Int} (h : runL (l.take k) b = some g) (hk : l[k]? = some (x, s)) (hn : step1 x s g = none) : runL l b = none := by
  have := runL_take h hk
  rw [hn] at this
  rw [← List.take_append_drop (k + 1) l, runL_append, this]
  rfl
def fitB (l : List (Tm × Int)) (b : Bd) : Bd := (runL l b).getD b
def fitOk (l : List (Tm × Int)) (b : Bd) : Bool := (runL l b).isSome
theorem fit_none {l : List (Tm × Int)} {b : Bd} (h : runL l b = none) : fitB l b = b ∧ fitOk l b = false := by unfold fitB fitOk; rw [h]; exact ⟨rfl, rfl⟩
theorem fit_some {l : List (Tm × Int)} {b g : Bd} (h : runL l b = some g) : fitB l b = g ∧ fitOk l b = true := by unfold fitB fitOk; rw [h]; exact ⟨rfl, rfl⟩
theorem step1_wrong {v : Bool} {n s : Int} {g : Bd} (h : okTm v n = false) : step1 (v, n) s g = none := by unfold step1; simp [h]
theorem step1_sym {n s : Int} {g : Bd} (h : okTm false n = true) (e : n = s) : step1 (false, n) s g = some g := by subst e; unfold step1 bound stand; simp [h]
theorem step1_sym_no {n s : Int} {g : Bd} (h : okTm false n = true) (e : n ≠ s) : step1 (false, n) s g = none := by unfold step1 bound stand; simp [h, e]
theorem step1_new {m : Nat} {s : Int} {g : Bd} (h : okTm true m = true) (e : g m = 0) : step1 (true, m) s g = some (upd g m s) := by unfold step1 bound stand; simp [h, e, upd]
theorem step1_old {m : Nat} {s : Int} {g : Bd} (h : okTm true m = true) (e : g m ≠ 0) (es : g m = s) : step1 (true, m) s g = some g := by
  have hs : s ≠ 0 := es ▸ e
  unfold step1 bound stand; simp [h, hs, es]
theorem step1_old_no {m : Nat} {s : Int} {g : Bd} (h : okTm true m = true) (e : g m ≠ 0) (es : g m ≠ s) : step1 (true, m) s g = none := by unfold step1 bound stand; simp [h, e, es]
theorem stand_sym {n : Int} {g : Bd} (h : okTm false n = true) : stand (false, n) g = n := by unfold stand; simp [h]
theorem stand_var {m : Nat} {g : Bd} (h : okTm true m = true) : stand (true, m) g = g m := by unfold stand; simp [h]
end Go.Proofs.Ytefojaeinhgeiaa
