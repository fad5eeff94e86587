/- The frame of a call that owns some blocks: Kept F w w' says that w' is w but for new blocks and the blocks that F names. – Plain mathematics of terms and bindings: what is right, what fits, what is put. No program. – A region that draws its order, whose operations read and whose callees make new memory alone: one walk, in a class of worlds that is closed under new memory. – Layer cond: what it needs of terms: contracts of Right, of the program and of the reference; the law's Ref of terms; blocks known whole. – Layer cond: conditions as trees, and what it means that a slice in memory holds some. – What comes into layer cond's laws, opened: a condition, whatever depth. – What comes into layer scope's laws, opened: conditions. – Layer cond: the contracts of size, of the program and of the reference. – Layer cond: three terms held against three terms by ==, of the program and of the reference. – Layer cond: the contract of Check, of the program. – Layer cond: the contract of Check, of the program: any tree, any depth. – Layer cond: Size, of the program; a condition stored whole. -/
import Derived.Test.YtljefbfjehblpaaGreatRows
import Derived.WalkKit
import Derived.Lib.Hide
import Derived.BigQuiet
import Derived.Deep.QuietTactic
import Derived.WalkSpells
import Derived.WalkLawsBesides
import Derived.ProofKit
import Derived.Outline
import Derived.Deep.MidRow
import Derived.Laws.Tables
import Derived.Laws.Rows
import Derived.OpenShut
import Derived.ShutString
import Derived.Carry
import Derived.Deep.Strs
import Derived.ChangeKeysEq
import Derived.Laws.StructEq
namespace Go.Proofs.YtljefbfjehblpaaGreat
section
open Go.RowKit

/-- w' is w but for new blocks and for the blocks of F. -/
structure Kept (F : Nat → Prop) (w w' : World) : Prop where
  os : w'.os = w.os
  tape : w'.tape = w.tape
  output : w'.output = w.output
  size : w.heap.size ≤ w'.heap.size
  block : ∀ k, k < w.heap.size → ¬ F k → w'.heap[k]? = w.heap[k]?

/-- No block. -/
def Nil (_ : Nat) : Prop := False

theorem Kept.refl (F : Nat → Prop) (w : World) : Kept F w w := ⟨rfl, rfl, rfl, Nat.le_refl _, fun _ _ _ => rfl⟩
theorem Kept.trans {F G : Nat → Prop} {a b c : World} (h : Kept F a b) (k : Kept G b c) (hG : ∀ i, i < a.heap.size → G i → F i) : Kept F a c :=
  ⟨k.os.trans h.os, k.tape.trans h.tape, k.output.trans h.output, Nat.le_trans h.size k.size,
    fun i hi hF => (k.block i (Nat.lt_of_lt_of_le hi h.size) (fun g => hF (hG i hi g))).trans (h.block i hi hF)⟩
theorem Kept.mono {F G : Nat → Prop} {a b : World} (h : Kept F a b) (hG : ∀ i, i < a.heap.size → F i → G i) : Kept G a b :=
  ⟨h.os, h.tape, h.output, h.size, fun i hi hF => h.block i hi (fun g => hF (hG i hi g))⟩
theorem Kept.below {F : Nat → Prop} {a b : World} {B : Nat} (h : Kept F a b) (hB : B ≤ a.heap.size) (hF : ∀ i, F i → B ≤ i) : Below B a b :=
  ⟨h.os, h.tape, h.output, h.size, fun i hi => h.block i (Nat.lt_of_lt_of_le hi hB) (fun g => Nat.lt_irrefl _ (Nat.lt_of_lt_of_le hi (hF i g)))⟩
theorem Kept.ofBelow {a b : World} (h : Below a.heap.size a b) : Kept Nil a b :=
  ⟨h.os, h.tape, h.output, h.size, fun i hi _ => h.block i hi⟩
theorem Kept.toBelow {a b : World} (h : Kept Nil a b) : Below a.heap.size a b :=
  ⟨h.os, h.tape, h.output, h.size, fun i hi => h.block i hi (fun g => g)⟩
theorem Kept.drew {F : Nat → Prop} {a w : World} (h : Kept F a w) : Kept F a w.drew := ⟨h.os, h.tape, h.output, h.size, h.block⟩
theorem Kept.drewN {F : Nat → Prop} {a w : World} (h : Kept F a w) (n : Nat) : Kept F a (w.drewN n) := ⟨h.os, h.tape, h.output, h.size, h.block⟩
theorem Kept.alloc {F : Nat → Prop} {a w : World} (h : Kept F a w) (o : Obj) : Kept F a (w.alloc o) :=
  ⟨h.os, h.tape, h.output, Nat.le_trans h.size (by simp), fun k hk hF => (Below.heap_alloc w o k (Nat.lt_of_lt_of_le hk h.size)).trans (h.block k hk hF)⟩
theorem Kept.setCell {F : Nat → Prop} {a w : World} (h : Kept F a w) (p : Addr) (hp : F p.block ∨ a.heap.size ≤ p.block) (u : Value) : Kept F a (w.setCell p u) :=
  ⟨h.os, h.tape, h.output, by simpa [World.setCell] using h.size, fun k hk hF => by
    rw [Below.heap_setCell w p u k (fun e => by subst e; rcases hp with hp | hp; exact hF hp; omega)]
    exact h.block k hk hF⟩
theorem Kept.grown {F : Nat → Prop} {a w w' : World} {row : Option Nat} (h : Kept F a w) (hg : w.grownBy w' row) (hr : ∀ k, row = some k → F k ∨ a.heap.size ≤ k) : Kept F a w' :=
  ⟨hg.os.trans h.os, hg.tape.trans h.tape, hg.output.trans h.output, Nat.le_trans h.size hg.size, fun k hk hF =>
    (hg.block k (Nat.lt_of_lt_of_le hk h.size) (fun e => by rcases hr k e.symm with r | r; exact hF r; omega)).trans (h.block k hk hF)⟩
theorem Kept.cell {F : Nat → Prop} {w w' : World} (h : Kept F w w') {p : Addr} (hp : p.block < w.heap.size) (hF : ¬ F p.block) : w'.cell? p = w.cell? p := World.cell?_of_block (h.block p.block hp hF)
theorem Kept.frozen {F : Nat → Prop} {w w' : World} (h : Kept F w w') {p : Addr} (hp : p.block < w.heap.size) (hF : ¬ F p.block) : w'.frozen? p = w.frozen? p := World.frozen?_of_block (h.block p.block hp hF)
theorem Kept.toGrown {w w' : World} (h : Kept Nil w w') (row : Option Nat) : w.grownBy w' row :=
  ⟨h.os, h.tape, h.output, h.size, fun k hk _ => h.block k hk (fun g => g)⟩
/-- An owned row whose block F does not name stays. -/
theorem Kept.row {F : Nat → Prop} {w w' : World} (h : Kept F w w') {base : Nat} {e : TypeId} {size : Nat} {v : Value} {n : Nat} {xs : List Value}
    (ho : w.ownsRow base e size v n xs) (hF : ∀ k, v.ownBlock = some k → ¬ F k) : w'.ownsRow base e size v n xs := by
  refine ⟨ho.1, ?_⟩
  rcases ho.2 with hn | ⟨g, cap, cur, rfl, hb, hg, rest⟩
  · exact .inl hn
  · exact .inr ⟨g, cap, cur, rfl, hb, by rw [h.block g (Array.getElem?_eq_some_iff.1 hg).1 (hF g rfl)]; exact hg, rest⟩

theorem ret_bool {a b : Bool} (h : a = b) : Ending.returned (.bool a) = .returned (.bool b) := by rw [h]
theorem ret_int {k : IntKind} {a b : Int} (h : a = b) : Ending.returned (.int k a) = .returned (.int k b) := by rw [h]
end
section
open Go.RowKit

/-- A term: is it a variable; its number. -/
abbrev Tm := Bool × Int
def okTm (v : Bool) (n : Int) : Bool := if v then decide (1 ≤ n ∧ n ≤ 32) else decide (1 ≤ n ∧ n ≤ 4096)
theorem okTm_var {n : Int} : okTm true n = true ↔ 1 ≤ n ∧ n ≤ 32 := by unfold okTm; simp
theorem okTm_sym {n : Int} : okTm false n = true ↔ 1 ≤ n ∧ n ≤ 4096 := by unfold okTm; simp
theorem okTm_var_no {n : Int} (h : okTm true n = false) : n < 1 ∨ 32 < n := by unfold okTm at h; simp at h; omega
theorem okTm_sym_no {n : Int} (h : okTm false n = false) : n < 1 ∨ 4096 < n := by unfold okTm at h; simp at h; omega

/-- A binding: what each place holds. -/
abbrev Bd := Nat → Int
def cellsB (b : Bd) : Array Value := Array.ofFn (n := 33) fun i => .int .i64 (b i.val)
abbrev valB (b : Bd) : Value := .agg (cellsB b)
theorem cellsB_size (b : Bd) : (cellsB b).size = 33 := by unfold cellsB; simp
theorem cellsB_get (b : Bd) {i : Nat} (h : i < 33) : (cellsB b)[i]? = some (.int .i64 (b i)) := by
  unfold cellsB
  rw [Array.getElem?_ofFn]
  simp [h]
theorem cellsB_one (b : Bd) : (cellsB b).all (·.oneCell') = true := by
  rw [Array.all_eq_true_iff_forall_mem]
  intro v hv
  unfold cellsB at hv
  obtain ⟨i, rfl⟩ := Array.mem_ofFn.1 hv
  rfl
def upd (b : Bd) (i : Nat) (s : Int) : Bd := fun k => if k = i then s else b k
theorem upd_same (b : Bd) (i : Nat) (s : Int) : upd b i s i = s := by unfold upd; simp
theorem upd_other (b : Bd) {i k : Nat} (s : Int) (h : k ≠ i) : upd b i s k = b k := by unfold upd; simp [h]
theorem cellsB_set (b : Bd) (i : Nat) (s : Int) : (cellsB b).setIfInBounds i (.int .i64 s) = cellsB (upd b i s) := by
  apply Array.ext_getElem?
  intro k
  rw [Array.getElem?_setIfInBounds, cellsB_size]
  by_cases hk : k < 33
  · rw [cellsB_get _ hk, cellsB_get _ hk]
    by_cases e : i = k
    · subst e; simp [hk, upd]
    · simp [e, upd, show ¬ k = i from fun h => e h.symm]
  · have e1 : (cellsB b)[k]? = none := Array.getElem?_eq_none (by rw [cellsB_size]; omega)
    have e2 : (cellsB (upd b i s))[k]? = none := Array.getElem?_eq_none (by rw [cellsB_size]; omega)
    rw [e1, e2]
    by_cases e : i = k
    · subst e; simp [hk]
    · simp [e]
theorem cellsB_ext {a b : Bd} (h : ∀ k, k < 33 → a k = b k) : cellsB a = cellsB b := by
  apply Array.ext_getElem?
  intro k
  by_cases hk : k < 33
  · rw [cellsB_get _ hk, cellsB_get _ hk, h k hk]
  · rw [Array.getElem?_eq_none (by rw [cellsB_size]; omega), Array.getElem?_eq_none (by rw [cellsB_size]; omega)]
/-- Nothing stands for anything. -/
def zeroB : Bd := fun _ => 0
def sameB (a b : Bd) : Bool := (List.range 33).all fun k => decide (a k = b k)
theorem sameB_iff {a b : Bd} : sameB a b = true ↔ ∀ k, k < 33 → a k = b k := by unfold sameB; simp

/-- What a term stands for. -/
def stand (x : Tm) (b : Bd) : Int := if okTm x.1 x.2 then (if x.1 then b x.2.toNat else x.2) else 0
/-- The binding with which a term comes to a symbol. -/
def bound (x : Tm) (s : Int) (b : Bd) : Bd := if x.1 = true ∧ b x.2.toNat = 0 then upd b x.2.toNat s else b
/-- One field: right, and it fits. -/
def step1 (x : Tm) (s : Int) (b : Bd) : Option Bd := if okTm x.1 x.2 then (if stand x (bound x s b) = s then some (bound x s b) else none) else none

/-- Fields, one behind the other. -/
def runL : List (Tm × Int) → Bd → Option Bd
  | [], b => some b
  | p :: r, b => (step1 p.1 p.2 b).bind (runL r)
theorem runL_append (l m : List (Tm × Int)) (b : Bd) : runL (l ++ m) b = (runL l b).bind (runL m) := by
  induction l generalizing b with
  | nil => rfl
  | cons p r ih =>
    show (step1 p.1 p.2 b).bind (runL (r ++ m)) = ((step1 p.1 p.2 b).bind (runL r)).bind (runL m)
    cases step1 p.1 p.2 b with
    | none => rfl
    | some g => exact ih g
theorem runL_take {l : List (Tm × Int)} {b g : Bd} {k : Nat} {x : Tm} {s : Int} (h : runL (l.take k) b = some g) (hk : l[k]? = some (x, s)) : runL (l.take (k + 1)) b = step1 x s g := by
  have hl := (List.getElem?_eq_some_iff.1 hk)
  obtain ⟨hlt, e⟩ := hl
  rw [List.take_succ_eq_append_getElem hlt, runL_append, h, e]
  show (step1 x s g).bind (runL []) = _
  cases step1 x s g <;> rfl
theorem runL_fail {l : List (Tm × Int)} {b g : Bd} {k : Nat} {x : Tm} {s : Int} (h : runL (l.take k) b = some g) (hk : l[k]? = some (x, s)) (hn : step1 x s g = none) : runL l b = none := by
  have := runL_take h hk
  rw [hn] at this
  rw [← List.take_append_drop (k + 1) l, runL_append, this]
  rfl
def fitB (l : List (Tm × Int)) (b : Bd) : Bd := (runL l b).getD b
def fitOk (l : List (Tm × Int)) (b : Bd) : Bool := (runL l b).isSome
theorem fit_none {l : List (Tm × Int)} {b : Bd} (h : runL l b = none) : fitB l b = b ∧ fitOk l b = false := by unfold fitB fitOk; rw [h]; exact ⟨rfl, rfl⟩
theorem fit_some {l : List (Tm × Int)} {b g : Bd} (h : runL l b = some g) : fitB l b = g ∧ fitOk l b = true := by unfold fitB fitOk; rw [h]; exact ⟨rfl, rfl⟩
theorem step1_wrong {v : Bool} {n s : Int} {g : Bd} (h : okTm v n = false) : step1 (v, n) s g = none := by unfold step1; simp [h]
theorem step1_sym {n s : Int} {g : Bd} (h : okTm false n = true) (e : n = s) : step1 (false, n) s g = some g := by subst e; unfold step1 bound stand; simp [h]
theorem step1_sym_no {n s : Int} {g : Bd} (h : okTm false n = true) (e : n ≠ s) : step1 (false, n) s g = none := by unfold step1 bound stand; simp [h, e]
theorem step1_new {m : Nat} {s : Int} {g : Bd} (h : okTm true m = true) (e : g m = 0) : step1 (true, m) s g = some (upd g m s) := by unfold step1 bound stand; simp [h, e, upd]
theorem step1_old {m : Nat} {s : Int} {g : Bd} (h : okTm true m = true) (e : g m ≠ 0) (es : g m = s) : step1 (true, m) s g = some g := by
  have hs : s ≠ 0 := es ▸ e
  unfold step1 bound stand; simp [h, hs, es]
theorem step1_old_no {m : Nat} {s : Int} {g : Bd} (h : okTm true m = true) (e : g m ≠ 0) (es : g m ≠ s) : step1 (true, m) s g = none := by unfold step1 bound stand; simp [h, e, es]
theorem stand_sym {n : Int} {g : Bd} (h : okTm false n = true) : stand (false, n) g = n := by unfold stand; simp [h]
theorem stand_var {m : Nat} {g : Bd} (h : okTm true m = true) : stand (true, m) g = g m := by unfold stand; simp [h]
end
section
open Go.RowKit

/-- The worlds of a class, as a type: what a walk names by a letter. -/
def CW (C : World → Prop) : Type := { W : World // C W }
def CW.w {C : World → Prop} (n : CW C) : World := n.1
theorem CW.of {C : World → Prop} (n : CW C) : C n.w := n.2
theorem CW.mk' {C : World → Prop} {W : World} (h : C W) : ∃ n : CW C, W = n.w := ⟨⟨W, h⟩, rfl⟩

theorem wp_region_in {P : Program} {id : Nat} {Q : Exit → Act → World → Prop} {a : Act} {w : World} {l : List Oper} (C : World → Prop) (hm : P.follows .mixedOrders = true) (hB : Region.lexB .any l.toArray = true) (hC : C w.drew)
    (h : wpQuiet P l.toArray (fun W => ∃ n : CW C, W = n.w) (fun a' => ∀ w', (∃ n : CW C, w' = n.w) → Q .normal a' w') l a) : (Code.region id l.toArray true).wp P Q a w :=
  wp_region_quiet (C := fun W => ∃ n : CW C, W = n.w) hm hB (CW.mk' hC) (by simpa using h)

/-- A callee that makes new memory alone leaves a class that is closed under that. -/
theorem call_in {P : Program} {f : FuncId} {args : Array Value} {C : World → Prop} (hC : ∀ W W', C W → Kept Nil W W' → C W') {n : CW C} {v : Value}
    (h : Calls P f args n.w fun e w' => e = .returned v ∧ Kept Nil n.w w') : Calls P f args n.w fun e w' => e = .returned v ∧ ∃ m : CW C, w' = m.w :=
  h.mono fun _ _ ⟨he, hk⟩ => ⟨he, CW.mk' (hC _ _ n.of hk)⟩
theorem call_in_same {P : Program} {f : FuncId} {args : Array Value} {C : World → Prop} {n : CW C} {v : Value}
    (h : Calls P f args n.w fun e w' => e = .returned v ∧ n.w = w') : Calls P f args n.w fun e w' => e = .returned v ∧ ∃ m : CW C, w' = m.w :=
  h.mono fun _ _ ⟨he, hk⟩ => ⟨he, n, hk.symm⟩
end
section
open Go.RowKit
set_option maxRecDepth 100000

/-- A term of the reference: 1 says that it is a variable. -/
def isV (v : Bool) : Int := if v then 1 else 0
theorem refRight_any (v : Bool) (n : Int) (w : World) :
    Calls Tryz.prog 55 #[.agg #[.int .i64 (isV v), .int .i64 n]] w fun e w' => e = .returned (.bool (okTm v n)) ∧ Kept Nil w w' := by
  cases v
  · show Calls Tryz.prog 55 #[.agg #[.int .i64 0, .int .i64 n]] w _
    cases h : okTm false n
    · have hb := okTm_sym_no h
      clear h
      rcases hb with hb | hb
      all_goals
        go_enter Tryz.func55, Tryz.ntmps55
        go_wp2
        go_ret
        first
          | exact ⟨rfl, (Kept.refl _ _).alloc _⟩
          | exact ⟨ret_bool (decide_eq_false (by omega)), (Kept.refl _ _).alloc _⟩
    · obtain ⟨l, u⟩ := okTm_sym.1 h
      clear h
      go_enter Tryz.func55, Tryz.ntmps55
      go_wp2
      go_ret
      exact ⟨rfl, (Kept.refl _ _).alloc _⟩
  · show Calls Tryz.prog 55 #[.agg #[.int .i64 1, .int .i64 n]] w _
    cases h : okTm true n
    · have hb := okTm_var_no h
      clear h
      rcases hb with hb | hb
      all_goals
        go_enter Tryz.func55, Tryz.ntmps55
        go_wp2
        go_ret
        first
          | exact ⟨rfl, (Kept.refl _ _).alloc _⟩
          | exact ⟨ret_bool (decide_eq_false (by omega)), (Kept.refl _ _).alloc _⟩
    · obtain ⟨l, u⟩ := okTm_var.1 h
      clear h
      go_enter Tryz.func55, Tryz.ntmps55
      go_wp2
      go_ret
      exact ⟨rfl, (Kept.refl _ _).alloc _⟩

/-- A block that holds just these cells. -/
def Blk (w : World) (g : Nat) (t : TypeId) (cs : Array Value) : Prop := w.heap[g]? = some (.cells cs t (0, 0))
section
variable {w w' : World} {g : Nat} {t : TypeId} {cs : Array Value}
theorem Blk.lt (h : Blk w g t cs) : g < w.heap.size := by
  rcases Nat.lt_or_ge g w.heap.size with hlt | hge
  · exact hlt
  · unfold Blk at h; rw [Array.getElem?_eq_none hge] at h; cases h
theorem Blk.cell (h : Blk w g t cs) (i : Nat) : w.cell? ⟨g, i, none⟩ = cs[i]? := cell_of_row w g i cs t (0, 0) h
theorem Blk.frozen (h : Blk w g t cs) (i : Nat) : w.frozen? ⟨g, i, none⟩ = false := by unfold Blk at h; simp [World.frozen?, h]
theorem Blk.new (w : World) (t : TypeId) (cs : Array Value) : Blk (w.alloc (.cells cs t)) w.heap.size t cs := heap_alloc_new w _
theorem Blk.drew (h : Blk w g t cs) : Blk w.drew g t cs := h
theorem Blk.alloc (h : Blk w g t cs) (o : Obj) : Blk (w.alloc o) g t cs := (Below.heap_alloc w o g h.lt).trans h
theorem Blk.set_ (h : Blk w g t cs) (i : Nat) (u : Value) : Blk (w.setCell ⟨g, i, none⟩ u) g t (cs.setIfInBounds i u) := by
  unfold Blk at h ⊢
  simp [World.setCell, Array.getElem?_modify, h]
theorem Blk.far (h : Blk w g t cs) {p : Addr} (hp : g ≠ p.block) (u : Value) : Blk (w.setCell p u) g t cs := (Below.heap_setCell w p u g hp).trans h
theorem Blk.kept {F : Nat → Prop} (h : Blk w g t cs) (k : Kept F w w') (hF : ¬ F g) : Blk w' g t cs := (k.block g h.lt hF).trans h
theorem Blk.row (h : Blk w g t cs) (cs' : Array Value) : Blk (w.setRow g cs') g t cs' := setRow_heap w g cs cs' t (0, 0) h
theorem Blk.row_far (h : Blk w g t cs) {g' : Nat} (hg : g ≠ g') (cs' : Array Value) : Blk (w.setRow g' cs') g t cs := (setRow_other w g' g cs' (fun e => hg e)).trans h
end
theorem Kept.setRow {F : Nat → Prop} {a w : World} (h : Kept F a w) (g : Nat) (hg : F g ∨ a.heap.size ≤ g) (cs : Array Value) : Kept F a (w.setRow g cs) :=
  ⟨h.os, h.tape, h.output, by simpa using h.size, fun k hk hF => (setRow_other w g k cs (fun e => by subst e; rcases hg with hg | hg; exact hF hg; omega)).trans (h.block k hk hF)⟩
/-- Terms, as a value; the reference's terms, as a value. -/
abbrev valL (x0 x1 x2 : Bool) (n0 n1 n2 : Int) : Value := .agg #[.bool x0, .int .i64 n0, .bool x1, .int .i64 n1, .bool x2, .int .i64 n2]
abbrev valR (i0 i1 i2 n0 n1 n2 : Int) : Value := .agg #[.int .i64 i0, .int .i64 n0, .int .i64 i1, .int .i64 n1, .int .i64 i2, .int .i64 n2]
/-- A whole row stored, the new memory under a name. -/
theorem wpList_store_rowW {P : Program} {ops : Array Oper} {rest : List Oper} {o : Oper} {a : Act} {w : World} {Q : Exit → Act → World → Prop} (hgd : o.guard = none) (ty : TypeId) (x y : Operand) (ho : o.op = .store ty x y)
    (g : Nat) (cs : Array Value) (hx : a.eval x = .pointer (some ⟨g, 0, none⟩)) (hy : a.eval y = .agg cs) (t : TypeId) (old : Array Value) (hg : Blk w g t old) (hi : (P.info? ty).map (·.size) = some cs.size) (hold : old.size = cs.size) (h1 : cs.all (·.oneCell') = true)
    (h : ∀ W, Kept (fun k => k = g) w W → Blk W g t cs → wpList P ops Q rest (a.put o.dst undef) W) : wpList P ops Q (o :: rest) a w :=
  wpList_store_row hgd ty x y ho g cs hx hy t old hg hi hold h1 (h _ (Kept.setRow (F := fun k => k = g) (Kept.refl _ w) g (Or.inl rfl) _) (hg.row _))
abbrev z6 : Array Value := #[.int .i64 0, .int .i64 0, .int .i64 0, .int .i64 0, .int .i64 0, .int .i64 0]
theorem wpList_store_refW {ops : Array Oper} {rest : List Oper} {o : Oper} {a : Act} {w : World} {Q : Exit → Act → World → Prop} (hgd : o.guard = none) (x y : Operand) (ho : o.op = .store 75 x y)
    (g : Nat) (a0 a1 a2 a3 a4 a5 : Int) (hx : a.eval x = .pointer (some ⟨g, 0, none⟩)) (hy : a.eval y = .agg #[.int .i64 a0, .int .i64 a1, .int .i64 a2, .int .i64 a3, .int .i64 a4, .int .i64 a5]) (hg : Blk w g 75 z6)
    (h : ∀ W, Kept (fun k => k = g) w W → Blk W g 75 #[.int .i64 a0, .int .i64 a1, .int .i64 a2, .int .i64 a3, .int .i64 a4, .int .i64 a5] → wpList Tryz.prog ops Q rest (a.put o.dst undef) W) : wpList Tryz.prog ops Q (o :: rest) a w :=
  wpList_store_rowW hgd _ x y ho g _ hx hy _ _ hg (by kernel_rfl) rfl (by simp [Value.oneCell']) h
structure RefW (w : World) (lc oc : Array Value) (W : World) : Prop where
  kept : Kept Nil w W
  b0 : Blk W w.heap.size 70 lc
  b1 : Blk W (w.heap.size + 1) 75 #[.int .i64 0, .int .i64 0, .int .i64 0, .int .i64 0, .int .i64 0, .int .i64 0]
  b2 : Blk W (w.heap.size + 1 + 1) 75 oc
theorem RefW.start (w : World) (lc : Array Value) : RefW w lc #[.int .i64 0, .int .i64 0, .int .i64 0, .int .i64 0, .int .i64 0, .int .i64 0] (((w.alloc (.cells lc 70)).alloc (.cells #[.int .i64 0, .int .i64 0, .int .i64 0, .int .i64 0, .int .i64 0, .int .i64 0] 75)).alloc (.cells #[.int .i64 0, .int .i64 0, .int .i64 0, .int .i64 0, .int .i64 0, .int .i64 0] 75)) := by
  refine ⟨(((Kept.refl Nil w).alloc _).alloc _).alloc _, ((Blk.new w _ _).alloc _).alloc _, ?_, ?_⟩
  · have := (Blk.new (w.alloc (.cells lc 70)) 75 #[.int .i64 0, .int .i64 0, .int .i64 0, .int .i64 0, .int .i64 0, .int .i64 0]).alloc (.cells #[.int .i64 0, .int .i64 0, .int .i64 0, .int .i64 0, .int .i64 0, .int .i64 0] 75)
    simpa using this
  · have := Blk.new ((w.alloc (.cells lc 70)).alloc (.cells #[.int .i64 0, .int .i64 0, .int .i64 0, .int .i64 0, .int .i64 0, .int .i64 0] 75)) 75 #[.int .i64 0, .int .i64 0, .int .i64 0, .int .i64 0, .int .i64 0, .int .i64 0]
    simpa using this
theorem RefW.alloc {w : World} {lc oc : Array Value} {W : World} (h : RefW w lc oc W) (o : Obj) : RefW w lc oc (W.alloc o) := ⟨h.kept.alloc o, h.b0.alloc o, h.b1.alloc o, h.b2.alloc o⟩
theorem RefW.set_ {w : World} {lc oc : Array Value} {W : World} (h : RefW w lc oc W) (i : Nat) (v : Value) : RefW w lc (oc.setIfInBounds i v) (W.setCell ⟨w.heap.size + 1 + 1, i, none⟩ v) :=
  ⟨h.kept.setCell _ (.inr (by show _ ≤ w.heap.size + 1 + 1; omega)) _, h.b0.far (by show _ ≠ w.heap.size + 1 + 1; omega) _, h.b1.far (by show _ ≠ w.heap.size + 1 + 1; omega) _, h.b2.set_ i v⟩
theorem idxL3 (x0 x1 x2 : Bool) (n0 n1 n2 : Int) : (∀ w, (Instr.index 70 (valL x0 x1 x2 n0 n1 n2) (.int .i64 0)).run Tryz.prog w = .ok (.agg #[.bool x0, .int .i64 n0]) w) ∧ (∀ w, (Instr.index 70 (valL x0 x1 x2 n0 n1 n2) (.int .i64 1)).run Tryz.prog w = .ok (.agg #[.bool x1, .int .i64 n1]) w) ∧ (∀ w, (Instr.index 70 (valL x0 x1 x2 n0 n1 n2) (.int .i64 2)).run Tryz.prog w = .ok (.agg #[.bool x2, .int .i64 n2]) w) :=
  ⟨fun _ => by kernel_rfl, fun _ => by kernel_rfl, fun _ => by kernel_rfl⟩

set_option maxHeartbeats 1000000 in
theorem ref_any (x0 x1 x2 : Bool) (n0 n1 n2 : Int) (w : World) :
    Calls Tryz.prog 57 #[valL x0 x1 x2 n0 n1 n2] w fun e w' => e = .returned (valR (isV x0) (isV x1) (isV x2) n0 n1 n2) ∧ Kept Nil w w' := by
  obtain ⟨i0, i1, i2⟩ := idxL3 x0 x1 x2 n0 n1 n2
  have A0 := Lib.hid (RefW.start w #[.bool x0, .int .i64 n0, .bool x1, .int .i64 n1, .bool x2, .int .i64 n2])
  go_enter Tryz.func57, Tryz.ntmps57
  go_wp2_with fail
  go_loopw [7] (fun i wr => (i = .int .i64 0 ∧ RefW w #[.bool x0, .int .i64 n0, .bool x1, .int .i64 n1, .bool x2, .int .i64 n2] #[.int .i64 0, .int .i64 0, .int .i64 0, .int .i64 0, .int .i64 0, .int .i64 0] wr)
    ∨ (i = .int .i64 1 ∧ RefW w #[.bool x0, .int .i64 n0, .bool x1, .int .i64 n1, .bool x2, .int .i64 n2] #[.int .i64 (isV x0), .int .i64 n0, .int .i64 0, .int .i64 0, .int .i64 0, .int .i64 0] wr)
    ∨ (i = .int .i64 2 ∧ RefW w #[.bool x0, .int .i64 n0, .bool x1, .int .i64 n1, .bool x2, .int .i64 n2] #[.int .i64 (isV x0), .int .i64 n0, .int .i64 (isV x1), .int .i64 n1, .int .i64 0, .int .i64 0] wr)
    ∨ (i = .int .i64 3 ∧ RefW w #[.bool x0, .int .i64 n0, .bool x1, .int .i64 n1, .bool x2, .int .i64 n2] #[.int .i64 (isV x0), .int .i64 n0, .int .i64 (isV x1), .int .i64 n1, .int .i64 (isV x2), .int .i64 n2] wr)) (fun i _ => (3 - intOf i).toNat)
  case atStart => exact .inl ⟨rfl, A0.out⟩
  case round =>
    rcases hrel with ⟨rfl, h⟩ | ⟨rfl, h⟩ | ⟨rfl, h⟩ | ⟨rfl, h⟩
    · have H := Lib.hid h
      have c0 := h.b2.cell 0
      have c1 := h.b2.cell 1
      have f0 := h.b2.frozen 0
      have f1 := h.b2.frozen 1
      have hl : w.heap.size + 1 + 1 < wr.heap.size := h.b2.lt
      simp at c0 c1
      clear h A0
      cases x0
      · go_wp2_with fail
        go_roundw
        case rel => exact .inr (.inl ⟨rfl, (H.out.set_ 1 _).alloc _⟩)
        case measure => decide
      · go_wp2_with fail
        go_roundw
        case rel => exact .inr (.inl ⟨rfl, ((H.out.set_ 1 _).set_ 0 _).alloc _⟩)
        case measure => decide
    · have H := Lib.hid h
      have c0 := h.b2.cell 2
      have c1 := h.b2.cell 3
      have f0 := h.b2.frozen 2
      have f1 := h.b2.frozen 3
      have hl : w.heap.size + 1 + 1 < wr.heap.size := h.b2.lt
      simp at c0 c1
      clear h A0
      cases x1
      · go_wp2_with fail
        go_roundw
        case rel => exact .inr (.inr (.inl ⟨rfl, (H.out.set_ 3 _).alloc _⟩))
        case measure => decide
      · go_wp2_with fail
        go_roundw
        case rel => exact .inr (.inr (.inl ⟨rfl, ((H.out.set_ 3 _).set_ 2 _).alloc _⟩))
        case measure => decide
    · have H := Lib.hid h
      have c0 := h.b2.cell 4
      have c1 := h.b2.cell 5
      have f0 := h.b2.frozen 4
      have f1 := h.b2.frozen 5
      have hl : w.heap.size + 1 + 1 < wr.heap.size := h.b2.lt
      simp at c0 c1
      clear h A0
      cases x2
      · go_wp2_with fail
        go_roundw
        case rel => exact .inr (.inr (.inr ⟨rfl, (H.out.set_ 5 _).alloc _⟩))
        case measure => decide
      · go_wp2_with fail
        go_roundw
        case rel => exact .inr (.inr (.inr ⟨rfl, ((H.out.set_ 5 _).set_ 4 _).alloc _⟩))
        case measure => decide
    · have H := Lib.hid h
      have c0 := h.b2.cell 0
      have c1 := h.b2.cell 1
      have c2 := h.b2.cell 2
      have c3 := h.b2.cell 3
      have c4 := h.b2.cell 4
      have c5 := h.b2.cell 5
      simp at c0 c1 c2 c3 c4 c5
      clear h A0
      go_wp2_with ((with_reducible refine wpList_store_refW rfl _ _ rfl _ _ _ _ _ _ _ rfl rfl ?_ ?_)
                   · exact H.out.b1
                   intro W kW bW
                   have KW := Lib.hid kW
                   have BW := Lib.hid bW
                   clear kW bW)
      exact bodyPost_ret (results_cell_row Tryz.results57 _ _ _ _ _ _ _ rfl BW.out Tryz.underlying75 rfl (by kernel_rfl)) rfl ⟨rfl, H.out.kept.trans KW.out (fun i hi e => by omega)⟩

/-- All three are right. -/
def fine (x0 x1 x2 : Bool) (n0 n1 n2 : Int) : Bool := okTm x0 n0 && okTm x1 n1 && okTm x2 n2
end
section
open Go.RowKit
set_option maxRecDepth 100000

/-- What a condition says by itself: its kind, its terms. -/
structure Hd where
  k : Int
  x0 : Bool
  x1 : Bool
  x2 : Bool
  n0 : Int
  n1 : Int
  n2 : Int
inductive Sh where
  | mk (h : Hd) (subs : List Sh)
def Sh.hd : Sh → Hd
  | .mk h _ => h
def Sh.subs : Sh → List Sh
  | .mk _ l => l
theorem Sh.eta (s : Sh) : Sh.mk s.hd s.subs = s := by cases s; rfl
theorem Sh.ind {P : Sh → Prop} (h : ∀ hd subs, (∀ x ∈ subs, P x) → P (.mk hd subs)) : ∀ s, P s := by
  intro s
  exact Sh.rec (motive_1 := P) (motive_2 := fun l => ∀ x ∈ l, P x) (fun hd subs ih => h hd subs ih) (by simp) (fun a l ha hl x hx => by
    rcases List.mem_cons.1 hx with rfl | hx
    · exact ha
    · exact hl x hx) s
/-- All of them, in a list as in a tree. -/
theorem Sh.ind2 {P : Sh → Prop} {Q : List Sh → Prop} (h : ∀ hd subs, Q subs → P (.mk hd subs)) (h0 : Q []) (h1 : ∀ a l, P a → Q l → Q (a :: l)) : (∀ s, P s) ∧ ∀ l, Q l :=
  ⟨fun s => Sh.rec (motive_1 := P) (motive_2 := Q) h h0 h1 s, fun l => by
    induction l with
    | nil => exact h0
    | cons a l ih => exact h1 a l (Sh.rec (motive_1 := P) (motive_2 := Q) h h0 h1 a) ih⟩

mutual
def Sh.count : Sh → Nat
  | .mk _ l => 1 + countL l
def countL : List Sh → Nat
  | [] => 0
  | s :: r => s.count + countL r
end
theorem countL_append (a b : List Sh) : countL (a ++ b) = countL a + countL b := by
  induction a with
  | nil => simp [countL]
  | cons x r ih => simp only [List.cons_append, countL, ih]; omega
theorem count_pos (s : Sh) : 0 < s.count := by cases s; unfold Sh.count; omega
theorem length_countL : ∀ l : List Sh, l.length ≤ countL l
  | [] => by simp
  | s :: r => by
    have := length_countL r
    have := count_pos s
    simp only [List.length_cons, countL]; omega
theorem count_mem {l : List Sh} {s : Sh} (h : s ∈ l) : s.count ≤ countL l := by
  induction l with
  | nil => cases h
  | cons a r ih =>
    simp only [countL]
    rcases List.mem_cons.1 h with rfl | h
    · omega
    · have := ih h; omega
theorem countL_take_succ {l : List Sh} {i : Nat} {s : Sh} (h : l[i]? = some s) : countL (l.take (i + 1)) = countL (l.take i) + s.count := by
  rw [List.take_add_one, h, countL_append]
  simp [countL]
theorem countL_take_le (l : List Sh) (i : Nat) : countL (l.take i) ≤ countL l := by
  have := countL_append (l.take i) (l.drop i)
  rw [List.take_append_drop] at this
  omega

/-- The cells of a condition: of the program's, of the reference's. -/
abbrev cA (h : Hd) (v : Value) : List Value := [.int .i64 h.k, .bool h.x0, .int .i64 h.n0, .bool h.x1, .int .i64 h.n1, .bool h.x2, .int .i64 h.n2, v]
abbrev cR (h : Hd) (v : Value) : List Value := [.int .i64 h.k, .int .i64 (isV h.x0), .int .i64 h.n0, .int .i64 (isV h.x1), .int .i64 h.n1, .int .i64 (isV h.x2), .int .i64 h.n2, v]

/-- A slice in memory that holds conditions; 'ok' names the places where rows begin. -/
inductive Holds (E : Hd → Value → List Value) (w : World) (ok : Nat → Nat → Prop) : Value → List Sh → Prop
  | nil (a : Option Addr) (cap : Nat) : Holds E w ok (.slice a 0 cap) []
  | row (b o cap : Nat) (subs : List Sh) (u : Nat → Value) (hn : subs.length ≤ cap) (hok : ok b o)
      (hr : ∀ i x, subs[i]? = some x → w.rangeAt b (o + i * 8) (E x.hd (u i)))
      (hs : ∀ i x, subs[i]? = some x → Holds E w ok (u i) x.subs) : Holds E w ok (.slice (some ⟨b, o, none⟩) subs.length cap) subs

section
variable {E : Hd → Value → List Value} {w w' : World} {ok ok' : Nat → Nat → Prop} {v : Value} {subs : List Sh}
theorem Holds.shape (h : Holds E w ok v subs) : ∃ a cap, v = .slice a subs.length cap := by
  cases h with
  | nil a cap => exact ⟨a, cap, rfl⟩
  | row b o cap _ u => exact ⟨_, cap, rfl⟩
theorem Holds.fits {a : Option Addr} {n cap : Nat} (h : Holds E w ok (.slice a n cap) subs) : n = subs.length ∧ n ≤ cap := by
  generalize e : Value.slice a n cap = v at h
  cases h with
  | nil a' cap' => cases e; exact ⟨rfl, Nat.zero_le _⟩
  | row b o cap' _ u hn => cases e; exact ⟨rfl, hn⟩
theorem Holds.at_ {a : Option Addr} {n cap : Nat} (h : Holds E w ok (.slice a n cap) subs) {i : Nat} {hd : Hd} {sb : List Sh} (hi : subs[i]? = some (.mk hd sb)) :
    ∃ b o a' cap', a = some ⟨b, o, none⟩ ∧ ok b o ∧ w.rangeAt b (o + i * 8) (E hd (.slice a' sb.length cap')) ∧ Holds E w ok (.slice a' sb.length cap') sb := by
  generalize e : Value.slice a n cap = v at h
  cases h with
  | nil a' cap' => simp at hi
  | row b o cap' _ u hn hok hr hs =>
    cases e
    obtain ⟨a', cap2, e2⟩ := (hs i _ hi).shape
    have h1 := hr i _ hi
    have h2 := hs i _ hi
    rw [e2] at h1 h2
    exact ⟨b, o, a', cap2, rfl, hok, h1, h2⟩
theorem Holds.move (h : Holds E w ok v subs) (hr : ∀ b o l, ok b o → ∀ i, w.rangeAt b (o + i * 8) l → w'.rangeAt b (o + i * 8) l) (ho : ∀ b o, ok b o → ok' b o) : Holds E w' ok' v subs := by
  induction h with
  | nil a cap => exact .nil a cap
  | row b o cap subs u hn hok hr' _ ih => exact .row b o cap subs u hn (ho b o hok) (fun i x hi => hr b o _ hok i (hr' i x hi)) ih
theorem Holds.mono (h : Holds E w ok v subs) (ho : ∀ b o, ok b o → ok' b o) : Holds E w ok' v subs := h.move (fun _ _ _ _ _ h => h) ho
theorem rangeAt_kept {F : Nat → Prop} (k : Kept F w w') {b o : Nat} (hF : ¬ F b) {l : List Value} (h : w.rangeAt b o l) : w'.rangeAt b o l := fun j u hu => by
  have := h j u hu
  rw [k.cell (World.block_lt_of_cell? w _ this) hF]
  exact this
theorem Holds.kept {F : Nat → Prop} (h : Holds E w ok v subs) (k : Kept F w w') (hF : ∀ b o, ok b o → ¬ F b) : Holds E w' ok v subs :=
  h.move (fun b o _ hb _ hr => rangeAt_kept k (hF b o hb) hr) (fun _ _ h => h)
theorem Holds.keptN (h : Holds E w ok v subs) (k : Kept Nil w w') : Holds E w' ok v subs := h.kept k (fun _ _ _ g => g)
end
theorem cA_len (h : Hd) (v : Value) : (cA h v).length = 8 := rfl
theorem cR_len (h : Hd) (v : Value) : (cR h v).length = 8 := rfl
theorem infoA8 : (Tryz.prog.info? 72).map (·.size) = some 8 := by kernel_rfl
theorem infoR8 : (Tryz.prog.info? 77).map (·.size) = some 8 := by kernel_rfl

/-- A condition of the program loaded out of a row; one of the reference. -/
theorem wpList_load_A {ops : Array Oper} {rest : List Oper} {o : Oper} {a : Act} {w : World} {Q : Exit → Act → World → Prop} (hgd : o.guard = none) (x : Operand) (ho : o.op = .load 72 x)
    (b p : Nat) (hx : a.eval x = .pointer (some ⟨b, p, none⟩)) (h : Hd) (u : Value) (hr : w.rangeAt b p (cA h u))
    (hn : wpList Tryz.prog ops Q rest (a.put o.dst (.agg #[.int .i64 h.k, .bool h.x0, .int .i64 h.n0, .bool h.x1, .int .i64 h.n1, .bool h.x2, .int .i64 h.n2, u])) w) : wpList Tryz.prog ops Q (o :: rest) a w :=
  wpList_load_mid hgd _ x ho b p hx (cA h u) _ hr Tryz.underlying72 rfl infoA8 hn
theorem wpList_load_R {ops : Array Oper} {rest : List Oper} {o : Oper} {a : Act} {w : World} {Q : Exit → Act → World → Prop} (hgd : o.guard = none) (x : Operand) (ho : o.op = .load 77 x)
    (b p : Nat) (hx : a.eval x = .pointer (some ⟨b, p, none⟩)) (h : Hd) (u : Value) (hr : w.rangeAt b p (cR h u))
    (hn : wpList Tryz.prog ops Q rest (a.put o.dst (.agg #[.int .i64 h.k, .int .i64 (isV h.x0), .int .i64 h.n0, .int .i64 (isV h.x1), .int .i64 h.n1, .int .i64 (isV h.x2), .int .i64 h.n2, u])) w) : wpList Tryz.prog ops Q (o :: rest) a w :=
  wpList_load_mid hgd _ x ho b p hx (cR h u) _ hr Tryz.underlying77 rfl infoR8 hn
theorem wpList_load_AG {ops : Array Oper} {rest : List Oper} {o : Oper} {a : Act} {w : World} {Q : Exit → Act → World → Prop} (hw : Region.wanted o (yielded ops a.tmps) = true) (x : Operand) (ho : o.op = .load 72 x)
    (b p : Nat) (hx : a.eval x = .pointer (some ⟨b, p, none⟩)) (h : Hd) (u : Value) (hr : w.rangeAt b p (cA h u))
    (hn : wpList Tryz.prog ops Q rest (a.put o.dst (.agg #[.int .i64 h.k, .bool h.x0, .int .i64 h.n0, .bool h.x1, .int .i64 h.n1, .bool h.x2, .int .i64 h.n2, u])) w) : wpList Tryz.prog ops Q (o :: rest) a w :=
  BigFrame.wpList_want hw fun _ hK => wp_load_mid _ x ho b p hx (cA h u) _ hr Tryz.underlying72 rfl infoA8 (hK _ _ hn)
/-- A condition as a value. -/
abbrev vA (h : Hd) (v : Value) : Value := .agg #[.int .i64 h.k, .bool h.x0, .int .i64 h.n0, .bool h.x1, .int .i64 h.n1, .bool h.x2, .int .i64 h.n2, v]
abbrev vR (h : Hd) (v : Value) : Value := .agg #[.int .i64 h.k, .int .i64 (isV h.x0), .int .i64 h.n0, .int .i64 (isV h.x1), .int .i64 h.n1, .int .i64 (isV h.x2), .int .i64 h.n2, v]
end
section
open Go.RowKit Go.ChangeShapes Go.WideShapes Go.ChangeAt Go.Deep
set_option maxRecDepth 100000

theorem own : ownKnob Tryz.prog.godebug = none := by kernel_rfl
theorem laidOut : laidOutB Tryz.prog = true := by kernel_rfl
theorem cellsInt : Tryz.prog.cellsOf 3 = 1 := by kernel_rfl
section
variable {H : Type} {enc : TypeId × Value → H}
theorem cellsL : Tryz.prog.cellsOf 70 = 6 := by kernel_rfl
theorem cellsTm : Tryz.prog.cellsOf 69 = 2 := by kernel_rfl
theorem cellsCd : Tryz.prog.cellsOf 72 = 8 := by kernel_rfl
theorem cellsSl : Tryz.prog.cellsOf 31 = 1 := by kernel_rfl
theorem open_Tm {W : World} {b0 n : Nat} {sp : Nat → Bool} {held : Bool} {x y : Value} {d : DataW H × List MemPlace} (h : DataW.trod enc Tryz.prog W b0 sp held n 69 [x, y] = some d) :
    ∃ v k, x = .bool v ∧ y = .int .i64 k := by
  obtain ⟨y0, y1, m, _, _, h0, h1⟩ := trod_struct2 Tryz.underlying69 h
  have c1 : Tryz.prog.cellsOf 4 = 1 := by kernel_rfl
  have h0' : DataW.trod enc Tryz.prog W b0 sp held m 4 [x] = some y0 := by
    have := h0
    rw [c1] at this
    exact this
  have h1' : DataW.trod enc Tryz.prog W b0 sp held m 3 [y] = some y1 := by
    have := h1
    rw [cellsInt] at this
    exact this
  obtain ⟨v, e0, _⟩ := DataW.trod_bool Tryz.underlying4 h0'
  obtain ⟨k, e1, _⟩ := DataW.trod_int Tryz.underlying3 h1'
  simp at e0 e1
  exact ⟨v, k, e0, e1⟩
theorem open_terms {W : World} {b0 n : Nat} {sp : Nat → Bool} {held : Bool} {c1 c2 c3 c4 c5 c6 : Value} {d : DataW H × List MemPlace} (hf : DataW.trod enc Tryz.prog W b0 sp held n 70 [c1, c2, c3, c4, c5, c6] = some d) :
    ∃ x0 x1 x2 n0 n1 n2, [c1, c2, c3, c4, c5, c6] = [Value.bool x0, .int .i64 n0, .bool x1, .int .i64 n1, .bool x2, .int .i64 n2] := by
  obtain ⟨xs, m, _, _, _, hlen, hat⟩ := DataW.trod_array Tryz.underlying70 hf
  rw [cellsTm] at hat
  match xs, hlen with
  | [y0, y1, y2], _ =>
    obtain ⟨x0, n0, rfl, rfl⟩ := open_Tm (hat 0 (by decide))
    obtain ⟨x1, n1, rfl, rfl⟩ := open_Tm (hat 1 (by decide))
    obtain ⟨x2, n2, rfl, rfl⟩ := open_Tm (hat 2 (by decide))
    exact ⟨x0, x1, x2, n0, n1, n2, rfl⟩
theorem list8 {α : Type} (l : List α) (h : l.length = 8) : ∃ a b c d e f g i, l = [a, b, c, d, e, f, g, i] := by
  match l, h with
  | [a, b, c, d, e, f, g, i], _ => exact ⟨a, b, c, d, e, f, g, i, rfl⟩
theorem open_cond {W : World} {sp : Nat → Bool} {held : Bool} : ∀ (fuel : Nat) (cs : List Value) (x : DataW H × List MemPlace), DataW.trod enc Tryz.prog W 0 sp held fuel 72 cs = some x →
    ∃ hd a cap subs, cs = cA hd (.slice a subs.length cap) ∧ Holds cA W (fun b _ => b < W.heap.size) (.slice a subs.length cap) subs := by
  intro fuel
  induction fuel using Nat.strongRecOn with
  | ind fuel ih =>
    intro cs x h
    obtain ⟨xs, n, hn, _, hlen, hxl, hf⟩ := DataW.trod_struct Tryz.underlying72 h
    rw [cellsCd] at hlen
    obtain ⟨c0, c1, c2, c3, c4, c5, c6, c7, rfl⟩ := list8 cs hlen
    have hxl' : xs.length = 3 := hxl
    match xs, hxl' with
    | [y0, y1, y2], _ =>
      have f0 := hf 0 _ rfl
      have f1 := hf 1 _ rfl
      have f2 := hf 2 _ rfl
      have f0' : DataW.trod enc Tryz.prog W 0 sp held n 3 [c0] = some y0 := by
        have := f0
        change DataW.trod enc Tryz.prog W 0 sp held n 3 (List.take (Tryz.prog.cellsOf 3) [c0, c1, c2, c3, c4, c5, c6, c7]) = some y0 at this
        rw [cellsInt] at this
        exact this
      have f1' : DataW.trod enc Tryz.prog W 0 sp held n 70 [c1, c2, c3, c4, c5, c6] = some y1 := by
        have := f1
        change DataW.trod enc Tryz.prog W 0 sp held n 70 (List.take (Tryz.prog.cellsOf 70) [c1, c2, c3, c4, c5, c6, c7]) = some y1 at this
        rw [cellsL] at this
        exact this
      have f2' : DataW.trod enc Tryz.prog W 0 sp held n 31 [c7] = some y2 := by
        have := f2
        change DataW.trod enc Tryz.prog W 0 sp held n 31 (List.take (Tryz.prog.cellsOf 31) [c7]) = some y2 at this
        rw [cellsSl] at this
        exact this
      clear f0 f1 f2 hf
      obtain ⟨k, e0, _⟩ := DataW.trod_int Tryz.underlying3 f0'
      simp at e0
      subst e0
      obtain ⟨x0, x1, x2, n0, n1, n2, e1⟩ := open_terms f1'
      simp at e1
      obtain ⟨rfl, rfl, rfl, rfl, rfl, rfl⟩ := e1
      rcases DataW.trod_slice Tryz.underlying31 f2' with ⟨e2, _⟩ | ⟨a, len, cap, elems, rest, n', hn', e2, _, _, hlc, _, hel, hat, _⟩
      · simp at e2
        subst e2
        exact ⟨⟨k, x0, x1, x2, n0, n1, n2⟩, none, 0, [], rfl, .nil none 0⟩
      · simp at e2
        subst e2
        rw [cellsCd] at hat
        have each : ∀ i, i < len → ∃ q : Hd × List Sh × Option Addr × Nat, (∀ j v, (cA q.1 (.slice q.2.2.1 q.2.1.length q.2.2.2))[j]? = some v → W.cell? ((a.add (i * 8)).add j) = some v) ∧ Holds cA W (fun b _ => b < W.heap.size) (.slice q.2.2.1 q.2.1.length q.2.2.2) q.2.1 := by
          intro i hi
          have h1 := hat i hi
          rw [List.getElem?_eq_getElem (by omega)] at h1
          obtain ⟨cs', h2, h3⟩ := Option.bind_eq_some_iff.1 h1
          obtain ⟨hd, a', cap', subs, rfl, hs⟩ := ih n' (by omega) cs' _ h3
          obtain ⟨_, _, hc⟩ := World.cells?_some h2
          refine ⟨⟨hd, subs, a', cap'⟩, fun j v hj => ?_, hs⟩
          rw [hc j (by have := (List.getElem?_eq_some_iff.1 hj).1; simpa using this)]
          exact hj
        haveI : Inhabited (Hd × List Sh × Option Addr × Nat) := ⟨⟨⟨0, false, false, false, 0, 0, 0⟩, [], none, 0⟩⟩
        obtain ⟨q, hq⟩ := choose_lt each
        rcases Nat.eq_zero_or_pos len with rfl | hpos
        · exact ⟨⟨k, x0, x1, x2, n0, n1, n2⟩, some a, cap, [], rfl, .nil _ _⟩
        · obtain ⟨b, o, spot⟩ := a
          have c00 := (hq 0 hpos).1 0 _ rfl
          have hspot : spot = none := by simpa [Addr.add] using World.cell?_spot c00
          subst hspot
          have hb : b < W.heap.size := by
            have := World.block_lt_of_cell? W _ c00
            simpa [Addr.add] using this
          have hl : ((List.range len).map fun i => Sh.mk (q i).1 (q i).2.1).length = len := by simp
          refine ⟨⟨k, x0, x1, x2, n0, n1, n2⟩, some ⟨b, o, none⟩, cap, (List.range len).map fun i => Sh.mk (q i).1 (q i).2.1, by rw [hl], ?_⟩
          refine .row b o cap _ (fun i => .slice (q i).2.2.1 (q i).2.1.length (q i).2.2.2) (by rw [hl]; exact hlc) hb (fun i x hi => ?_) (fun i x hi => ?_)
          · have hil : i < len := by have := (List.getElem?_eq_some_iff.1 hi).1; rwa [hl] at this
            simp [hil] at hi
            subst hi
            intro j v hj
            have := (hq i hil).1 j v hj
            rw [Addr.add_mid, Addr.add_mid] at this
            exact this
          · have hil : i < len := by have := (List.getElem?_eq_some_iff.1 hi).1; rwa [hl] at this
            simp [hil] at hi
            subst hi
            exact (hq i hil).2
theorem open_C {W : World} {base : Nat} {sp : Nat → Bool} {held : Bool} {v : Value} {d : DataW H} {p : List MemPlace} (hv : Value.okWide Tryz.prog W .any base 72 v) (h : DataW.Trod enc Tryz.prog W 0 sp held 72 v d p) :
    ∃ s a cap, v = vA (Sh.hd s) (.slice a s.subs.length cap) ∧ Holds cA W (fun b _ => b < W.heap.size) (.slice a s.subs.length cap) s.subs := by
  obtain ⟨cs, rfl, _⟩ := okWide_struct Tryz.underlying72 hv
  obtain ⟨fuel, hf⟩ := h
  obtain ⟨hd, a, cap, subs, e, hs⟩ := open_cond fuel _ _ hf
  obtain ⟨l⟩ := cs
  refine ⟨.mk hd subs, a, cap, ?_, hs⟩
  have e' : l = cA hd (.slice a subs.length cap) := e
  rw [e']
  rfl
end
end
section
open Go.RowKit Go.ChangeShapes Go.WideShapes Go.ChangeAt Go.Deep
set_option maxRecDepth 100000

section
variable {H : Type} {enc : TypeId × Value → H}
theorem open_conds {W : World} {sp : Nat → Bool} {held : Bool} (fuel : Nat) (c : Value) (x : DataW H × List MemPlace) (h : DataW.trod enc Tryz.prog W 0 sp held fuel 31 [c] = some x) :
    ∃ a cap l, c = .slice a (List.length l) cap ∧ (l.length ≤ cap ∧ cap ≤ maxLen) ∧ Holds cA W (fun b _ => b < W.heap.size) (.slice a l.length cap) l := by
  rcases DataW.trod_slice Tryz.underlying31 h with ⟨e2, _⟩ | ⟨a, len, cap, elems, rest, n', _, e2, _, _, hlc, hcm, hel, hat, _⟩
  · simp at e2
    subst e2
    exact ⟨none, 0, [], rfl, ⟨Nat.le_refl _, Nat.zero_le _⟩, .nil none 0⟩
  · simp at e2
    subst e2
    rw [cellsCd] at hat
    have each : ∀ i, i < len → ∃ q : Hd × List Sh × Option Addr × Nat, (∀ j v, (cA q.1 (.slice q.2.2.1 q.2.1.length q.2.2.2))[j]? = some v → W.cell? ((a.add (i * 8)).add j) = some v) ∧ Holds cA W (fun b _ => b < W.heap.size) (.slice q.2.2.1 q.2.1.length q.2.2.2) q.2.1 := by
      intro i hi
      have h1 := hat i hi
      rw [List.getElem?_eq_getElem (by omega)] at h1
      obtain ⟨cs', h2, h3⟩ := Option.bind_eq_some_iff.1 h1
      obtain ⟨hd, a', cap', subs, rfl, hs⟩ := open_cond n' cs' _ h3
      obtain ⟨_, _, hc⟩ := World.cells?_some h2
      refine ⟨⟨hd, subs, a', cap'⟩, fun j v hj => ?_, hs⟩
      rw [hc j (by have := (List.getElem?_eq_some_iff.1 hj).1; simpa using this)]
      exact hj
    haveI : Inhabited (Hd × List Sh × Option Addr × Nat) := ⟨⟨⟨0, false, false, false, 0, 0, 0⟩, [], none, 0⟩⟩
    obtain ⟨q, hq⟩ := choose_lt each
    rcases Nat.eq_zero_or_pos len with rfl | hpos
    · exact ⟨some a, cap, [], rfl, ⟨Nat.zero_le _, hcm⟩, .nil _ _⟩
    · obtain ⟨b, o, spot⟩ := a
      have c00 := (hq 0 hpos).1 0 _ rfl
      have hspot : spot = none := by simpa [Addr.add] using World.cell?_spot c00
      subst hspot
      have hb : b < W.heap.size := by
        have := World.block_lt_of_cell? W _ c00
        simpa [Addr.add] using this
      have hl : ((List.range len).map fun i => Sh.mk (q i).1 (q i).2.1).length = len := by simp
      refine ⟨some ⟨b, o, none⟩, cap, (List.range len).map fun i => Sh.mk (q i).1 (q i).2.1, by rw [hl], ⟨by rw [hl]; exact hlc, hcm⟩, ?_⟩
      refine .row b o cap _ (fun i => .slice (q i).2.2.1 (q i).2.1.length (q i).2.2.2) (by rw [hl]; exact hlc) hb (fun i x hi => ?_) (fun i x hi => ?_)
      · have hil : i < len := by have := (List.getElem?_eq_some_iff.1 hi).1; rwa [hl] at this
        simp [hil] at hi
        subst hi
        intro j v hj
        have := (hq i hil).1 j v hj
        rw [Addr.add_mid, Addr.add_mid] at this
        exact this
      · have hil : i < len := by have := (List.getElem?_eq_some_iff.1 hi).1; rwa [hl] at this
        simp [hil] at hi
        subst hi
        exact (hq i hil).2
theorem open_S {W : World} {base : Nat} {sp : Nat → Bool} {held : Bool} {v : Value} {d : DataW H} {p : List MemPlace} (hv : Value.okWide Tryz.prog W .any base 31 v) (h : DataW.Trod enc Tryz.prog W 0 sp held 31 v d p) :
    ∃ l a cap, v = .slice a (List.length l) cap ∧ Holds cA W (fun b _ => b < W.heap.size) (.slice a l.length cap) l := by
  obtain ⟨a0, n0, c0, rfl⟩ := okWide_slice Tryz.underlying31 hv
  obtain ⟨fuel, hf⟩ := h
  obtain ⟨a, cap, l, e, _, hh⟩ := open_conds fuel (.slice a0 n0 c0) _ (by simpa [Value.cells] using hf)
  exact ⟨l, a, cap, e, hh⟩
end
end
section
open Go.RowKit
set_option maxRecDepth 100000

set_option maxHeartbeats 1000000 in
theorem refSize_step (k : Int) (x0 x1 x2 : Bool) (n0 n1 n2 : Int) (subs : List Sh) (len : Nat) (HL : Hid (subs.length = len)) (HC : Hid (countL subs ≤ 5000))
    (IH : Hid (∀ hd sb, Sh.mk hd sb ∈ subs → ∀ ok a cap w, Holds cR w ok (.slice a sb.length cap) sb → Calls Tryz.prog 20 #[vR hd (.slice a sb.length cap)] w fun e w' => e = .returned (.int .i64 ((Sh.mk hd sb).count : Int)) ∧ Kept Nil w w'))
    (ok : Nat → Nat → Prop) (a : Option Addr) (cap : Nat) (w : World) (HH : Hid (Holds cR w ok (.slice a len cap) subs)) :
    Calls Tryz.prog 20 #[vR ⟨k, x0, x1, x2, n0, n1, n2⟩ (.slice a len cap)] w fun e w' => e = .returned (.int .i64 ((1 + countL subs : Nat) : Int)) ∧ Kept Nil w w' := by
  have hLen : len ≤ 5000 := by have := length_countL subs; have := HL.out; have := HC.out; omega
  have K0 := Lib.hid ((Kept.refl Nil w).alloc (.cells #[.int .i64 k, .int .i64 (isV x0), .int .i64 n0, .int .i64 (isV x1), .int .i64 n1, .int .i64 (isV x2), .int .i64 n2, .slice a len cap] 77))
  go_enter Tryz.func20, Tryz.ntmps20
  go_wp2_with fail
  go_loopw [3, 9] (fun n i wr => ∃ j : Nat, j ≤ len ∧ i = .int .i64 j ∧ n = .int .i64 ((1 + countL (subs.take j) : Nat) : Int) ∧ Kept Nil w wr) (fun _ i _ => len - (intOf i).toNat)
  case atStart => exact ⟨0, by omega, rfl, by simp [countL], K0.out⟩
  case round =>
    obtain ⟨j, hj, rfl, rfl, hK⟩ := hrel
    have HK := Lib.hid hK
    clear hK K0
    by_cases hlt : j < len
    · obtain ⟨⟨⟨k', x0', x1', x2', n0', n1', n2'⟩, sb⟩, hx⟩ : ∃ x, subs[j]? = some x := ⟨_, List.getElem?_eq_getElem (by have := HL.out; omega)⟩
      obtain ⟨b, o, a', cap', rfl, hok, hr, hs⟩ := (HH.out.keptN HK.out).at_ hx
      have HX := Lib.hid (IH.out _ _ (List.mem_of_getElem? hx))
      have HR := Lib.hid hr
      have HS := Lib.hid hs
      have HN := Lib.hid (countL_take_succ hx)
      have HB := Lib.hid (countL_take_le subs (j + 1))
      clear hx hr hs hok
      generalize hcn : countL (subs.take j) = cn at HN
      have HCN := Lib.hid hcn
      clear hcn
      have HC' : (Sh.mk ⟨k', x0', x1', x2', n0', n1', n2'⟩ sb).count + cn ≤ 5000 := by have := HN.out; have := HB.out; have := HC.out; omega
      generalize (Sh.mk ⟨k', x0', x1', x2', n0', n1', n2'⟩ sb).count = cx at HX HN HC'
      generalize sb.length = len' at HR HS HX
      go_wp2_with ((with_reducible refine wpList_load_R rfl (.tmp 11) rfl _ _ rfl ⟨k', x0', x1', x2', n0', n1', n2'⟩ (.slice a' len' cap') ?_ ?_)
                   · exact HR.out)
      refine (HX.out _ _ _ _ (HS.out.keptN ((Kept.refl Nil _).alloc _))).mono ?_
      rintro e w2 ⟨rfl, k2⟩
      go_wp2_with fail
      go_roundw
      case rel => exact ⟨j + 1, by omega, by go_num, by rw [HN.out]; go_num, (HK.out.alloc _).trans k2 (fun _ _ g => g)⟩
      case measure => simp [intOf]; omega
    · obtain rfl : j = len := by omega
      have HE : Hid (subs.take j = subs) := Lib.hid (by rw [← HL.out]; simp)
      go_wp2_with fail
      go_ret
      exact ⟨by rw [HE.out]; rfl, HK.out⟩
theorem refSize_any : ∀ s : Sh, s.count ≤ 5000 → ∀ ok a cap w, Holds cR w ok (.slice a s.subs.length cap) s.subs →
    Calls Tryz.prog 20 #[vR s.hd (.slice a s.subs.length cap)] w fun e w' => e = .returned (.int .i64 (s.count : Int)) ∧ Kept Nil w w' := by
  refine Sh.ind fun hd subs ih hc ok a cap w h => ?_
  have hc' : 1 + countL subs ≤ 5000 := by simpa [Sh.count] using hc
  have := refSize_step hd.k hd.x0 hd.x1 hd.x2 hd.n0 hd.n1 hd.n2 subs _ rfl (show _ ≤ _ by omega) (fun hd' sb hx => ih _ hx (by have := count_mem hx; omega)) ok a cap w h
  rw [show (Sh.mk hd subs).count = 1 + countL subs by simp [Sh.count]]
  exact this
end
section
open Go.RowKit
set_option maxRecDepth 100000

theorem infoTm : (Tryz.prog.info? 69).isSome = true := by kernel_rfl
theorem cellsTm2 : Tryz.prog.cellsOf 69 = 2 := by kernel_rfl
theorem infoTmR : (Tryz.prog.info? 74).isSome = true := by kernel_rfl
theorem cellsTmR2 : Tryz.prog.cellsOf 74 = 2 := by kernel_rfl
theorem partL (x0 x1 x2 : Bool) (n0 n1 n2 : Int) : (∀ w, (part 69 #[.bool x0, .int .i64 n0, .bool x1, .int .i64 n1, .bool x2, .int .i64 n2] 0).run Tryz.prog w = .ok (.agg #[.bool x0, .int .i64 n0]) w) ∧ (∀ w, (part 69 #[.bool x0, .int .i64 n0, .bool x1, .int .i64 n1, .bool x2, .int .i64 n2] 2).run Tryz.prog w = .ok (.agg #[.bool x1, .int .i64 n1]) w) ∧ (∀ w, (part 69 #[.bool x0, .int .i64 n0, .bool x1, .int .i64 n1, .bool x2, .int .i64 n2] 4).run Tryz.prog w = .ok (.agg #[.bool x2, .int .i64 n2]) w) :=
  ⟨fun _ => by kernel_rfl, fun _ => by kernel_rfl, fun _ => by kernel_rfl⟩
theorem partR (x0 x1 x2 n0 n1 n2 : Int) : (∀ w, (part 74 #[.int .i64 x0, .int .i64 n0, .int .i64 x1, .int .i64 n1, .int .i64 x2, .int .i64 n2] 0).run Tryz.prog w = .ok (.agg #[.int .i64 x0, .int .i64 n0]) w) ∧ (∀ w, (part 74 #[.int .i64 x0, .int .i64 n0, .int .i64 x1, .int .i64 n1, .int .i64 x2, .int .i64 n2] 2).run Tryz.prog w = .ok (.agg #[.int .i64 x1, .int .i64 n1]) w) ∧ (∀ w, (part 74 #[.int .i64 x0, .int .i64 n0, .int .i64 x1, .int .i64 n1, .int .i64 x2, .int .i64 n2] 4).run Tryz.prog w = .ok (.agg #[.int .i64 x2, .int .i64 n2]) w) :=
  ⟨fun _ => by kernel_rfl, fun _ => by kernel_rfl, fun _ => by kernel_rfl⟩
theorem eqTm (x y : Bool) (n m : Int) (w : World) : (Op.equalIn 9999 69 (.agg #[.bool x, .int .i64 n]) (.agg #[.bool y, .int .i64 m])).run Tryz.prog w = .ok (decide (x = y ∧ n = m)) w := by
  have e : ∀ x y : Int, (Op.equalIn 9998 3 (.int .i64 x) (.int .i64 y)).run Tryz.prog w = .ok (x == y) w := fun x y => run_equalIn_int w 9997 3 .i64 .i64 x y Tryz.underlying3
  have eb : ∀ x y : Bool, (Op.equalIn 9998 4 (.bool x) (.bool y)).run Tryz.prog w = .ok (x == y) w := fun x y => run_equalIn_bool w 9997 4 x y Tryz.underlying4
  rw [run_equalIn_struct w 9998 _ _ _ (by kernel_rfl) (by kernel_rfl)]
  simp only [Program.fieldsOf, Tryz.underlying69]
  by_cases h : x = y
  · subst h
    by_cases hn : n = m <;> simp [Op.eqFields, part, isAgg, run_underlying Tryz.underlying3, run_underlying Tryz.underlying4, e, eb, hn]
  · simp [Op.eqFields, part, isAgg, run_underlying Tryz.underlying3, run_underlying Tryz.underlying4, eb, h]
theorem eqTmR (x y : Int) (n m : Int) (w : World) : (Op.equalIn 9999 74 (.agg #[.int .i64 x, .int .i64 n]) (.agg #[.int .i64 y, .int .i64 m])).run Tryz.prog w = .ok (decide (x = y ∧ n = m)) w := by
  have e : ∀ x y : Int, (Op.equalIn 9998 3 (.int .i64 x) (.int .i64 y)).run Tryz.prog w = .ok (x == y) w := fun x y => run_equalIn_int w 9997 3 .i64 .i64 x y Tryz.underlying3
  rw [run_equalIn_struct w 9998 _ _ _ (by kernel_rfl) (by kernel_rfl)]
  simp only [Program.fieldsOf, Tryz.underlying74]
  by_cases h : x = y
  · subst h
    by_cases hn : n = m <;> simp [Op.eqFields, part, isAgg, run_underlying Tryz.underlying3, e, hn]
  · simp [Op.eqFields, part, isAgg, run_underlying Tryz.underlying3, e, h]
/-- Three terms are the same. -/
def Hd.sameT (a b : Hd) : Bool := decide ((a.x0 = b.x0 ∧ a.n0 = b.n0) ∧ (a.x1 = b.x1 ∧ a.n1 = b.n1) ∧ (a.x2 = b.x2 ∧ a.n2 = b.n2))
theorem eqL (a b : Hd) (w : World) : (Op.equalIn 10000 70 (valL a.x0 a.x1 a.x2 a.n0 a.n1 a.n2) (valL b.x0 b.x1 b.x2 b.n0 b.n1 b.n2)).run Tryz.prog w = .ok (a.sameT b) w := by
  obtain ⟨i, hi⟩ := Option.isSome_iff_exists.1 infoTm
  obtain ⟨p0, p1, p2⟩ := partL a.x0 a.x1 a.x2 a.n0 a.n1 a.n2
  obtain ⟨q0, q1, q2⟩ := partL b.x0 b.x1 b.x2 b.n0 b.n1 b.n2
  rw [run_equalIn_array w 9999 _ _ Tryz.underlying70 hi, cellsTm2]
  show (Op.eqItems 9999 69 2 _ _ [0, 1, 2]).run Tryz.prog w = _
  generalize (#[.bool a.x0, .int .i64 a.n0, .bool a.x1, .int .i64 a.n1, .bool a.x2, .int .i64 a.n2] : Array Value) = A at p0 p1 p2 ⊢
  generalize (#[.bool b.x0, .int .i64 b.n0, .bool b.x1, .int .i64 b.n1, .bool b.x2, .int .i64 b.n2] : Array Value) = B at q0 q1 q2 ⊢
  unfold Hd.sameT
  by_cases h0 : a.x0 = b.x0 ∧ a.n0 = b.n0 <;> by_cases h1 : a.x1 = b.x1 ∧ a.n1 = b.n1 <;> by_cases h2 : a.x2 = b.x2 <;> by_cases h3 : a.n2 = b.n2 <;> simp [Op.eqItems, p0, p1, p2, q0, q1, q2, eqTm, h2, h3, h0, h1]
theorem isV_inj {x y : Bool} : isV x = isV y ↔ x = y := by cases x <;> cases y <;> decide
theorem eqR (a b : Hd) (w : World) : (Op.equalIn 10000 75 (valR (isV a.x0) (isV a.x1) (isV a.x2) a.n0 a.n1 a.n2) (valR (isV b.x0) (isV b.x1) (isV b.x2) b.n0 b.n1 b.n2)).run Tryz.prog w = .ok (a.sameT b) w := by
  obtain ⟨i, hi⟩ := Option.isSome_iff_exists.1 infoTmR
  obtain ⟨p0, p1, p2⟩ := partR (isV a.x0) (isV a.x1) (isV a.x2) a.n0 a.n1 a.n2
  obtain ⟨q0, q1, q2⟩ := partR (isV b.x0) (isV b.x1) (isV b.x2) b.n0 b.n1 b.n2
  rw [run_equalIn_array w 9999 _ _ Tryz.underlying75 hi, cellsTmR2]
  show (Op.eqItems 9999 74 2 _ _ [0, 1, 2]).run Tryz.prog w = _
  generalize (#[.int .i64 (isV a.x0), .int .i64 a.n0, .int .i64 (isV a.x1), .int .i64 a.n1, .int .i64 (isV a.x2), .int .i64 a.n2] : Array Value) = A at p0 p1 p2 ⊢
  generalize (#[.int .i64 (isV b.x0), .int .i64 b.n0, .int .i64 (isV b.x1), .int .i64 b.n1, .int .i64 (isV b.x2), .int .i64 b.n2] : Array Value) = B at q0 q1 q2 ⊢
  unfold Hd.sameT
  by_cases h0 : a.x0 = b.x0 ∧ a.n0 = b.n0 <;> by_cases h1 : a.x1 = b.x1 ∧ a.n1 = b.n1 <;> by_cases h2 : a.x2 = b.x2 <;> by_cases h3 : a.n2 = b.n2 <;> simp [Op.eqItems, p0, p1, p2, q0, q1, q2, eqTmR, h2, h3, isV_inj, h0, h1]
end
section
open Go.RowKit
set_option maxRecDepth 100000

def Hd.fine (h : Hd) : Bool := Go.Proofs.YtljefbfjehblpaaGreat.fine h.x0 h.x1 h.x2 h.n0 h.n1 h.n2
def zeroH : Hd := ⟨0, false, false, false, 0, 0, 0⟩
mutual
/-- What is wrong with a condition at a depth. -/
def Sh.chk : Sh → Int → Int
  | .mk h subs, d => if 3 < d then 5 else if h.k = 3 then (if h.sameT zeroH = false then 4 else if subs.length = 0 then 2 else chkL subs (d + 1)) else if h.k = 1 ∨ h.k = 2 then (if h.fine = false then 4 else if 0 < subs.length then 4 else 0) else 3
def chkL : List Sh → Int → Int
  | [], _ => 0
  | s :: r, d => if s.chk d ≠ 0 then s.chk d else chkL r d
end
theorem chkL_drop {l : List Sh} {j : Nat} {x : Sh} (h : l[j]? = some x) (d : Int) : chkL (l.drop j) d = if x.chk d ≠ 0 then x.chk d else chkL (l.drop (j + 1)) d := by
  obtain ⟨hl, e⟩ := List.getElem?_eq_some_iff.1 h
  rw [List.drop_eq_getElem_cons hl, e]
  rfl

def termsT (h : Hd) (len : Nat) : Int := if h.fine = false then 4 else if 0 < len then 4 else 0
def nccT (h : Hd) (subs : List Sh) (d : Int) : Int := if h.sameT zeroH = false then 4 else if subs.length = 0 then 2 else chkL subs (d + 1)
theorem builtZ : Tryz.prog.built 70 [] = some #[.bool false, .int .i64 0, .bool false, .int .i64 0, .bool false, .int .i64 0] := by kernel_rfl
end
section
open Go.RowKit
set_option maxRecDepth 100000

theorem chk_mk (h : Hd) (subs : List Sh) (d : Int) : (Sh.mk h subs).chk d = if 3 < d then 5 else if h.k = 3 then nccT h subs d else if h.k = 1 ∨ h.k = 2 then termsT h subs.length else 3 := by
  simp only [Sh.chk, nccT, termsT]
end
section
open Go.RowKit
set_option maxRecDepth 100000

abbrev arrA (h : Hd) (v : Value) : Array Value := #[.int .i64 h.k, .bool h.x0, .int .i64 h.n0, .bool h.x1, .int .i64 h.n1, .bool h.x2, .int .i64 h.n2, v]
theorem wpList_store_A {ops : Array Oper} {rest : List Oper} {o : Oper} {a : Act} {w : World} {Q : Exit → Act → World → Prop} (hgd : o.guard = none) (x y : Operand) (ho : o.op = .store 72 x y)
    (g : Nat) (h : Hd) (s : Option Addr) (n c : Nat) (hx : a.eval x = .pointer (some ⟨g, 0, none⟩)) (hy : a.eval y = vA h (.slice s n c)) (h0 : Hd) (v0 : Value) (hg : Blk w g 72 (arrA h0 v0))
    (hn : ∀ W, Kept (fun k => k = g) w W → Blk W g 72 (arrA h (.slice s n c)) → wpList Tryz.prog ops Q rest (a.put o.dst undef) W) : wpList Tryz.prog ops Q (o :: rest) a w :=
  wpList_store_rowW hgd _ x y ho g _ hx hy _ _ hg infoA8 rfl (by simp [Value.oneCell']) hn
end
end Go.Proofs.YtljefbfjehblpaaGreat
