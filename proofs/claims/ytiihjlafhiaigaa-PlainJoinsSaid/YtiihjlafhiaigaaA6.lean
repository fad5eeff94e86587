/- Layer comp: plain mathematics of the steps of conditions: what they are, that they are right, that what stands behind changes nothing. – Layer comp: key.Of: the key of terms. – Layer comp: slices.Index of three terms by themselves. – Layer comp: the program's closures that tell where a variable is bound. – Layer comp: the program's tests of terms. – Layer comp: slices.Clone of conditions, however many. – Layer comp: the program's stepBehind, given stepsBehind of its Subs. – Layer comp: the program's stepBehind of a Pos and a Neg. – Layer comp: the program's stepsBehind; both, for all conditions. – Layer term: the law's own held: a binding whose symbols are 0 to 4096, nothing at the place 0. – Plain mathematics of bindings as lists of pairs. No program. – Layer term: the reference's bindings: lists of pairs in memory; the law's Pairs, the reference's Get. – Layer term: the law's Pairs, the reference's Get. – Layer term: contracts of Right, of the program and of the reference, of Sym and Var, of stands. – Arms for a whole binding in memory (33 cells, whatever they hold): made, loaded, stored, in a plain region and in a quiet one. – Layer term: the contract of Fit. -/
import Derived.Test.YtiihjlafhiaigaaA3
import Derived.Test.YtiihjlafhiaigaaA4
import Derived.Test.YtiihjlafhiaigaaA5
import Derived.Test.YtiihjlafhiaigaaA2
import Derived.Lib.SliceRun
import Derived.Test.YtiihjlafhiaigaaA1
import Derived.OwnWalk
import Derived.WalkSpells
import Derived.WalkLawsBesides
import Derived.ProofKit
import Derived.Outline
import Derived.Deep.QuietTactic
import Derived.Laws.Tables
import Derived.Laws.Rows
namespace Go.Proofs.Ytiihjlafhiaigaa
section
section
open Go.RowKit
set_option maxRecDepth 100000

/-- The test of each field, behind a chain. -/
def tst0 (ch : List Sh) (h : Hd) : List Tst := if h.x0 = true then (match fpL ch h.n0 0 with | some (b, g) => [(0, (b : Int), g)] | none => []) else []
def tst1 (ch : List Sh) (h : Hd) : List Tst := if h.x1 = true then (match fpL ch h.n1 0 with | some (b, g) => [(1, (b : Int), g)] | none => if h.x0 = true ∧ h.n1 = h.n0 then [(1, -1, 0)] else []) else []
def tst2 (ch : List Sh) (h : Hd) : List Tst := if h.x2 = true then (match fpL ch h.n2 0 with | some (b, g) => [(2, (b : Int), g)] | none => if h.x0 = true ∧ h.n2 = h.n0 then [(2, -1, 0)] else if h.x1 = true ∧ h.n2 = h.n1 then [(2, -1, 1)] else []) else []
def tstL (ch : List Sh) (h : Hd) : List Tst := tst0 ch h ++ tst1 ch h ++ tst2 ch h
/-- The key's field of a term. -/
def kF (v : Bool) (n : Int) : Int := if v then 0 else n
mutual
/-- The step of a condition, behind a chain; of conditions, each behind those ahead of it. -/
def Sh.st : Sh → List Sh → St
  | .mk h l, ch => if h.k = 3 then .mk ⟨h.k, 0, 0, 0, []⟩ (stL l ch) else .mk ⟨h.k, kF h.x0 h.n0, kF h.x1 h.n1, kF h.x2 h.n2, tstL ch h⟩ []
def stL : List Sh → List Sh → List St
  | [], _ => []
  | c :: r, ch => c.st ch :: stL r (ch ++ [c])
end
theorem st_mk (h : Hd) (l ch : List Sh) : (Sh.mk h l).st ch = if h.k = 3 then .mk ⟨h.k, 0, 0, 0, []⟩ (stL l ch) else .mk ⟨h.k, kF h.x0 h.n0, kF h.x1 h.n1, kF h.x2 h.n2, tstL ch h⟩ [] := by rw [Sh.st]
theorem stL_nil (ch : List Sh) : stL [] ch = [] := by rw [stL]
theorem stL_cons (c : Sh) (r ch : List Sh) : stL (c :: r) ch = c.st ch :: stL r (ch ++ [c]) := by rw [stL]
theorem stL_length : ∀ l ch : List Sh, (stL l ch).length = l.length
  | [], ch => by rw [stL_nil]; rfl
  | c :: r, ch => by rw [stL_cons, List.length_cons, List.length_cons, stL_length r]
theorem stL_get : ∀ (l ch : List Sh) (i : Nat) (c : Sh), l[i]? = some c → (stL l ch)[i]? = some (c.st (ch ++ l.take i))
  | [], ch, i, c, h => by simp at h
  | x :: r, ch, 0, c, h => by
    simp only [List.getElem?_cons_zero, Option.some.injEq] at h
    subst h
    rw [stL_cons, List.take_zero, List.append_nil]
    rfl
  | x :: r, ch, i + 1, c, h => by
    rw [stL_cons, List.getElem?_cons_succ, List.take_succ_cons, stL_get r (ch ++ [x]) i c (by simpa using h)]
    simp
theorem stL_take : ∀ (l ch : List Sh) (n : Nat), stL (l.take n) ch = (stL l ch).take n
  | [], ch, n => by simp [stL_nil]
  | x :: r, ch, 0 => by simp [stL_nil]
  | x :: r, ch, n + 1 => by rw [List.take_succ_cons, stL_cons, stL_cons, List.take_succ_cons, stL_take r]
theorem stL_take_succ {l ch : List Sh} {j : Nat} {c : Sh} (h : l[j]? = some c) : stL (l.take (j + 1)) ch = stL (l.take j) ch ++ [c.st (ch ++ l.take j)] := by
  rw [stL_take, stL_take, List.take_add_one, stL_get l ch j c h]
  rfl
theorem st_kind (c : Sh) (ch : List Sh) : (c.st ch).hd.k = c.hd.k := by
  cases c with
  | mk h l => rw [st_mk]; split <;> rfl

/-! ### How many -/
theorem st_cnt : (∀ (s : Sh) (ch : List Sh), (s.st ch).cnt ≤ s.count) ∧ ∀ (l ch : List Sh), cntL (stL l ch) ≤ countL l := by
  refine Sh.ind2 (fun hd subs ih ch => ?_) (fun ch => by simp [stL_nil, cntL, countL]) (fun a l ha hl ch => ?_)
  · rw [st_mk, Sh.count]
    split
    · rw [St.cnt]; have := ih ch; omega
    · rw [St.cnt]; simp [cntL]
  · rw [stL_cons, cntL, countL]
    have := ha ch
    have := hl (ch ++ [a])
    omega
theorem tst_len (ch : List Sh) (h : Hd) : (tst0 ch h).length ≤ 1 ∧ (tst1 ch h).length ≤ 1 ∧ (tst2 ch h).length ≤ 1 := by
  refine ⟨?_, ?_, ?_⟩
  · unfold tst0; repeat' split
    all_goals simp
  · unfold tst1; repeat' split
    all_goals simp
  · unfold tst2; repeat' split
    all_goals simp
theorem tstL_len (ch : List Sh) (h : Hd) : (tstL ch h).length ≤ 3 := by
  have := tst_len ch h
  unfold tstL
  rw [List.length_append, List.length_append]; omega
theorem st_mass : (∀ (s : Sh) (ch : List Sh), (s.st ch).mass ≤ 4 * s.count) ∧ ∀ (l ch : List Sh), massL (stL l ch) ≤ 4 * countL l := by
  refine Sh.ind2 (fun hd subs ih ch => ?_) (fun ch => by simp [stL_nil, massL, countL]) (fun a l ha hl ch => ?_)
  · rw [st_mk, Sh.count]
    split
    · rw [St.mass]; have := ih ch; simp; omega
    · rw [St.mass]; have := tstL_len ch hd; simp [massL]; omega
  · rw [stL_cons, massL, countL]
    have := ha ch
    have := hl (ch ++ [a])
    omega

/-! ### What is compiled is right -/
theorem fpL_range : ∀ (l : List Sh) (v : Int) (back b : Nat) (f : Int), fpL l v back = some (b, f) → back ≤ b ∧ b < back + l.length ∧ 0 ≤ f ∧ f ≤ 2
  | [], v, back, b, f, h => by simp [fpL] at h
  | s :: r, v, back, b, f, h => by
    simp only [fpL] at h
    rw [List.length_cons]
    split at h
    · split at h
      · rename_i h2
        cases h
        exact ⟨Nat.le_refl _, by omega, h2, (hitF_le s.hd v).1⟩
      · have := fpL_range r v (back + 1) b f h; omega
    · have := fpL_range r v back b f h; omega
theorem tOK_of {a b c : Int} (h : (0 ≤ a ∧ a ≤ 2) ∧ (-1 ≤ b ∧ b ≤ 15) ∧ (0 ≤ c ∧ c ≤ 2) ∧ (b = -1 → c < a)) : tOK (a, b, c) = true := by unfold tOK; exact decide_eq_true h
theorem tst0_cases (ch : List Sh) (h : Hd) (hc : ch.length ≤ 15) : tst0 ch h = [] ∨ ∃ b c, tst0 ch h = [(0, b, c)] ∧ tOK (0, b, c) = true := by
  unfold tst0
  split
  · cases hf : fpL ch h.n0 0 with
    | none => exact .inl rfl
    | some q =>
      obtain ⟨b, g⟩ := q
      have := fpL_range ch h.n0 0 b g hf
      exact .inr ⟨b, g, rfl, tOK_of (by omega)⟩
  · exact .inl rfl
theorem tst1_cases (ch : List Sh) (h : Hd) (hc : ch.length ≤ 15) : tst1 ch h = [] ∨ ∃ b c, tst1 ch h = [(1, b, c)] ∧ tOK (1, b, c) = true := by
  unfold tst1
  split
  · cases hf : fpL ch h.n1 0 with
    | none =>
      show (if _ then _ else _) = [] ∨ _
      split
      · exact .inr ⟨-1, 0, rfl, tOK_of (by omega)⟩
      · exact .inl rfl
    | some q =>
      obtain ⟨b, g⟩ := q
      have := fpL_range ch h.n1 0 b g hf
      exact .inr ⟨b, g, rfl, tOK_of (by omega)⟩
  · exact .inl rfl
theorem tst2_cases (ch : List Sh) (h : Hd) (hc : ch.length ≤ 15) : tst2 ch h = [] ∨ ∃ b c, tst2 ch h = [(2, b, c)] ∧ tOK (2, b, c) = true := by
  unfold tst2
  split
  · cases hf : fpL ch h.n2 0 with
    | none =>
      show (if _ then _ else _) = [] ∨ _
      split
      · exact .inr ⟨-1, 0, rfl, tOK_of (by omega)⟩
      · split
        · exact .inr ⟨-1, 1, rfl, tOK_of (by omega)⟩
        · exact .inl rfl
    | some q =>
      obtain ⟨b, g⟩ := q
      have := fpL_range ch h.n2 0 b g hf
      exact .inr ⟨b, g, rfl, tOK_of (by omega)⟩
  · exact .inl rfl
theorem tstL_ok (ch : List Sh) (h : Hd) (hc : ch.length ≤ 15) : tsOK (-1) (tstL ch h) = true := by
  unfold tstL
  rcases tst0_cases ch h hc with e0 | ⟨a0, b0, e0, o0⟩ <;> rcases tst1_cases ch h hc with e1 | ⟨a1, b1, e1, o1⟩ <;> rcases tst2_cases ch h hc with e2 | ⟨a2, b2, e2, o2⟩ <;> rw [e0, e1, e2] <;> simp [tsOK, *]
theorem kF_ok {v : Bool} {n : Int} (h : okTm v n = true) : okK (kF v n) = true := by
  unfold kF okK
  cases v
  · have := okTm_sym.1 h; exact decide_eq_true (by simp; omega)
  · exact decide_eq_true (by simp)
theorem chk_fine {hd : Hd} {subs : List Sh} {d : Int} (h : (Sh.mk hd subs).chk d = 0) (hk : hd.k ≠ 3) : (hd.k = 1 ∨ hd.k = 2) ∧ hd.fine = true ∧ subs = [] ∧ d ≤ 3 := by
  simp only [Sh.chk] at h
  by_cases h3 : 3 < d
  · rw [if_pos h3] at h; omega
  · rw [if_neg h3, if_neg hk] at h
    by_cases hk2 : hd.k = 1 ∨ hd.k = 2
    · rw [if_pos hk2] at h
      by_cases hf : hd.fine = false
      · rw [if_pos hf] at h; omega
      · rw [if_neg hf] at h
        by_cases hl : 0 < subs.length
        · rw [if_pos hl] at h; omega
        · exact ⟨hk2, by simpa using hf, List.length_eq_zero_iff.1 (by omega), by omega⟩
    · rw [if_neg hk2] at h; omega
theorem chk_depth {hd : Hd} {subs : List Sh} {d : Int} (h : (Sh.mk hd subs).chk d = 0) : d ≤ 3 := by
  simp only [Sh.chk] at h
  by_cases h3 : 3 < d
  · rw [if_pos h3] at h; omega
  · omega
theorem fine_all {hd : Hd} (h : hd.fine = true) : okTm hd.x0 hd.n0 = true ∧ okTm hd.x1 hd.n1 = true ∧ okTm hd.x2 hd.n2 = true := by
  unfold Hd.fine fine at h
  simp only [Bool.and_eq_true] at h
  exact ⟨h.1.1, h.1.2, h.2⟩
theorem st_pAt : (∀ (s : Sh) (d : Int) (ch : List Sh), s.chk d = 0 → ch.length + s.count ≤ 16 → (s.st ch).pAt d = true) ∧ ∀ (l : List Sh) (d : Int) (ch : List Sh), chkL l d = 0 → ch.length + countL l ≤ 16 → pLAt (stL l ch) d = true := by
  refine Sh.ind2 (fun hd subs ih d ch h hc => ?_) (fun d ch _ _ => by rw [stL_nil]; rfl) (fun a l ha hl d ch h hc => ?_)
  · rw [Sh.count] at hc
    have hd3 := chk_depth h
    rw [st_mk]
    by_cases hk : hd.k = 3
    · rw [if_pos hk]
      rcases chk_zero h with ⟨_, hne, hs⟩ | ⟨hk2, _⟩
      · have hlen := length_countL subs
        have hne' : subs ≠ [] := hne
        have hl0 : 0 < subs.length := List.length_pos_iff.2 hne'
        simp only [St.pAt]
        rw [if_neg (by omega), if_pos hk, ih (d + 1) ch hs (by omega), stL_length, decide_eq_true (by omega : subs.length ≠ 0 ∧ subs.length < 16)]
        rfl
      · have : hd.k = 1 ∨ hd.k = 2 := hk2
        omega
    · rw [if_neg hk]
      obtain ⟨hk2, hf, rfl, _⟩ := chk_fine h hk
      obtain ⟨f0, f1, f2⟩ := fine_all hf
      simp only [St.pAt]
      rw [if_neg (by omega), if_neg hk, if_pos hk2, tstL_ok ch hd (by omega)]
      unfold okK3
      rw [kF_ok f0, kF_ok f1, kF_ok f2]
      rfl
  · obtain ⟨h1, h2⟩ := (chkL_cons _ _ _).1 h
    rw [countL] at hc
    rw [stL_cons]
    simp only [pLAt]
    have := count_pos a
    rw [ha d ch h1 (by omega), hl d (ch ++ [a]) h2 (by rw [List.length_append]; simp; omega)]
    rfl
theorem st_right {s : Sh} {ch : List Sh} (h : s.chk 1 = 0) (hc : ch.length + s.count ≤ 16) : (s.st ch).right = true := by
  unfold St.right
  rw [st_pAt.1 s 1 ch h hc, decide_eq_true (by have := st_cnt.1 s ch; omega : (s.st ch).cnt ≤ 16)]
  rfl
theorem stL_right {l ch : List Sh} (h : chkL l 1 = 0) (hc : ch.length + countL l ≤ 16) : ∀ x ∈ stL l ch, x.right = true := by
  intro x hx
  obtain ⟨i, hi⟩ := List.getElem?_of_mem hx
  have hil : i < l.length := by have := (List.getElem?_eq_some_iff.1 hi).1; rwa [stL_length] at this
  have hg : l[i]? = some l[i] := List.getElem?_eq_getElem hil
  rw [stL_get l ch i _ hg] at hi
  cases hi
  have h1 := countL_take_succ hg
  have h2 := countL_take_le l (i + 1)
  have h3 := length_countL (l.take i)
  refine st_right (chkL_all.1 h _ (List.getElem_mem _)) ?_
  rw [List.length_append]
  omega
end
section
open Go.RowKit
set_option maxRecDepth 100000

/-- Three blocks of a call: what came in, the result's, the variable's. -/
structure Acc3 (tb t : TypeId) (w : World) (lc zc oc : Array Value) (W : World) : Prop where
  kept : Kept Nil w W
  b0 : Blk W w.heap.size tb lc
  b1 : Blk W (w.heap.size + 1) t zc
  b2 : Blk W (w.heap.size + 1 + 1) t oc
theorem Acc3.start (tb t : TypeId) (w : World) (lc zc oc : Array Value) : Acc3 tb t w lc zc oc (((w.alloc (.cells lc tb)).alloc (.cells zc t)).alloc (.cells oc t)) := by
  refine ⟨(((Kept.refl Nil w).alloc _).alloc _).alloc _, ((Blk.new w _ _).alloc _).alloc _, ?_, ?_⟩
  · have := (Blk.new (w.alloc (.cells lc tb)) t zc).alloc (.cells oc t)
    simpa using this
  · have := Blk.new ((w.alloc (.cells lc tb)).alloc (.cells zc t)) t oc
    simpa using this
section
variable {tb t : TypeId} {w W W' : World} {lc zc oc : Array Value}
theorem Acc3.alloc (h : Acc3 tb t w lc zc oc W) (o : Obj) : Acc3 tb t w lc zc oc (W.alloc o) := ⟨h.kept.alloc o, h.b0.alloc o, h.b1.alloc o, h.b2.alloc o⟩
theorem Acc3.step (h : Acc3 tb t w lc zc oc W) (k : Kept Nil W W') : Acc3 tb t w lc zc oc W' := ⟨h.kept.trans k (fun _ _ g => g), h.b0.kept k id, h.b1.kept k id, h.b2.kept k id⟩
theorem Acc3.set_ (h : Acc3 tb t w lc zc oc W) (i : Nat) (v : Value) : Acc3 tb t w lc zc (oc.setIfInBounds i v) (W.setCell ⟨w.heap.size + 1 + 1, i, none⟩ v) :=
  ⟨h.kept.setCell _ (.inr (by show _ ≤ w.heap.size + 1 + 1; omega)) _, h.b0.far (by show _ ≠ w.heap.size + 1 + 1; omega) _, h.b1.far (by show _ ≠ w.heap.size + 1 + 1; omega) _, h.b2.set_ i v⟩
end
abbrev c3 (x y z : Int) : Array Value := #[.int .i64 x, .int .i64 y, .int .i64 z]

theorem Acc3.facts {tb t : TypeId} {w W : World} {lc : Array Value} {x y z : Int} (h : Acc3 tb t w lc (c3 0 0 0) (c3 x y z) W) :
    (W.cell? ⟨w.heap.size + 1, 0, none⟩ = some (.int .i64 0) ∧ W.cell? ⟨w.heap.size + 1, 1, none⟩ = some (.int .i64 0) ∧ W.cell? ⟨w.heap.size + 1, 2, none⟩ = some (.int .i64 0)) ∧
    (W.frozen? ⟨w.heap.size + 1, 0, none⟩ = false ∧ W.frozen? ⟨w.heap.size + 1, 1, none⟩ = false ∧ W.frozen? ⟨w.heap.size + 1, 2, none⟩ = false) ∧
    (W.cell? ⟨w.heap.size + 1 + 1, 0, none⟩ = some (.int .i64 x) ∧ W.cell? ⟨w.heap.size + 1 + 1, 1, none⟩ = some (.int .i64 y) ∧ W.cell? ⟨w.heap.size + 1 + 1, 2, none⟩ = some (.int .i64 z)) ∧
    (W.frozen? ⟨w.heap.size + 1 + 1, 0, none⟩ = false ∧ W.frozen? ⟨w.heap.size + 1 + 1, 1, none⟩ = false ∧ W.frozen? ⟨w.heap.size + 1 + 1, 2, none⟩ = false) :=
  ⟨⟨h.b1.cell 0, h.b1.cell 1, h.b1.cell 2⟩, ⟨h.b1.frozen 0, h.b1.frozen 1, h.b1.frozen 2⟩, ⟨h.b2.cell 0, h.b2.cell 1, h.b2.cell 2⟩, ⟨h.b2.frozen 0, h.b2.frozen 1, h.b2.frozen 2⟩⟩
theorem Acc3.done {tb t : TypeId} {w W : World} {lc zc oc : Array Value} (h : Acc3 tb t w lc zc oc W) (u v x : Value) : Kept Nil w (((W.setCell ⟨w.heap.size + 1, 0, none⟩ u).setCell ⟨w.heap.size + 1, 1, none⟩ v).setCell ⟨w.heap.size + 1, 2, none⟩ x) :=
  ((h.kept.setCell _ (.inr (Nat.le_succ _)) _).setCell _ (.inr (Nat.le_succ _)) _).setCell _ (.inr (Nat.le_succ _)) _
end
section
open Go.RowKit
set_option maxRecDepth 100000

end
section
open Go.RowKit
set_option maxRecDepth 100000

theorem bdL_mem {l : List Sh} : ∀ {m : Nat} {p : Pl}, p ∈ bdL l m ↔ ∃ i, i < m ∧ ∃ b f, fpL l ((i : Int) + 1) 0 = some (b, f) ∧ p = ((i : Int) + 1, b, f)
  | 0, p => by simp [bdL]
  | m + 1, p => by
    rw [bdL, List.mem_append, bdL_mem]
    constructor
    · rintro (⟨i, hi, r⟩ | h)
      · exact ⟨i, by omega, r⟩
      · cases hf : fpL l ((m : Int) + 1) 0 with
        | none => rw [hf] at h; cases h
        | some q =>
          obtain ⟨b, f⟩ := q
          rw [hf] at h
          exact ⟨m, by omega, b, f, hf, by simpa using h⟩
    · rintro ⟨i, hi, b, f, hf, rfl⟩
      rcases Nat.lt_or_eq_of_le (Nat.le_of_lt_succ hi) with h | rfl
      · exact .inl ⟨i, h, b, f, hf, rfl⟩
      · right; rw [hf]; simp
theorem bdL_none {l : List Sh} {v : Int} (h1 : 1 ≤ v) (h2 : v ≤ 32) (h : ∀ p ∈ bdL l 32, p.1 ≠ v) : fpL l v 0 = none := by
  cases hf : fpL l v 0 with
  | none => rfl
  | some q =>
    obtain ⟨b, f⟩ := q
    obtain ⟨i, hi⟩ : ∃ i : Nat, (i : Int) + 1 = v := ⟨(v - 1).toNat, by omega⟩
    exact absurd hi (h ((i : Int) + 1, b, f) (bdL_mem.2 ⟨i, by omega, b, f, by rw [hi]; exact hf, rfl⟩))
theorem bdL_some {l : List Sh} {p : Pl} (h : p ∈ bdL l 32) : fpL l p.1 0 = some p.2 := by
  obtain ⟨i, _, b, f, hf, rfl⟩ := bdL_mem.1 h
  exact hf
theorem Places.kept {w w' : World} {v : Value} {ps : List Pl} (h : Places w v ps) (k : Kept Nil w w') : Places w' v ps := by
  obtain ⟨a, c, e, h⟩ := h
  exact ⟨a, c, e, fun i p hi => by obtain ⟨g, e2, hr⟩ := h i p hi; exact ⟨g, e2, rangeAt_kept k id hr⟩⟩
/-- Where the first place of a variable is; -1 if there is none. -/
def PlIxEnd (ps : List Pl) (v : Int) (w : World) (e : Ending) (w' : World) : Prop := ∃ r : Int, e = .returned (.int .i64 r) ∧ Kept Nil w w' ∧ ((r = -1 ∧ ∀ p ∈ ps, p.1 ≠ v) ∨ ∃ (j : Nat) (p : Pl), r = (j : Int) ∧ j < ps.length ∧ ps[j]? = some p ∧ p.1 = v)
end
section
open Go.RowKit
set_option maxRecDepth 100000

/-- A field's term; its tests; the tests of the fields ahead. -/
def tmX (h : Hd) : Nat → Bool
  | 0 => h.x0
  | 1 => h.x1
  | _ => h.x2
def tmN (h : Hd) : Nat → Int
  | 0 => h.n0
  | 1 => h.n1
  | _ => h.n2
def tstAt (ch : List Sh) (h : Hd) : Nat → List Tst
  | 0 => tst0 ch h
  | 1 => tst1 ch h
  | _ => tst2 ch h
def tsU (ch : List Sh) (h : Hd) : Nat → List Tst
  | 0 => []
  | j + 1 => tsU ch h j ++ tstAt ch h j
theorem tsU_three (ch : List Sh) (h : Hd) : tsU ch h 3 = tstL ch h := by
  show (([] ++ tst0 ch h) ++ tst1 ch h) ++ tst2 ch h = _
  rw [List.nil_append]
  rfl
theorem tsU_len (ch : List Sh) (h : Hd) : ∀ j, (tsU ch h j).length ≤ j
  | 0 => by simp [tsU]
  | j + 1 => by
    have h1 := tsU_len ch h j
    have h2 := tst_len ch h
    have h3 : (tstAt ch h j).length ≤ 1 := by
      unfold tstAt
      split
      · exact h2.1
      · exact h2.2.1
      · exact h2.2.2
    rw [tsU, List.length_append]
    omega
theorem tstAt_no {ch : List Sh} {h : Hd} {j : Nat} (hj : j < 3) (hx : tmX h j = false) : tstAt ch h j = [] := by
  have : j = 0 ∨ j = 1 ∨ j = 2 := by omega
  rcases this with rfl | rfl | rfl
  · have e : h.x0 = false := hx
    show tst0 ch h = []
    unfold tst0; rw [if_neg (by rw [e]; simp)]
  · have e : h.x1 = false := hx
    show tst1 ch h = []
    unfold tst1; rw [if_neg (by rw [e]; simp)]
  · have e : h.x2 = false := hx
    show tst2 ch h = []
    unfold tst2; rw [if_neg (by rw [e]; simp)]
/-- Where the same term stands first. -/
theorem tstAt_yes {ch : List Sh} {h : Hd} {j : Nat} (hj : j < 3) (hx : tmX h j = true) : ∃ r : Nat, r ≤ j ∧ first3 (decide (true = h.x0 ∧ tmN h j = h.n0)) (decide (true = h.x1 ∧ tmN h j = h.n1)) (decide (true = h.x2 ∧ tmN h j = h.n2)) = (r : Int) ∧
    tstAt ch h j = match fpL ch (tmN h j) 0 with | some (b, g) => [((j : Int), (b : Int), g)] | none => if r < j then [((j : Int), -1, (r : Int))] else [] := by
  have : j = 0 ∨ j = 1 ∨ j = 2 := by omega
  rcases this with rfl | rfl | rfl
  · have e : h.x0 = true := hx
    refine ⟨0, Nat.le_refl _, ?_, ?_⟩
    · show first3 (decide (true = h.x0 ∧ h.n0 = h.n0)) _ _ = _
      rw [e]; simp [first3]
    · show tst0 ch h = match fpL ch h.n0 0 with | some (b, g) => [(((0 : Nat) : Int), (b : Int), g)] | none => if 0 < 0 then _ else []
      unfold tst0
      rw [if_pos e]
      cases fpL ch h.n0 0 <;> rfl
  · have e : h.x1 = true := hx
    by_cases hc : h.x0 = true ∧ h.n1 = h.n0
    · refine ⟨0, by omega, ?_, ?_⟩
      · show first3 (decide (true = h.x0 ∧ h.n1 = h.n0)) _ _ = _
        rw [decide_eq_true (show true = h.x0 ∧ h.n1 = h.n0 from ⟨hc.1.symm, hc.2⟩)]; rfl
      · show tst1 ch h = match fpL ch h.n1 0 with | some (b, g) => [(((1 : Nat) : Int), (b : Int), g)] | none => if 0 < 1 then [(((1 : Nat) : Int), -1, ((0 : Nat) : Int))] else []
        unfold tst1
        rw [if_pos e, if_pos hc, if_pos (by decide)]
        cases fpL ch h.n1 0 <;> rfl
    · refine ⟨1, by omega, ?_, ?_⟩
      · show first3 (decide (true = h.x0 ∧ h.n1 = h.n0)) (decide (true = h.x1 ∧ h.n1 = h.n1)) _ = _
        rw [decide_eq_false (show ¬ (true = h.x0 ∧ h.n1 = h.n0) from fun hh => hc ⟨hh.1.symm, hh.2⟩), e]; simp [first3]
      · show tst1 ch h = match fpL ch h.n1 0 with | some (b, g) => [(((1 : Nat) : Int), (b : Int), g)] | none => if 1 < 1 then [(((1 : Nat) : Int), -1, ((1 : Nat) : Int))] else []
        unfold tst1
        rw [if_pos e, if_neg hc, if_neg (by decide)]
        cases fpL ch h.n1 0 <;> rfl
  · have e : h.x2 = true := hx
    by_cases hc : h.x0 = true ∧ h.n2 = h.n0
    · refine ⟨0, by omega, ?_, ?_⟩
      · show first3 (decide (true = h.x0 ∧ h.n2 = h.n0)) _ _ = _
        rw [decide_eq_true (show true = h.x0 ∧ h.n2 = h.n0 from ⟨hc.1.symm, hc.2⟩)]; rfl
      · show tst2 ch h = match fpL ch h.n2 0 with | some (b, g) => [(((2 : Nat) : Int), (b : Int), g)] | none => if 0 < 2 then [(((2 : Nat) : Int), -1, ((0 : Nat) : Int))] else []
        unfold tst2
        rw [if_pos e, if_pos hc, if_pos (by decide)]
        cases fpL ch h.n2 0 <;> rfl
    · by_cases hd : h.x1 = true ∧ h.n2 = h.n1
      · refine ⟨1, by omega, ?_, ?_⟩
        · show first3 (decide (true = h.x0 ∧ h.n2 = h.n0)) (decide (true = h.x1 ∧ h.n2 = h.n1)) _ = _
          rw [decide_eq_false (show ¬ (true = h.x0 ∧ h.n2 = h.n0) from fun hh => hc ⟨hh.1.symm, hh.2⟩), decide_eq_true (show true = h.x1 ∧ h.n2 = h.n1 from ⟨hd.1.symm, hd.2⟩)]; rfl
        · show tst2 ch h = match fpL ch h.n2 0 with | some (b, g) => [(((2 : Nat) : Int), (b : Int), g)] | none => if 1 < 2 then [(((2 : Nat) : Int), -1, ((1 : Nat) : Int))] else []
          unfold tst2
          rw [if_pos e, if_neg hc, if_pos hd, if_pos (by decide)]
          cases fpL ch h.n2 0 <;> rfl
      · refine ⟨2, by omega, ?_, ?_⟩
        · show first3 (decide (true = h.x0 ∧ h.n2 = h.n0)) (decide (true = h.x1 ∧ h.n2 = h.n1)) (decide (true = h.x2 ∧ h.n2 = h.n2)) = _
          rw [decide_eq_false (show ¬ (true = h.x0 ∧ h.n2 = h.n0) from fun hh => hc ⟨hh.1.symm, hh.2⟩), decide_eq_false (show ¬ (true = h.x1 ∧ h.n2 = h.n1) from fun hh => hd ⟨hh.1.symm, hh.2⟩), e]; simp [first3]
        · show tst2 ch h = match fpL ch h.n2 0 with | some (b, g) => [(((2 : Nat) : Int), (b : Int), g)] | none => if 2 < 2 then [(((2 : Nat) : Int), -1, ((2 : Nat) : Int))] else []
          unfold tst2
          rw [if_pos e, if_neg hc, if_neg hd, if_neg (by decide)]
          cases fpL ch h.n2 0 <;> rfl
theorem idxJ (x0 x1 x2 : Bool) (n0 n1 n2 : Int) (k : Int) (j : Nat) (hj : j < 3) (w : World) : (Instr.index 70 (.agg #[.bool x0, .int .i64 n0, .bool x1, .int .i64 n1, .bool x2, .int .i64 n2]) (.int .i64 (j : Int))).run Try.prog w = .ok (.agg #[.bool (tmX ⟨k, x0, x1, x2, n0, n1, n2⟩ j), .int .i64 (tmN ⟨k, x0, x1, x2, n0, n1, n2⟩ j)]) w := by
  obtain ⟨i0, i1, i2⟩ := idxL3 x0 x1 x2 n0 n1 n2
  have : j = 0 ∨ j = 1 ∨ j = 2 := by omega
  rcases this with rfl | rfl | rfl
  · exact i0 w
  · exact i1 w
  · exact i2 w
theorem tm_ok {h : Hd} (hf : h.fine = true) {j : Nat} (hj : j < 3) : okTm (tmX h j) (tmN h j) = true := by
  obtain ⟨f0, f1, f2⟩ := fine_all hf
  have : j = 0 ∨ j = 1 ∨ j = 2 := by omega
  rcases this with rfl | rfl | rfl
  · exact f0
  · exact f1
  · exact f2
abbrev arrL3 (x0 x1 x2 : Bool) (n0 n1 n2 : Int) : Array Value := #[.bool x0, .int .i64 n0, .bool x1, .int .i64 n1, .bool x2, .int .i64 n2]
/-- Tests in new memory. -/
def TsEnd (ts : List Tst) (w : World) (e : Ending) (w' : World) : Prop := ∃ a c, e = .returned (.slice a ts.length c) ∧ TsAt w' (okM w.heap.size w') (.slice a ts.length c) ts ∧ Kept Nil w w'
/-- The class of worlds in which a box is as it was laid. -/
def CB1 (w : World) (G : Nat) (t : TypeId) (cs : Array Value) (D : Nat) (t' : TypeId) (ds : Array Value) (W : World) : Prop := Blk W G t cs ∧ Blk W D t' ds ∧ Kept Nil w W
theorem CB1.step {w : World} {G : Nat} {t : TypeId} {cs : Array Value} {D : Nat} {t' : TypeId} {ds : Array Value} (W W' : World) (h : CB1 w G t cs D t' ds W) (k : Kept Nil W W') : CB1 w G t cs D t' ds W' := ⟨h.1.kept k id, h.2.1.kept k id, h.2.2.trans k (fun _ _ g => g)⟩
end
section
open Go.RowKit
set_option maxRecDepth 100000

end
section
open Go.RowKit
set_option maxRecDepth 100000

/-- The result is stored. -/
theorem st_done {w wl : World} (hd : SH) (sb : List St) {ta sa : Option Addr} {tn tc sn sc : Nat} (htn : hd.ts.length = tn) (hsn : sb.length = sn) (K : Kept Nil w wl) (hB : Blk wl (w.heap.size + 1) 59 zS) (hT : TsAt wl (okM (w.heap.size + 1 + 1) wl) (.slice ta tn tc) hd.ts) (hS : SHolds wl (okM (w.heap.size + 1 + 1) wl) (.slice sa sn sc) sb) :
    StEnd hd sb w (.returned (vS hd (.slice ta tn tc) (.slice sa sn sc))) ((((((wl.setCell ⟨w.heap.size + 1, 0, none⟩ (.int .i64 hd.k)).setCell ⟨w.heap.size + 1, 1, none⟩ (.int .i64 hd.k0)).setCell ⟨w.heap.size + 1, 2, none⟩ (.int .i64 hd.k1)).setCell ⟨w.heap.size + 1, 3, none⟩ (.int .i64 hd.k2)).setCell ⟨w.heap.size + 1, 4, none⟩ (.slice ta tn tc)).setCell ⟨w.heap.size + 1, 5, none⟩ (.slice sa sn sc)) ∧
    Blk ((((((wl.setCell ⟨w.heap.size + 1, 0, none⟩ (.int .i64 hd.k)).setCell ⟨w.heap.size + 1, 1, none⟩ (.int .i64 hd.k0)).setCell ⟨w.heap.size + 1, 2, none⟩ (.int .i64 hd.k1)).setCell ⟨w.heap.size + 1, 3, none⟩ (.int .i64 hd.k2)).setCell ⟨w.heap.size + 1, 4, none⟩ (.slice ta tn tc)).setCell ⟨w.heap.size + 1, 5, none⟩ (.slice sa sn sc)) (w.heap.size + 1) 59 (arrS hd (.slice ta tn tc) (.slice sa sn sc)) := by
  subst htn hsn
  have kS := (Kept.refl (fun k => k = w.heap.size + 1) wl).set6 (X := w.heap.size + 1) (.inl rfl) (.int .i64 hd.k) (.int .i64 hd.k0) (.int .i64 hd.k1) (.int .i64 hd.k2) (.slice ta hd.ts.length tc) (.slice sa sb.length sc)
  refine ⟨⟨ta, tc, sa, sc, rfl, ?_, ?_, K.set6 (.inr (Nat.le_succ _)) _ _ _ _ _ _⟩, blk_set6 hB _ _ _ _ _ _⟩
  · exact (hT.kept kS (fun b o hb e => by have := hb.1; omega)).mono fun b o hb => (hb.kept kS (fun e => by have := hb.1; omega)).less (by omega)
  · exact (hS.kept kS (fun b o hb e => by have := hb.1; omega)).mono fun b o hb => (hb.kept kS (fun e => by have := hb.1; omega)).less (by omega)
abbrev SeenN (B : Nat) (k : Int) (v : Value) (w' : World) : Prop := w'.cell? ⟨B, 0, none⟩ = some (.int .i64 k) ∧ w'.cell? ⟨B, 7, none⟩ = some v
theorem seenN_kept {B : Nat} {k : Int} {v : Value} {w w' : World} (kk : Kept Nil w w') (h : SeenN B k v w) : SeenN B k v w' := ⟨kk.cellOf h.1, kk.cellOf h.2⟩
theorem seenN_set6 {B A : Nat} {k : Int} {v v0 v1 v2 v3 v4 v5 : Value} {w : World} (h0 : B ≠ A) (h : SeenN B k v w) : SeenN B k v ((((((w.setCell ⟨A, 0, none⟩ v0).setCell ⟨A, 1, none⟩ v1).setCell ⟨A, 2, none⟩ v2).setCell ⟨A, 3, none⟩ v3).setCell ⟨A, 4, none⟩ v4).setCell ⟨A, 5, none⟩ v5) := by
  have m : ∀ {W : World} {i : Nat} {u : Value}, SeenN B k v W → SeenN B k v (W.setCell ⟨A, i, none⟩ u) := fun {W i u} h =>
    ⟨by rw [World.cell?_setCell_other W _ _ _ (fun e => h0 (congrArg Addr.block e).symm)]; exact h.1, by rw [World.cell?_setCell_other W _ _ _ (fun e => h0 (congrArg Addr.block e).symm)]; exact h.2⟩
  exact m (m (m (m (m (m h)))))
end
section
open Go.RowKit
set_option maxRecDepth 100000

/-- What is read of the box. -/
abbrev SeenG (B : Nat) (k : Int) (x0 x1 x2 : Bool) (n0 n1 n2 : Int) (w' : World) : Prop :=
  w'.cell? ⟨B, 0, none⟩ = some (.int .i64 k) ∧ w'.cell? ⟨B, 1, none⟩ = some (.bool x0) ∧ w'.cell? ⟨B, 2, none⟩ = some (.int .i64 n0) ∧ w'.cell? ⟨B, 3, none⟩ = some (.bool x1) ∧ w'.cell? ⟨B, 4, none⟩ = some (.int .i64 n1) ∧ w'.cell? ⟨B, 5, none⟩ = some (.bool x2) ∧ w'.cell? ⟨B, 6, none⟩ = some (.int .i64 n2)
section
variable {B : Nat} {k : Int} {x0 x1 x2 : Bool} {n0 n1 n2 : Int} {w w' : World}
theorem SeenG.move (k0 : ∀ i v, w.cell? ⟨B, i, none⟩ = some v → w'.cell? ⟨B, i, none⟩ = some v) (h : SeenG B k x0 x1 x2 n0 n1 n2 w) : SeenG B k x0 x1 x2 n0 n1 n2 w' :=
  ⟨k0 _ _ h.1, k0 _ _ h.2.1, k0 _ _ h.2.2.1, k0 _ _ h.2.2.2.1, k0 _ _ h.2.2.2.2.1, k0 _ _ h.2.2.2.2.2.1, k0 _ _ h.2.2.2.2.2.2⟩
theorem seenG_kept (kk : Kept Nil w w') (h : SeenG B k x0 x1 x2 n0 n1 n2 w) : SeenG B k x0 x1 x2 n0 n1 n2 w' := h.move (fun _ _ h => kk.cellOf h)
theorem seenG_set {A i : Nat} {v : Value} (h0 : B ≠ A) (h : SeenG B k x0 x1 x2 n0 n1 n2 w) : SeenG B k x0 x1 x2 n0 n1 n2 (w.setCell ⟨A, i, none⟩ v) :=
  h.move (fun i v h => by rw [World.cell?_setCell_other w _ _ _ (fun e => h0 (congrArg Addr.block e).symm)]; exact h)
theorem seenG_set6 {A : Nat} {v0 v1 v2 v3 v4 v5 : Value} (h0 : B ≠ A) (h : SeenG B k x0 x1 x2 n0 n1 n2 w) : SeenG B k x0 x1 x2 n0 n1 n2 ((((((w.setCell ⟨A, 0, none⟩ v0).setCell ⟨A, 1, none⟩ v1).setCell ⟨A, 2, none⟩ v2).setCell ⟨A, 3, none⟩ v3).setCell ⟨A, 4, none⟩ v4).setCell ⟨A, 5, none⟩ v5) := seenG_set h0 (seenG_set h0 (seenG_set h0 (seenG_set h0 (seenG_set h0 (seenG_set h0 h)))))
end
end
section
open Go.RowKit
set_option maxRecDepth 100000

/-- What hangs on the steps lies in other blocks than theirs, and than the chain's. -/
def okKK (B : Nat) (w : World) (u va : Value) (b o : Nat) : Prop := okM B w b o ∧ u.ownBlock ≠ some b ∧ va.ownBlock ≠ some b
theorem Holds.inb {w : World} {ok : Nat → Nat → Prop} {v : Value} {l : List Sh} (h : Holds cA w ok v l) : Holds cA w (fun b _ => b < w.heap.size) v l := by
  induction h with
  | nil a cap => exact .nil a cap
  | row b o cap subs u hn hok hr _ ih =>
    rcases Nat.eq_zero_or_pos subs.length with h0 | hpos
    · obtain rfl := List.length_eq_zero_iff.1 h0
      exact .nil _ _
    · exact .row b o cap subs u hn (World.block_lt_of_cell? w _ (hr 0 _ (List.getElem?_eq_getElem hpos) 0 _ rfl)) hr ih
theorem ORow.seen {w : World} {B n cap : Nat} {a : Option Addr} {ps : Prs} (h : ORow cA 72 w B (.slice a n cap) ps) : n = ps.length ∧ n ≤ cap ∧ ∀ b o, a = some ⟨b, o, none⟩ → b < w.heap.size := by
  rcases h.2 with ⟨e1, e0⟩ | ⟨g, c, cur, e1, hb, hg, hn, _⟩
  · injection e1 with e1 e2 e3
    subst e1 e2 e3
    exact ⟨e0.symm, Nat.le_refl _, fun b o e => by cases e⟩
  · injection e1 with e1 e2 e3
    subst e1 e2 e3
    exact ⟨rfl, hn, fun b o e => by cases e; exact (Array.getElem?_eq_some_iff.1 hg).1⟩
theorem neqSC : 59 ≠ 72 := by decide
/-- The end of a round: the step is put behind the others, the condition behind the chain. -/
theorem behind_round {B M : Nat} {w2 : World} {u va : Value} {qs : List SQ} {ps : Prs} {okc : Nat → Nat → Prop} {E : Nat} {ecs : Array Value} (hBM : B ≤ M) (hM : M ≤ w2.heap.size) (hu : RowD kS 59 w2 B u qs) (hum : ∀ k, u.ownBlock = some k → k < M) (hk : KidsD kS w2 (okKK B w2 u va) qs) (ha : ORow cA 72 w2 B va ps) (ham : ∀ k, va.ownBlock = some k → k < M)
    (hE : Blk w2 E 72 ecs) (q : SQ) (hq : kS.K w2 (okM M w2) q) (hd : Hd) (sb : List Sh) (vs : Value) (hs : Holds cA w2 okc vs sb) (hok : ∀ b o, okc b o → b < B) (hl : qs.length ≤ 200) (hl2 : ps.length ≤ 200) :
    ∃ a3 n3 c3 w3 a5 n5 c5 w5, (Builtin.append_ #[37, 37] 37 #[u, .slice (some ⟨w2.heap.size, 0, none⟩) 1 1]).run Try.prog (w2.alloc (.cells (arrS q.1.hd q.2.1 q.2.2) 59)) = .ok (.slice a3 n3 c3) w3 ∧ Blk w3 E 72 ecs ∧
      (Builtin.append_ #[22, 22] 22 #[va, .slice (some ⟨w3.heap.size, 0, none⟩) 1 1]).run Try.prog (w3.alloc (.cells (arrA hd vs) 72)) = .ok (.slice a5 n5 c5) w5 ∧
      RowD kS 59 w5 B (.slice a3 n3 c3) (qs ++ [q]) ∧ KidsD kS w5 (okKK B w5 (.slice a3 n3 c3) (.slice a5 n5 c5)) (qs ++ [q]) ∧ ORow cA 72 w5 B (.slice a5 n5 c5) (ps ++ [(.mk hd sb, vs)]) ∧ Kept (fun k => B ≤ k) w2 w5 := by
  have ka := (Kept.refl Nil w2).alloc (.cells (arrS q.1.hd q.2.1 q.2.2) 59)
  have hsa : (w2.alloc (.cells (arrS q.1.hd q.2.1 q.2.2) 59)).heap.size = w2.heap.size + 1 := by simp
  obtain ⟨u3, w3, r3, o3, k3, h3⟩ := RowD.append (P := Try.prog) (t := 37) (ok := okM M (w2.alloc (.cells (arrS q.1.hd q.2.1 q.2.2) 59))) elsS 37 (Kept.row ka hu (fun _ _ g => g)) (At.lit w2 59 (arrS q.1.hd q.2.1 q.2.2) _ (by rw [flatD_one]; rfl)) (KidsD.single (kS.move _ _ _ _ q hq (fun b _ _ _ _ hr => rangeAt_kept ka id hr) (fun b _ hb => hb.kept ka id))) (by simp; omega) (by rw [hsa]; omega)
  have k23 : Kept (fun k => u.ownBlock = some k) w2 w3 := (ka.mono (fun _ _ g => g.elim)).trans k3 (fun _ _ g => g)
  have hs23 := k23.size
  have ha3 : ORow cA 72 w3 B va ps := Kept.row k23 ha (fun g hg hf => by
    obtain ⟨_, cur, hc⟩ := ownsBlk ha g hg
    obtain ⟨_, cur2, hc2⟩ := ownsBlk hu g hf
    exact neqSC (blk_type hc2 hc))
  have hE3 : Blk w3 E 72 ecs := hE.kept k23 (fun hf => by
    obtain ⟨_, cur2, hc2⟩ := ownsBlk hu E hf
    exact neqSC (blk_type hc2 hE))
  have hs3 : Holds cA w3 okc vs sb := hs.kept k23 (fun b o hb hf => by have := (ownsBlk hu b hf).1; have := hok b o hb; omega)
  have ka5 := (Kept.refl Nil w3).alloc (.cells (arrA hd vs) 72)
  obtain ⟨v5, w5, r5, o5, k5, h5⟩ := ORow.append (P := Try.prog) (qs := [(.mk hd sb, vs)]) elsA kindA 22 (Kept.row ka5 ha3 (fun _ _ g => g)) (At.lit w3 72 (arrA hd vs) _ (by unfold flatC; simp [Sh.hd])) (fun p hp => by
    rw [List.mem_singleton] at hp; subst hp; exact hs3.keptN ka5) (by simp; omega) (by simp; omega)
  have k35 : Kept (fun k => va.ownBlock = some k) w3 w5 := (ka5.mono (fun _ _ g => g.elim)).trans k5 (fun _ _ g => g)
  obtain ⟨a3, n3, c3, rfl⟩ : ∃ a n c, u3 = .slice a n c := by obtain ⟨x, y, e, _⟩ := RowD.shape o3; exact ⟨x, _, y, e⟩
  obtain ⟨a5, n5, c5, rfl⟩ : ∃ a n c, v5 = .slice a n c := by obtain ⟨x, y, e⟩ := (At.own o5).shape; exact ⟨x, _, y, e⟩
  have hu5 : RowD kS 59 w5 B (.slice a3 n3 c3) (qs ++ [q]) := Kept.row k35 o3 (fun g hg hf => by
    obtain ⟨_, cur, hc⟩ := ownsBlk ha3 g hf
    obtain ⟨_, cur2, hc2⟩ := ownsBlk o3 g hg
    exact neqSC (blk_type hc2 hc))
  have own3 : ∀ b o, okM B w2 b o → u.ownBlock ≠ some b → (Value.slice a3 n3 c3).ownBlock ≠ some b := fun b o hb hne e => by
    rcases h3 with h3 | h3
    · rw [h3] at e; exact hne e
    · rw [h3] at e; cases e; have := hb.2.1; omega
  have own5 : ∀ b o, okM B w2 b o → va.ownBlock ≠ some b → (Value.slice a5 n5 c5).ownBlock ≠ some b := fun b o hb hne e => by
    rcases h5 with h5 | h5
    · rw [h5] at e; exact hne e
    · rw [h5] at e; cases e; have := hb.2.1; simp at this; omega
  have mv : ∀ x : SQ, kS.K w2 (okKK B w2 u va) x → kS.K w5 (okKK B w5 (.slice a3 n3 c3) (.slice a5 n5 c5)) x := fun x hx => kS.move _ _ _ _ x hx (fun b _ _ hb _ hr => rangeAt_kept k35 hb.2.2 (rangeAt_kept k23 hb.2.1 hr)) (fun b o hb => ⟨(hb.1.kept k23 hb.2.1).kept k35 hb.2.2, own3 b o hb.1 hb.2.1, own5 b o hb.1 hb.2.2⟩)
  refine ⟨a3, n3, c3, w3, a5, n5, c5, w5, r3, hE3, r5, hu5, fun x hx => ?_, o5, ?_⟩
  · rcases List.mem_append.1 hx with hx | hx
    · exact mv x (hk x hx)
    · rw [List.mem_singleton] at hx
      subst hx
      exact mv x (kS.mono hq fun b o hb => ⟨hb.less hBM, fun e => by have := hum b e; have := hb.1; omega, fun e => by have := ham b e; have := hb.1; omega⟩)
  · exact (k23.mono (fun k _ e => (ownsBlk hu k e).1)).trans (k35.mono (fun k _ e => (ownsBlk ha3 k e).1)) (fun _ _ g => g)
end
end
section
open Go.RowKit

def clamp (x : Int) : Int := if 4096 < (if x < 0 then 0 else x) then 4096 else if x < 0 then 0 else x
theorem clamp_range (x : Int) : 0 ≤ clamp x ∧ clamp x ≤ 4096 := by unfold clamp; split <;> split <;> omega
def heldTo (j : Nat) (b : Bd) : Bd := fun k => if k < j then clamp (b k) else b k
def heldB (b : Bd) : Bd := fun k => if k = 0 then 0 else clamp (b k)
theorem heldTo_zero (b : Bd) : heldTo 0 b = b := by funext k; unfold heldTo; simp
theorem heldTo_get (j : Nat) (b : Bd) : heldTo j b j = b j := by unfold heldTo; simp
theorem heldTo_succ (j : Nat) (b : Bd) : upd (heldTo j b) j (clamp (b j)) = heldTo (j + 1) b := by
  funext k
  unfold upd heldTo
  by_cases e : k = j
  · subst e; simp
  · by_cases h : k < j
    · simp [e, h, show k < j + 1 by omega]
    · simp [e, h, show ¬ k < j + 1 by omega]
theorem held_cells (b : Bd) : cellsB (upd (heldTo 33 b) 0 0) = cellsB (heldB b) := cellsB_ext fun k hk => by
  unfold upd heldTo heldB
  by_cases e : k = 0
  · simp [e]
  · simp [e, hk]
theorem heldB_range (b : Bd) (k : Nat) : 0 ≤ heldB b k ∧ heldB b k ≤ 4096 := by
  unfold heldB
  split
  · omega
  · exact clamp_range _
theorem heldB_zero (b : Bd) : heldB b 0 = 0 := by unfold heldB; simp
end
section
open Go.RowKit

abbrev P2 := Int × Int
/-- What a variable stands for, in a list of pairs. -/
def getP : List P2 → Int → Int
  | [], _ => 0
  | p :: r, x => if p.1 = x then p.2 else getP r x
theorem getP_snoc : ∀ (a : List P2) (n s x : Int), (∀ p ∈ a, p.2 ≠ 0) → getP (a ++ [(n, s)]) x = if getP a x ≠ 0 then getP a x else if n = x then s else 0
  | [], n, s, x, _ => by
    show (if n = x then s else 0) = _
    simp [getP]
  | p :: r, n, s, x, h => by
    show (if p.1 = x then p.2 else getP (r ++ [(n, s)]) x) = if (if p.1 = x then p.2 else getP r x) ≠ 0 then (if p.1 = x then p.2 else getP r x) else _
    by_cases e : p.1 = x
    · have := h p (by simp)
      simp [e, this]
    · rw [if_neg e, if_neg e, getP_snoc r n s x (fun q hq => h q (by simp [hq]))]
/-- A list of pairs says what a binding says. -/
def Rep (ps : List P2) (b : Bd) : Prop := (∀ p ∈ ps, p.2 ≠ 0) ∧ ∀ k : Nat, 1 ≤ k → k < 33 → getP ps k = b k
theorem Rep.snoc {ps : List P2} {b : Bd} (h : Rep ps b) {m : Nat} {s : Int} (hm : b m = 0) (h1 : 1 ≤ m) (h2 : m < 33) (hs : s ≠ 0) : Rep (ps ++ [((m : Int), s)]) (upd b m s) := by
  refine ⟨fun p hp => ?_, fun k hk1 hk2 => ?_⟩
  · rcases List.mem_append.1 hp with hp | hp
    · exact h.1 p hp
    · simp at hp; subst hp; exact hs
  · rw [getP_snoc _ _ _ _ h.1, h.2 k hk1 hk2]
    unfold upd
    by_cases e : k = m
    · subst e; simp [hm]
    · have e' : ¬ ((m : Int) = (k : Int)) := by omega
      simp [e, e']
      intro e0; exact e0.symm

def pairsTo (j : Nat) (b : Bd) : List P2 := ((List.range j).filter (fun k => decide (0 < k) && decide (0 < b k))).map fun k : Nat => ((k : Int), b k)
theorem pairsTo_skip {j : Nat} {b : Bd} (h : (decide (0 < j) && decide (0 < b j)) = false) : pairsTo (j + 1) b = pairsTo j b := by
  unfold pairsTo
  rw [List.range_succ, List.filter_append, List.map_append]
  simp [h]
theorem pairsTo_more {j : Nat} {b : Bd} (h1 : 0 < j) (h2 : 0 < b j) : pairsTo (j + 1) b = pairsTo j b ++ [((j : Int), b j)] := by
  unfold pairsTo
  rw [List.range_succ, List.filter_append, List.map_append]
  simp [h1, h2]
theorem pairsTo_len (j : Nat) (b : Bd) : (pairsTo j b).length ≤ j := by
  unfold pairsTo
  rw [List.length_map]
  exact Nat.le_trans (List.length_filter_le _ _) (by simp)
theorem pairsTo_pos (j : Nat) (b : Bd) : ∀ p ∈ pairsTo j b, p.2 ≠ 0 := by
  intro p hp
  unfold pairsTo at hp
  obtain ⟨k, hk, rfl⟩ := List.mem_map.1 hp
  have := (List.mem_filter.1 hk).2
  simp at this
  show b k ≠ 0
  omega
theorem pairsTo_get : ∀ (j : Nat) (b : Bd) (k : Nat), 0 < k → getP (pairsTo j b) k = if k < j ∧ 0 < b k then b k else 0
  | 0, b, k, _ => by simp [pairsTo, getP]
  | j + 1, b, k, hk => by
    by_cases h : 0 < j ∧ 0 < b j
    · rw [pairsTo_more h.1 h.2, getP_snoc _ _ _ _ (pairsTo_pos j b), pairsTo_get j b k hk]
      by_cases e : k = j
      · subst e; simp [h.2]
      · have e' : ¬ ((j : Int) = (k : Int)) := by omega
        by_cases hb : 0 < b k
        · by_cases hl : k < j
          · simp [hb, hl, show k < j + 1 by omega]; intro hz; omega
          · simp [hl, show ¬ k < j + 1 by omega, e']
        · simp [hb, e']
    · rw [pairsTo_skip (by simpa using fun a => by have := fun b' => h ⟨a, b'⟩; omega), pairsTo_get j b k hk]
      by_cases e : k = j
      · subst e
        have : ¬ 0 < b k := fun x => h ⟨hk, x⟩
        simp [this]
      · have : k < j ↔ k < j + 1 := by omega
        simp [this]
theorem rep_pairs {b : Bd} (h : ∀ k, 0 ≤ b k) : Rep (pairsTo 33 b) b :=
  ⟨pairsTo_pos 33 b, fun k h1 h2 => by
    rw [pairsTo_get 33 b k h1]
    have := h k
    split <;> omega⟩
end
section
open Go.RowKit

def encP (p : P2) : List Value := [.int .i64 p.1, .int .i64 p.2]
def flatQ2 (ps : List P2) : List Value := ps.flatMap encP
theorem flatQ2_len : ∀ ps : List P2, (flatQ2 ps).length = ps.length * 2
  | [] => rfl
  | p :: r => by
    show (encP p ++ flatQ2 r).length = _
    rw [List.length_append, flatQ2_len r, List.length_cons]
    show 2 + _ = _
    omega
theorem flatQ2_get : ∀ (ps : List P2) (i j : Nat) (p : P2), ps[i]? = some p → j < 2 → (flatQ2 ps)[i * 2 + j]? = (encP p)[j]?
  | [], i, j, p, h, _ => by simp at h
  | x :: r, 0, j, p, h, hj => by
    simp only [List.getElem?_cons_zero, Option.some.injEq] at h
    subst h
    show (encP x ++ flatQ2 r)[0 * 2 + j]? = _
    rw [Nat.zero_mul, Nat.zero_add, List.getElem?_append_left (by show j < 2; exact hj)]
  | x :: r, i + 1, j, p, h, hj => by
    show (encP x ++ flatQ2 r)[(i + 1) * 2 + j]? = _
    rw [List.getElem?_append_right (by show 2 ≤ _; omega), show (i + 1) * 2 + j - (encP x).length = i * 2 + j by show _ - 2 = _; omega]
    exact flatQ2_get r i j p (by simpa using h) hj
theorem flatQ2_one (ps : List P2) : ∀ u ∈ flatQ2 ps, u.oneCell' = true := by
  intro u hu
  obtain ⟨p, _, hp⟩ := List.mem_flatMap.1 hu
  simp only [encP, List.mem_cons, List.not_mem_nil, or_false] at hp
  rcases hp with rfl | rfl <;> rfl
theorem flatQ2_append (a b : List P2) : flatQ2 (a ++ b) = flatQ2 a ++ flatQ2 b := by unfold flatQ2; simp

/-- A row of the call's own that holds pairs. -/
def QRow (w : World) (B : Nat) (v : Value) (ps : List P2) : Prop := w.ownsRow B 119 2 v ps.length (flatQ2 ps)
theorem QRow.nil (w : World) (B : Nat) : QRow w B (.slice none 0 0) [] := World.ownsRow_nil _ _ _ _
theorem QRow.less {w : World} {B B' : Nat} {v : Value} {ps : List P2} (h : QRow w B v ps) (hB : B' ≤ B) : QRow w B' v ps := by
  refine ⟨h.1, ?_⟩
  rcases h.2 with hn | ⟨g, cap, cur, e, hb, rest⟩
  · exact .inl hn
  · exact .inr ⟨g, cap, cur, e, by omega, rest⟩
theorem QRow.kept {w w' : World} {B : Nat} {v : Value} {ps : List P2} (h : QRow w B v ps) (k : Kept Nil w w') : QRow w' B v ps := Kept.row k h (fun _ _ g => g)
theorem QRow.shape {w : World} {B : Nat} {v : Value} {ps : List P2} (h : QRow w B v ps) : ∃ a cap, v = .slice a ps.length cap ∧ ps.length ≤ cap := by
  rcases h.2 with ⟨e, e0⟩ | ⟨g, cap, cur, e, _, _, hl, _⟩
  · exact ⟨none, 0, by rw [e, e0], by omega⟩
  · exact ⟨_, _, e, hl⟩
theorem QRow.own {w : World} {B : Nat} {v : Value} {ps : List P2} (h : QRow w B v ps) : ∀ k, v.ownBlock = some k → B ≤ k := by
  intro k hk
  rcases h.2 with ⟨e, _⟩ | ⟨g, cap, cur, e, hb, _⟩
  · rw [e] at hk; cases hk
  · rw [e] at hk; cases hk; exact hb
theorem QRow.at_ {w : World} {B : Nat} {v : Value} {ps : List P2} (h : QRow w B v ps) {i : Nat} {p : P2} (hi : ps[i]? = some p) :
    ∃ g cap, v = .slice (some ⟨g, 0, none⟩) ps.length cap ∧ w.cell? ⟨g, i * 2, none⟩ = some (.int .i64 p.1) ∧ w.cell? ⟨g, i * 2 + 1, none⟩ = some (.int .i64 p.2) ∧ g < w.heap.size := by
  rcases h.2 with ⟨_, e0⟩ | ⟨g, cap, cur, e, _, hg, hl, _, hs, ht⟩
  · rw [List.length_eq_zero_iff.1 e0] at hi; cases hi
  · have key : ∀ j u, (encP p)[j]? = some u → w.cell? ⟨g, i * 2 + j, none⟩ = some u := fun j u hu => by
      have hj : j < 2 := (List.getElem?_eq_some_iff.1 hu).1
      have := h.cells (g := g) (by rw [e]; rfl) (i * 2 + j) u (by rw [flatQ2_get ps i j p hi hj]; exact hu)
      rw [show (⟨g, 0, none⟩ : Addr).add (i * 2 + j) = ⟨g, i * 2 + j, none⟩ from by unfold Addr.add; split <;> simp_all] at this
      exact this
    have c0 := key 0 _ rfl
    exact ⟨g, cap, e, c0, key 1 _ rfl, World.block_lt_of_cell? w _ c0⟩

theorem Try.infoP : (Try.prog.info? 119).map (fun i => (i.zero, i.size, i.bytes)) = some (some (.agg #[.int .i64 0, .int .i64 0]), 2, 16) := by kernel_rfl

theorem cell_two_new (w : World) (x y : Value) (t : TypeId) : ∀ j u, [x, y][j]? = some u → (w.alloc (.cells #[x, y] t)).cell? ((⟨w.heap.size, 0, none⟩ : Addr).add j) = some u := by
  intro j u hj
  rw [show (⟨w.heap.size, 0, none⟩ : Addr).add j = ⟨w.heap.size, j, none⟩ from by unfold Addr.add; split <;> simp_all, (Blk.new w t #[x, y]).cell j]
  simpa using hj

/-- A binding appended to none: the same pairs, in new memory. -/
theorem appendQ_all (w : World) {B : Nat} {v : Value} {ps : List P2} (h : QRow w B v ps) (hl : ps.length ≤ 5000) :
    ∃ v' w', (Builtin.append_ #[92, 92] 92 #[.slice none 0 0, v]).run Try.prog w = .ok v' w' ∧ QRow w' w.heap.size v' ps ∧ Kept Nil w w' := by
  obtain ⟨i0, hi, hz0, hz1, hz2⟩ := info_parts Try.infoP
  rcases h.2 with ⟨e, e0⟩ | ⟨g, cap, cur, e, _⟩
  · obtain rfl := List.length_eq_zero_iff.1 e0
    subst e
    refine ⟨.slice none 0 0, w, ?_, World.ownsRow_nil _ _ _ _, Kept.refl _ _⟩
    simp [Builtin.append_, run_underlying Try.underlying92, sizeOf, typeInfo, hi, Builtin.lenOf, Builtin.firstCells]
  · subst e
    obtain ⟨v', w', r, o, g', _⟩ := run_append_own (P := Try.prog) w w.heap.size 92 92 119 i0 (.agg #[.int .i64 0, .int .i64 0]) 2 16 Try.underlying92 hi hz0 hz1 hz2 rfl (by decide) (.slice none 0 0) 0 [] (World.ownsRow_nil _ _ _ _)
      ⟨g, 0, none⟩ ps.length cap (flatQ2 ps) (flatQ2_len ps) (h.cells rfl) (flatQ2_one ps) (by unfold maxLen; omega) (by omega) (Nat.le_refl _)
    refine ⟨v', w', r, ?_, (Kept.refl _ _).grown g' (fun k hk => by cases hk)⟩
    simpa [QRow] using o

theorem appendQ_one (w : World) {B : Nat} {v : Value} {ps : List P2} (h : QRow w B v ps) (hB : B ≤ w.heap.size) (hl : ps.length ≤ 5000) (n s : Int) :
    ∃ v' w', (Builtin.append_ #[92, 92] 92 #[v, .slice (some ⟨w.heap.size, 0, none⟩) 1 1]).run Try.prog (w.alloc (.cells #[.int .i64 n, .int .i64 s] 119)) = .ok v' w' ∧ QRow w' B v' (ps ++ [(n, s)]) ∧ (w.alloc (.cells #[.int .i64 n, .int .i64 s] 119)).grownBy w' v.ownBlock := by
  obtain ⟨i0, hi, hz0, hz1, hz2⟩ := info_parts Try.infoP
  obtain ⟨v', w', r, o, g', _⟩ := run_append_own (P := Try.prog) (w.alloc (.cells #[.int .i64 n, .int .i64 s] 119)) B 92 92 119 i0 (.agg #[.int .i64 0, .int .i64 0]) 2 16 Try.underlying92 hi hz0 hz1 hz2 rfl (by decide) v ps.length (flatQ2 ps) (h.alloc _)
    ⟨w.heap.size, 0, none⟩ 1 1 [.int .i64 n, .int .i64 s] rfl (cell_two_new _ _ _ _) (fun u hu => by simp at hu; rcases hu with rfl | rfl <;> rfl) (by unfold maxLen; omega) (by omega) (by simp; omega)
  refine ⟨v', w', r, ?_, g'⟩
  have e : flatQ2 (ps ++ [(n, s)]) = flatQ2 ps ++ [.int .i64 n, .int .i64 s] := by rw [flatQ2_append]; rfl
  unfold QRow
  rw [e]
  simpa using o
end
section
open Go.RowKit

def PairsEnd (b : Bd) (w : World) (e : Ending) (w' : World) : Prop := ∃ v, e = .returned v ∧ QRow w' w.heap.size v (pairsTo 33 b) ∧ Kept Nil w w'
set_option maxHeartbeats 1000000 in
theorem get_any {w : World} {B : Nat} {v : Value} {ps : List P2} (h : QRow w B v ps) (hl : ps.length ≤ 5000) (x : Int) :
    Calls Try.prog 57 #[v, .int .i64 x] w fun e w' => e = .returned (.int .i64 (getP ps x)) ∧ Kept Nil w w' := by
  have H := Lib.hid h
  obtain ⟨a, cap, rfl, hcap⟩ := h.shape
  clear h hcap
  generalize hn : ps.length = len at hl
  have HN := Lib.hid hn
  clear hn
  go_enter Try.func57, Try.ntmps57
  go_wp2_with fail
  go_loopw [9] (fun i wr => ∃ j : Nat, j ≤ len ∧ i = .int .i64 j ∧ getP (ps.drop j) x = getP ps x ∧ Kept Nil w wr) (fun i _ => len - (intOf i).toNat)
  case atStart => exact ⟨0, by omega, rfl, rfl, Kept.refl _ _⟩
  case round =>
    obtain ⟨j, hj, rfl, hg, hK⟩ := hrel
    have HG := Lib.hid hg
    have HK := Lib.hid hK
    clear hg
    by_cases hlt : j < len
    · obtain ⟨p, hp⟩ : ∃ p, ps[j]? = some p := ⟨_, List.getElem?_eq_getElem (by have := HN.out; omega)⟩
      have HD : Hid (ps.drop j = p :: ps.drop (j + 1)) := by
        obtain ⟨hl', e⟩ := List.getElem?_eq_some_iff.1 hp
        show _ = _
        rw [← e]
        exact List.drop_eq_getElem_cons hl'
      obtain ⟨g, cap', e, c0, c1, hb⟩ := (H.out.kept hK).at_ hp
      obtain ⟨rfl, _, rfl⟩ : a = some ⟨g, 0, none⟩ ∧ len = ps.length ∧ cap = cap' := by
        have := HN.out
        simp at e
        exact ⟨e.1, by omega, e.2⟩
      obtain ⟨n, s⟩ := p
      clear hK hp e
      by_cases en : n = x
      · obtain rfl := en
        have HS : Hid (s = getP ps n) := by
          have h1 := HG.out
          rw [HD.out] at h1
          have h2 : getP ((n, s) :: ps.drop (j + 1)) n = s := by simp [getP]
          exact h2.symm.trans h1
        go_wp2_with fail
        go_ret
        exact ⟨ret_int HS.out, HK.out.alloc _⟩
      · have hn : (n == x) = false := by simpa using en
        have HS : Hid (getP (ps.drop (j + 1)) x = getP ps x) := by
          have h1 := HG.out
          rw [HD.out] at h1
          have h2 : getP ((n, s) :: ps.drop (j + 1)) x = getP (ps.drop (j + 1)) x := by simp [getP, en]
          exact h2.symm.trans h1
        clear en
        go_wp2_with fail
        go_roundw
        case rel => exact ⟨j + 1, by omega, by go_num, HS.out, HK.out.alloc _⟩
        case measure => simp [intOf]; omega
    · have HS : Hid (getP ps x = 0) := by
        have h1 := HG.out
        rw [List.drop_eq_nil_of_le (by have := HN.out; omega)] at h1
        exact h1.symm
      obtain rfl : j = len := by omega
      clear hK
      go_wp2_with fail
      go_ret
      exact ⟨ret_int HS.out.symm, HK.out⟩
end
section
open Go.RowKit

section
variable {w w' : World} {g : Nat} {t : TypeId} {cs : Array Value}
end
end
section
open Go.RowKit

section
variable {P : Program}
theorem wpList_alloc_zero {ops : Array Oper} {rest : List Oper} {o : Oper} {a : Act} {w : World} {Q : Exit → Act → World → Prop} (hg : o.guard = none) (t : TypeId) (ho : o.op = .alloc t) (z : Value)
    (hz : (P.info? t).map (·.zero) = some (some z)) (h : wpList P ops Q rest (a.put o.dst (.pointer (some ⟨w.heap.size, 0, none⟩))) (w.alloc (.cells z.cells t))) : wpList P ops Q (o :: rest) a w := by
  refine wpList_plain hg fun K hK => ?_
  obtain ⟨i, hi, hzi⟩ : ∃ i, P.info? t = some i ∧ i.zero = some z := by
    cases hq : P.info? t with
    | none => rw [hq] at hz; cases hz
    | some i => rw [hq] at hz; simp at hz; exact ⟨i, rfl, hz⟩
  unfold Oper.wp execOp
  simp [ho, Instr.alloc, zeroValue, typeInfo, hi, hzi, newVar, newRow]
  exact hK _ _ h

theorem quiet_load_row {ops : Array Oper} {C : World → Prop} {Q : Act → Prop} {a : Act} {o : Oper} {rest : List Oper} (hg : o.guard = none) (ty : TypeId) (x : Operand) (ho : o.op = .load ty x)
    (g : Nat) (hx : a.eval x = .pointer (some ⟨g, 0, none⟩)) (t : TypeId) (cs : Array Value) (fr : Nat × Nat) (d : TypeDesc) (hC : ∀ w, C w → w.heap[g]? = some (.cells cs t fr))
    (hu : P.underlying ty = some d) (hd : (match d with | .struct _ | .array _ _ => true | _ => false) = true) (hi : (P.info? ty).map (·.size) = some cs.size)
    (h : wpQuiet P ops C Q rest (a.put o.dst (.agg cs))) : wpQuiet P ops C Q (o :: rest) a := by
  refine BigFrame.wpQuiet_want (by simp [Region.wanted, hg]) fun K hK => ?_
  refine ⟨.agg cs, fun w hw => ?_, hK _ h⟩
  unfold Oper.quietAt execOp
  simp only [ho, hx, Instr.loadAt, Instr.sureAddr, Sem.run_bind, Sem.run_pure, Result.andThen_ok, run_loadVar_row w g t ty cs fr d (hC w hw) hu hd hi]
  exact ⟨rfl, rfl⟩
end
end
section
open Go.RowKit

def fl (x0 x1 x2 : Bool) (n0 n1 n2 t0 t1 t2 : Int) : List (Tm × Int) := [((x0, n0), t0), ((x1, n1), t1), ((x2, n2), t2)]
theorem fieldsL (x0 x1 x2 : Bool) (n0 n1 n2 t0 t1 t2 : Int) {k : Nat} (hk : k < 3) : ∃ v n s, (fl x0 x1 x2 n0 n1 n2 t0 t1 t2)[k]? = some ((v, n), s) ∧
    (∀ w, (Instr.index 70 (.agg #[.bool x0, .int .i64 n0, .bool x1, .int .i64 n1, .bool x2, .int .i64 n2]) (.int .i64 k)).run Try.prog w = .ok (.agg #[.bool v, .int .i64 n]) w) ∧
    (#[.int .i64 t0, .int .i64 t1, .int .i64 t2] : Array Value)[k]? = some (.int .i64 s) := by
  have : k = 0 ∨ k = 1 ∨ k = 2 := by omega
  rcases this with rfl | rfl | rfl
  · exact ⟨x0, n0, t0, rfl, fun w => by kernel_rfl, rfl⟩
  · exact ⟨x1, n1, t1, rfl, fun w => by kernel_rfl, rfl⟩
  · exact ⟨x2, n2, t2, rfl, fun w => by kernel_rfl, rfl⟩
def FitEnd (l : List (Tm × Int)) (b : Bd) (w : World) (e : Ending) (w' : World) : Prop := e = .returned (.tuple #[.agg (cellsB (fitB l b)), .bool (fitOk l b)]) ∧ Kept Nil w w'
theorem fitEnd_none {l : List (Tm × Int)} {b : Bd} {w w' : World} (h : runL l b = none) (k : Kept Nil w w') : FitEnd l b w (.returned (.tuple #[.agg (cellsB b), .bool false])) w' := by
  unfold FitEnd; rw [(fit_none h).1, (fit_none h).2]; exact ⟨rfl, k⟩
theorem fitEnd_some {l : List (Tm × Int)} {b g : Bd} {w w' : World} (h : runL l b = some g) (k : Kept Nil w w') : FitEnd l b w (.returned (.tuple #[.agg (cellsB g), .bool true])) w' := by
  unfold FitEnd; rw [(fit_some h).1, (fit_some h).2]; exact ⟨rfl, k⟩
end
end Go.Proofs.Ytiihjlafhiaigaa
