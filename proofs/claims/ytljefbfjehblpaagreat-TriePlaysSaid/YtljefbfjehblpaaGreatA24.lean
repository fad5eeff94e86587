/- Layer comp: plain mathematics of the steps of conditions: what they are, that they are right, that what stands behind changes nothing. – Layer comp: key.Of: the key of terms. – Layer comp: slices.Index of three terms by themselves. – Layer comp: the program's closures that tell where a variable is bound. – Layer comp: the program's tests of terms. – Layer comp: slices.Clone of conditions, however many. – Layer comp: the program's stepBehind, given stepsBehind of its Subs. – Layer comp: the program's stepBehind of a Pos and a Neg. – Layer comp: the program's stepsBehind; both, for all conditions. – Layer comp: the reference's Bound (of layer 6). – Layer comp: the reference's Compile, given its Of. -/
import Derived.Test.YtljefbfjehblpaaGreatA5
import Derived.Test.YtljefbfjehblpaaGreatA23
import Derived.Test.YtljefbfjehblpaaGreatA12
import Derived.Test.YtljefbfjehblpaaGreatA11
import Derived.Test.YtljefbfjehblpaaGreatA3
import Derived.Lib.SliceRun
namespace Go.Proofs.YtljefbfjehblpaaGreat
section
section
open Go.RowKit
set_option maxRecDepth 100000

/-- The test of each field, behind a chain. -/
def tst0 (ch : List Sh) (h : Hd) : List Tst := if h.x0 = true then (match fpL ch h.n0 0 with | some (b, g) => [(0, (b : Int), g)] | none => []) else []
def tst1 (ch : List Sh) (h : Hd) : List Tst := if h.x1 = true then (match fpL ch h.n1 0 with | some (b, g) => [(1, (b : Int), g)] | none => if h.x0 = true ∧ h.n1 = h.n0 then [(1, -1, 0)] else []) else []
def tst2 (ch : List Sh) (h : Hd) : List Tst := if h.x2 = true then (match fpL ch h.n2 0 with | some (b, g) => [(2, (b : Int), g)] | none => if h.x0 = true ∧ h.n2 = h.n0 then [(2, -1, 0)] else if h.x1 = true ∧ h.n2 = h.n1 then [(2, -1, 1)] else []) else []
def tstL (ch : List Sh) (h : Hd) : List Tst := tst0 ch h ++ tst1 ch h ++ tst2 ch h
/-- The key's field of a term. -/
def kF (v : Bool) (n : Int) : Int := if v then 0 else n
mutual
/-- The step of a condition, behind a chain; of conditions, each behind those ahead of it. -/
def Sh.st : Sh → List Sh → St
  | .mk h l, ch => if h.k = 3 then .mk ⟨h.k, 0, 0, 0, []⟩ (stL l ch) else .mk ⟨h.k, kF h.x0 h.n0, kF h.x1 h.n1, kF h.x2 h.n2, tstL ch h⟩ []
def stL : List Sh → List Sh → List St
  | [], _ => []
  | c :: r, ch => c.st ch :: stL r (ch ++ [c])
end
theorem st_mk (h : Hd) (l ch : List Sh) : (Sh.mk h l).st ch = if h.k = 3 then .mk ⟨h.k, 0, 0, 0, []⟩ (stL l ch) else .mk ⟨h.k, kF h.x0 h.n0, kF h.x1 h.n1, kF h.x2 h.n2, tstL ch h⟩ [] := by rw [Sh.st]
theorem stL_nil (ch : List Sh) : stL [] ch = [] := by rw [stL]
theorem stL_cons (c : Sh) (r ch : List Sh) : stL (c :: r) ch = c.st ch :: stL r (ch ++ [c]) := by rw [stL]
theorem stL_length : ∀ l ch : List Sh, (stL l ch).length = l.length
  | [], ch => by rw [stL_nil]; rfl
  | c :: r, ch => by rw [stL_cons, List.length_cons, List.length_cons, stL_length r]
theorem stL_get : ∀ (l ch : List Sh) (i : Nat) (c : Sh), l[i]? = some c → (stL l ch)[i]? = some (c.st (ch ++ l.take i))
  | [], ch, i, c, h => by simp at h
  | x :: r, ch, 0, c, h => by
    simp only [List.getElem?_cons_zero, Option.some.injEq] at h
    subst h
    rw [stL_cons, List.take_zero, List.append_nil]
    rfl
  | x :: r, ch, i + 1, c, h => by
    rw [stL_cons, List.getElem?_cons_succ, List.take_succ_cons, stL_get r (ch ++ [x]) i c (by simpa using h)]
    simp
theorem stL_take : ∀ (l ch : List Sh) (n : Nat), stL (l.take n) ch = (stL l ch).take n
  | [], ch, n => by simp [stL_nil]
  | x :: r, ch, 0 => by simp [stL_nil]
  | x :: r, ch, n + 1 => by rw [List.take_succ_cons, stL_cons, stL_cons, List.take_succ_cons, stL_take r]
theorem stL_take_succ {l ch : List Sh} {j : Nat} {c : Sh} (h : l[j]? = some c) : stL (l.take (j + 1)) ch = stL (l.take j) ch ++ [c.st (ch ++ l.take j)] := by
  rw [stL_take, stL_take, List.take_add_one, stL_get l ch j c h]
  rfl
theorem st_kind (c : Sh) (ch : List Sh) : (c.st ch).hd.k = c.hd.k := by
  cases c with
  | mk h l => rw [st_mk]; split <;> rfl

/-! ### How many -/
theorem st_cnt : (∀ (s : Sh) (ch : List Sh), (s.st ch).cnt ≤ s.count) ∧ ∀ (l ch : List Sh), cntL (stL l ch) ≤ countL l := by
  refine Sh.ind2 (fun hd subs ih ch => ?_) (fun ch => by simp [stL_nil, cntL, countL]) (fun a l ha hl ch => ?_)
  · rw [st_mk, Sh.count]
    split
    · rw [St.cnt]; have := ih ch; omega
    · rw [St.cnt]; simp [cntL]
  · rw [stL_cons, cntL, countL]
    have := ha ch
    have := hl (ch ++ [a])
    omega
theorem tst_len (ch : List Sh) (h : Hd) : (tst0 ch h).length ≤ 1 ∧ (tst1 ch h).length ≤ 1 ∧ (tst2 ch h).length ≤ 1 := by
  refine ⟨?_, ?_, ?_⟩
  · unfold tst0; repeat' split
    all_goals simp
  · unfold tst1; repeat' split
    all_goals simp
  · unfold tst2; repeat' split
    all_goals simp
theorem tstL_len (ch : List Sh) (h : Hd) : (tstL ch h).length ≤ 3 := by
  have := tst_len ch h
  unfold tstL
  rw [List.length_append, List.length_append]; omega
theorem st_mass : (∀ (s : Sh) (ch : List Sh), (s.st ch).mass ≤ 4 * s.count) ∧ ∀ (l ch : List Sh), massL (stL l ch) ≤ 4 * countL l := by
  refine Sh.ind2 (fun hd subs ih ch => ?_) (fun ch => by simp [stL_nil, massL, countL]) (fun a l ha hl ch => ?_)
  · rw [st_mk, Sh.count]
    split
    · rw [St.mass]; have := ih ch; simp; omega
    · rw [St.mass]; have := tstL_len ch hd; simp [massL]; omega
  · rw [stL_cons, massL, countL]
    have := ha ch
    have := hl (ch ++ [a])
    omega

/-! ### What is compiled is right -/
theorem fpL_range : ∀ (l : List Sh) (v : Int) (back b : Nat) (f : Int), fpL l v back = some (b, f) → back ≤ b ∧ b < back + l.length ∧ 0 ≤ f ∧ f ≤ 2
  | [], v, back, b, f, h => by simp [fpL] at h
  | s :: r, v, back, b, f, h => by
    simp only [fpL] at h
    rw [List.length_cons]
    split at h
    · split at h
      · rename_i h2
        cases h
        exact ⟨Nat.le_refl _, by omega, h2, (hitF_le s.hd v).1⟩
      · have := fpL_range r v (back + 1) b f h; omega
    · have := fpL_range r v back b f h; omega
theorem tOK_of {a b c : Int} (h : (0 ≤ a ∧ a ≤ 2) ∧ (-1 ≤ b ∧ b ≤ 15) ∧ (0 ≤ c ∧ c ≤ 2) ∧ (b = -1 → c < a)) : tOK (a, b, c) = true := by unfold tOK; exact decide_eq_true h
theorem tst0_cases (ch : List Sh) (h : Hd) (hc : ch.length ≤ 15) : tst0 ch h = [] ∨ ∃ b c, tst0 ch h = [(0, b, c)] ∧ tOK (0, b, c) = true := by
  unfold tst0
  split
  · cases hf : fpL ch h.n0 0 with
    | none => exact .inl rfl
    | some q =>
      obtain ⟨b, g⟩ := q
      have := fpL_range ch h.n0 0 b g hf
      exact .inr ⟨b, g, rfl, tOK_of (by omega)⟩
  · exact .inl rfl
theorem tst1_cases (ch : List Sh) (h : Hd) (hc : ch.length ≤ 15) : tst1 ch h = [] ∨ ∃ b c, tst1 ch h = [(1, b, c)] ∧ tOK (1, b, c) = true := by
  unfold tst1
  split
  · cases hf : fpL ch h.n1 0 with
    | none =>
      show (if _ then _ else _) = [] ∨ _
      split
      · exact .inr ⟨-1, 0, rfl, tOK_of (by omega)⟩
      · exact .inl rfl
    | some q =>
      obtain ⟨b, g⟩ := q
      have := fpL_range ch h.n1 0 b g hf
      exact .inr ⟨b, g, rfl, tOK_of (by omega)⟩
  · exact .inl rfl
theorem tst2_cases (ch : List Sh) (h : Hd) (hc : ch.length ≤ 15) : tst2 ch h = [] ∨ ∃ b c, tst2 ch h = [(2, b, c)] ∧ tOK (2, b, c) = true := by
  unfold tst2
  split
  · cases hf : fpL ch h.n2 0 with
    | none =>
      show (if _ then _ else _) = [] ∨ _
      split
      · exact .inr ⟨-1, 0, rfl, tOK_of (by omega)⟩
      · split
        · exact .inr ⟨-1, 1, rfl, tOK_of (by omega)⟩
        · exact .inl rfl
    | some q =>
      obtain ⟨b, g⟩ := q
      have := fpL_range ch h.n2 0 b g hf
      exact .inr ⟨b, g, rfl, tOK_of (by omega)⟩
  · exact .inl rfl
theorem tstL_ok (ch : List Sh) (h : Hd) (hc : ch.length ≤ 15) : tsOK (-1) (tstL ch h) = true := by
  unfold tstL
  rcases tst0_cases ch h hc with e0 | ⟨a0, b0, e0, o0⟩ <;> rcases tst1_cases ch h hc with e1 | ⟨a1, b1, e1, o1⟩ <;> rcases tst2_cases ch h hc with e2 | ⟨a2, b2, e2, o2⟩ <;> rw [e0, e1, e2] <;> simp [tsOK, *]
theorem kF_ok {v : Bool} {n : Int} (h : okTm v n = true) : okK (kF v n) = true := by
  unfold kF okK
  cases v
  · have := okTm_sym.1 h; exact decide_eq_true (by simp; omega)
  · exact decide_eq_true (by simp)
theorem chk_fine {hd : Hd} {subs : List Sh} {d : Int} (h : (Sh.mk hd subs).chk d = 0) (hk : hd.k ≠ 3) : (hd.k = 1 ∨ hd.k = 2) ∧ hd.fine = true ∧ subs = [] ∧ d ≤ 3 := by
  simp only [Sh.chk] at h
  by_cases h3 : 3 < d
  · rw [if_pos h3] at h; omega
  · rw [if_neg h3, if_neg hk] at h
    by_cases hk2 : hd.k = 1 ∨ hd.k = 2
    · rw [if_pos hk2] at h
      by_cases hf : hd.fine = false
      · rw [if_pos hf] at h; omega
      · rw [if_neg hf] at h
        by_cases hl : 0 < subs.length
        · rw [if_pos hl] at h; omega
        · exact ⟨hk2, by simpa using hf, List.length_eq_zero_iff.1 (by omega), by omega⟩
    · rw [if_neg hk2] at h; omega
theorem chk_depth {hd : Hd} {subs : List Sh} {d : Int} (h : (Sh.mk hd subs).chk d = 0) : d ≤ 3 := by
  simp only [Sh.chk] at h
  by_cases h3 : 3 < d
  · rw [if_pos h3] at h; omega
  · omega
theorem fine_all {hd : Hd} (h : hd.fine = true) : okTm hd.x0 hd.n0 = true ∧ okTm hd.x1 hd.n1 = true ∧ okTm hd.x2 hd.n2 = true := by
  unfold Hd.fine fine at h
  simp only [Bool.and_eq_true] at h
  exact ⟨h.1.1, h.1.2, h.2⟩
theorem st_pAt : (∀ (s : Sh) (d : Int) (ch : List Sh), s.chk d = 0 → ch.length + s.count ≤ 16 → (s.st ch).pAt d = true) ∧ ∀ (l : List Sh) (d : Int) (ch : List Sh), chkL l d = 0 → ch.length + countL l ≤ 16 → pLAt (stL l ch) d = true := by
  refine Sh.ind2 (fun hd subs ih d ch h hc => ?_) (fun d ch _ _ => by rw [stL_nil]; rfl) (fun a l ha hl d ch h hc => ?_)
  · rw [Sh.count] at hc
    have hd3 := chk_depth h
    rw [st_mk]
    by_cases hk : hd.k = 3
    · rw [if_pos hk]
      rcases chk_zero h with ⟨_, hne, hs⟩ | ⟨hk2, _⟩
      · have hlen := length_countL subs
        have hne' : subs ≠ [] := hne
        have hl0 : 0 < subs.length := List.length_pos_iff.2 hne'
        simp only [St.pAt]
        rw [if_neg (by omega), if_pos hk, ih (d + 1) ch hs (by omega), stL_length, decide_eq_true (by omega : subs.length ≠ 0 ∧ subs.length < 16)]
        rfl
      · have : hd.k = 1 ∨ hd.k = 2 := hk2
        omega
    · rw [if_neg hk]
      obtain ⟨hk2, hf, rfl, _⟩ := chk_fine h hk
      obtain ⟨f0, f1, f2⟩ := fine_all hf
      simp only [St.pAt]
      rw [if_neg (by omega), if_neg hk, if_pos hk2, tstL_ok ch hd (by omega)]
      unfold okK3
      rw [kF_ok f0, kF_ok f1, kF_ok f2]
      rfl
  · obtain ⟨h1, h2⟩ := (chkL_cons _ _ _).1 h
    rw [countL] at hc
    rw [stL_cons]
    simp only [pLAt]
    have := count_pos a
    rw [ha d ch h1 (by omega), hl d (ch ++ [a]) h2 (by rw [List.length_append]; simp; omega)]
    rfl
theorem st_right {s : Sh} {ch : List Sh} (h : s.chk 1 = 0) (hc : ch.length + s.count ≤ 16) : (s.st ch).right = true := by
  unfold St.right
  rw [st_pAt.1 s 1 ch h hc, decide_eq_true (by have := st_cnt.1 s ch; omega : (s.st ch).cnt ≤ 16)]
  rfl
theorem stL_right {l ch : List Sh} (h : chkL l 1 = 0) (hc : ch.length + countL l ≤ 16) : ∀ x ∈ stL l ch, x.right = true := by
  intro x hx
  obtain ⟨i, hi⟩ := List.getElem?_of_mem hx
  have hil : i < l.length := by have := (List.getElem?_eq_some_iff.1 hi).1; rwa [stL_length] at this
  have hg : l[i]? = some l[i] := List.getElem?_eq_getElem hil
  rw [stL_get l ch i _ hg] at hi
  cases hi
  have h1 := countL_take_succ hg
  have h2 := countL_take_le l (i + 1)
  have h3 := length_countL (l.take i)
  refine st_right (chkL_all.1 h _ (List.getElem_mem _)) ?_
  rw [List.length_append]
  omega
end
section
open Go.RowKit
set_option maxRecDepth 100000

/-- Three blocks of a call: what came in, the result's, the variable's. -/
structure Acc3 (tb t : TypeId) (w : World) (lc zc oc : Array Value) (W : World) : Prop where
  kept : Kept Nil w W
  b0 : Blk W w.heap.size tb lc
  b1 : Blk W (w.heap.size + 1) t zc
  b2 : Blk W (w.heap.size + 1 + 1) t oc
theorem Acc3.start (tb t : TypeId) (w : World) (lc zc oc : Array Value) : Acc3 tb t w lc zc oc (((w.alloc (.cells lc tb)).alloc (.cells zc t)).alloc (.cells oc t)) := by
  refine ⟨(((Kept.refl Nil w).alloc _).alloc _).alloc _, ((Blk.new w _ _).alloc _).alloc _, ?_, ?_⟩
  · have := (Blk.new (w.alloc (.cells lc tb)) t zc).alloc (.cells oc t)
    simpa using this
  · have := Blk.new ((w.alloc (.cells lc tb)).alloc (.cells zc t)) t oc
    simpa using this
section
variable {tb t : TypeId} {w W W' : World} {lc zc oc : Array Value}
theorem Acc3.alloc (h : Acc3 tb t w lc zc oc W) (o : Obj) : Acc3 tb t w lc zc oc (W.alloc o) := ⟨h.kept.alloc o, h.b0.alloc o, h.b1.alloc o, h.b2.alloc o⟩
theorem Acc3.step (h : Acc3 tb t w lc zc oc W) (k : Kept Nil W W') : Acc3 tb t w lc zc oc W' := ⟨h.kept.trans k (fun _ _ g => g), h.b0.kept k id, h.b1.kept k id, h.b2.kept k id⟩
theorem Acc3.set_ (h : Acc3 tb t w lc zc oc W) (i : Nat) (v : Value) : Acc3 tb t w lc zc (oc.setIfInBounds i v) (W.setCell ⟨w.heap.size + 1 + 1, i, none⟩ v) :=
  ⟨h.kept.setCell _ (.inr (by show _ ≤ w.heap.size + 1 + 1; omega)) _, h.b0.far (by show _ ≠ w.heap.size + 1 + 1; omega) _, h.b1.far (by show _ ≠ w.heap.size + 1 + 1; omega) _, h.b2.set_ i v⟩
end
abbrev c3 (x y z : Int) : Array Value := #[.int .i64 x, .int .i64 y, .int .i64 z]

theorem Acc3.facts {tb t : TypeId} {w W : World} {lc : Array Value} {x y z : Int} (h : Acc3 tb t w lc (c3 0 0 0) (c3 x y z) W) :
    (W.cell? ⟨w.heap.size + 1, 0, none⟩ = some (.int .i64 0) ∧ W.cell? ⟨w.heap.size + 1, 1, none⟩ = some (.int .i64 0) ∧ W.cell? ⟨w.heap.size + 1, 2, none⟩ = some (.int .i64 0)) ∧
    (W.frozen? ⟨w.heap.size + 1, 0, none⟩ = false ∧ W.frozen? ⟨w.heap.size + 1, 1, none⟩ = false ∧ W.frozen? ⟨w.heap.size + 1, 2, none⟩ = false) ∧
    (W.cell? ⟨w.heap.size + 1 + 1, 0, none⟩ = some (.int .i64 x) ∧ W.cell? ⟨w.heap.size + 1 + 1, 1, none⟩ = some (.int .i64 y) ∧ W.cell? ⟨w.heap.size + 1 + 1, 2, none⟩ = some (.int .i64 z)) ∧
    (W.frozen? ⟨w.heap.size + 1 + 1, 0, none⟩ = false ∧ W.frozen? ⟨w.heap.size + 1 + 1, 1, none⟩ = false ∧ W.frozen? ⟨w.heap.size + 1 + 1, 2, none⟩ = false) :=
  ⟨⟨h.b1.cell 0, h.b1.cell 1, h.b1.cell 2⟩, ⟨h.b1.frozen 0, h.b1.frozen 1, h.b1.frozen 2⟩, ⟨h.b2.cell 0, h.b2.cell 1, h.b2.cell 2⟩, ⟨h.b2.frozen 0, h.b2.frozen 1, h.b2.frozen 2⟩⟩
theorem Acc3.done {tb t : TypeId} {w W : World} {lc zc oc : Array Value} (h : Acc3 tb t w lc zc oc W) (u v x : Value) : Kept Nil w (((W.setCell ⟨w.heap.size + 1, 0, none⟩ u).setCell ⟨w.heap.size + 1, 1, none⟩ v).setCell ⟨w.heap.size + 1, 2, none⟩ x) :=
  ((h.kept.setCell _ (.inr (Nat.le_succ _)) _).setCell _ (.inr (Nat.le_succ _)) _).setCell _ (.inr (Nat.le_succ _)) _
end
section
open Go.RowKit
set_option maxRecDepth 100000

end
section
open Go.RowKit
set_option maxRecDepth 100000

theorem bdL_mem {l : List Sh} : ∀ {m : Nat} {p : Pl}, p ∈ bdL l m ↔ ∃ i, i < m ∧ ∃ b f, fpL l ((i : Int) + 1) 0 = some (b, f) ∧ p = ((i : Int) + 1, b, f)
  | 0, p => by simp [bdL]
  | m + 1, p => by
    rw [bdL, List.mem_append, bdL_mem]
    constructor
    · rintro (⟨i, hi, r⟩ | h)
      · exact ⟨i, by omega, r⟩
      · cases hf : fpL l ((m : Int) + 1) 0 with
        | none => rw [hf] at h; cases h
        | some q =>
          obtain ⟨b, f⟩ := q
          rw [hf] at h
          exact ⟨m, by omega, b, f, hf, by simpa using h⟩
    · rintro ⟨i, hi, b, f, hf, rfl⟩
      rcases Nat.lt_or_eq_of_le (Nat.le_of_lt_succ hi) with h | rfl
      · exact .inl ⟨i, h, b, f, hf, rfl⟩
      · right; rw [hf]; simp
theorem bdL_none {l : List Sh} {v : Int} (h1 : 1 ≤ v) (h2 : v ≤ 32) (h : ∀ p ∈ bdL l 32, p.1 ≠ v) : fpL l v 0 = none := by
  cases hf : fpL l v 0 with
  | none => rfl
  | some q =>
    obtain ⟨b, f⟩ := q
    obtain ⟨i, hi⟩ : ∃ i : Nat, (i : Int) + 1 = v := ⟨(v - 1).toNat, by omega⟩
    exact absurd hi (h ((i : Int) + 1, b, f) (bdL_mem.2 ⟨i, by omega, b, f, by rw [hi]; exact hf, rfl⟩))
theorem bdL_some {l : List Sh} {p : Pl} (h : p ∈ bdL l 32) : fpL l p.1 0 = some p.2 := by
  obtain ⟨i, _, b, f, hf, rfl⟩ := bdL_mem.1 h
  exact hf
theorem Places.kept {w w' : World} {v : Value} {ps : List Pl} (h : Places w v ps) (k : Kept Nil w w') : Places w' v ps := by
  obtain ⟨a, c, e, h⟩ := h
  exact ⟨a, c, e, fun i p hi => by obtain ⟨g, e2, hr⟩ := h i p hi; exact ⟨g, e2, rangeAt_kept k id hr⟩⟩
/-- Where the first place of a variable is; -1 if there is none. -/
def PlIxEnd (ps : List Pl) (v : Int) (w : World) (e : Ending) (w' : World) : Prop := ∃ r : Int, e = .returned (.int .i64 r) ∧ Kept Nil w w' ∧ ((r = -1 ∧ ∀ p ∈ ps, p.1 ≠ v) ∨ ∃ (j : Nat) (p : Pl), r = (j : Int) ∧ j < ps.length ∧ ps[j]? = some p ∧ p.1 = v)
end
section
open Go.RowKit
set_option maxRecDepth 100000

/-- A field's term; its tests; the tests of the fields ahead. -/
def tmX (h : Hd) : Nat → Bool
  | 0 => h.x0
  | 1 => h.x1
  | _ => h.x2
def tmN (h : Hd) : Nat → Int
  | 0 => h.n0
  | 1 => h.n1
  | _ => h.n2
def tstAt (ch : List Sh) (h : Hd) : Nat → List Tst
  | 0 => tst0 ch h
  | 1 => tst1 ch h
  | _ => tst2 ch h
def tsU (ch : List Sh) (h : Hd) : Nat → List Tst
  | 0 => []
  | j + 1 => tsU ch h j ++ tstAt ch h j
theorem tsU_three (ch : List Sh) (h : Hd) : tsU ch h 3 = tstL ch h := by
  show (([] ++ tst0 ch h) ++ tst1 ch h) ++ tst2 ch h = _
  rw [List.nil_append]
  rfl
theorem tsU_len (ch : List Sh) (h : Hd) : ∀ j, (tsU ch h j).length ≤ j
  | 0 => by simp [tsU]
  | j + 1 => by
    have h1 := tsU_len ch h j
    have h2 := tst_len ch h
    have h3 : (tstAt ch h j).length ≤ 1 := by
      unfold tstAt
      split
      · exact h2.1
      · exact h2.2.1
      · exact h2.2.2
    rw [tsU, List.length_append]
    omega
theorem tstAt_no {ch : List Sh} {h : Hd} {j : Nat} (hj : j < 3) (hx : tmX h j = false) : tstAt ch h j = [] := by
  have : j = 0 ∨ j = 1 ∨ j = 2 := by omega
  rcases this with rfl | rfl | rfl
  · have e : h.x0 = false := hx
    show tst0 ch h = []
    unfold tst0; rw [if_neg (by rw [e]; simp)]
  · have e : h.x1 = false := hx
    show tst1 ch h = []
    unfold tst1; rw [if_neg (by rw [e]; simp)]
  · have e : h.x2 = false := hx
    show tst2 ch h = []
    unfold tst2; rw [if_neg (by rw [e]; simp)]
/-- Where the same term stands first. -/
theorem tstAt_yes {ch : List Sh} {h : Hd} {j : Nat} (hj : j < 3) (hx : tmX h j = true) : ∃ r : Nat, r ≤ j ∧ first3 (decide (true = h.x0 ∧ tmN h j = h.n0)) (decide (true = h.x1 ∧ tmN h j = h.n1)) (decide (true = h.x2 ∧ tmN h j = h.n2)) = (r : Int) ∧
    tstAt ch h j = match fpL ch (tmN h j) 0 with | some (b, g) => [((j : Int), (b : Int), g)] | none => if r < j then [((j : Int), -1, (r : Int))] else [] := by
  have : j = 0 ∨ j = 1 ∨ j = 2 := by omega
  rcases this with rfl | rfl | rfl
  · have e : h.x0 = true := hx
    refine ⟨0, Nat.le_refl _, ?_, ?_⟩
    · show first3 (decide (true = h.x0 ∧ h.n0 = h.n0)) _ _ = _
      rw [e]; simp [first3]
    · show tst0 ch h = match fpL ch h.n0 0 with | some (b, g) => [(((0 : Nat) : Int), (b : Int), g)] | none => if 0 < 0 then _ else []
      unfold tst0
      rw [if_pos e]
      cases fpL ch h.n0 0 <;> rfl
  · have e : h.x1 = true := hx
    by_cases hc : h.x0 = true ∧ h.n1 = h.n0
    · refine ⟨0, by omega, ?_, ?_⟩
      · show first3 (decide (true = h.x0 ∧ h.n1 = h.n0)) _ _ = _
        rw [decide_eq_true (show true = h.x0 ∧ h.n1 = h.n0 from ⟨hc.1.symm, hc.2⟩)]; rfl
      · show tst1 ch h = match fpL ch h.n1 0 with | some (b, g) => [(((1 : Nat) : Int), (b : Int), g)] | none => if 0 < 1 then [(((1 : Nat) : Int), -1, ((0 : Nat) : Int))] else []
        unfold tst1
        rw [if_pos e, if_pos hc, if_pos (by decide)]
        cases fpL ch h.n1 0 <;> rfl
    · refine ⟨1, by omega, ?_, ?_⟩
      · show first3 (decide (true = h.x0 ∧ h.n1 = h.n0)) (decide (true = h.x1 ∧ h.n1 = h.n1)) _ = _
        rw [decide_eq_false (show ¬ (true = h.x0 ∧ h.n1 = h.n0) from fun hh => hc ⟨hh.1.symm, hh.2⟩), e]; simp [first3]
      · show tst1 ch h = match fpL ch h.n1 0 with | some (b, g) => [(((1 : Nat) : Int), (b : Int), g)] | none => if 1 < 1 then [(((1 : Nat) : Int), -1, ((1 : Nat) : Int))] else []
        unfold tst1
        rw [if_pos e, if_neg hc, if_neg (by decide)]
        cases fpL ch h.n1 0 <;> rfl
  · have e : h.x2 = true := hx
    by_cases hc : h.x0 = true ∧ h.n2 = h.n0
    · refine ⟨0, by omega, ?_, ?_⟩
      · show first3 (decide (true = h.x0 ∧ h.n2 = h.n0)) _ _ = _
        rw [decide_eq_true (show true = h.x0 ∧ h.n2 = h.n0 from ⟨hc.1.symm, hc.2⟩)]; rfl
      · show tst2 ch h = match fpL ch h.n2 0 with | some (b, g) => [(((2 : Nat) : Int), (b : Int), g)] | none => if 0 < 2 then [(((2 : Nat) : Int), -1, ((0 : Nat) : Int))] else []
        unfold tst2
        rw [if_pos e, if_pos hc, if_pos (by decide)]
        cases fpL ch h.n2 0 <;> rfl
    · by_cases hd : h.x1 = true ∧ h.n2 = h.n1
      · refine ⟨1, by omega, ?_, ?_⟩
        · show first3 (decide (true = h.x0 ∧ h.n2 = h.n0)) (decide (true = h.x1 ∧ h.n2 = h.n1)) _ = _
          rw [decide_eq_false (show ¬ (true = h.x0 ∧ h.n2 = h.n0) from fun hh => hc ⟨hh.1.symm, hh.2⟩), decide_eq_true (show true = h.x1 ∧ h.n2 = h.n1 from ⟨hd.1.symm, hd.2⟩)]; rfl
        · show tst2 ch h = match fpL ch h.n2 0 with | some (b, g) => [(((2 : Nat) : Int), (b : Int), g)] | none => if 1 < 2 then [(((2 : Nat) : Int), -1, ((1 : Nat) : Int))] else []
          unfold tst2
          rw [if_pos e, if_neg hc, if_pos hd, if_pos (by decide)]
          cases fpL ch h.n2 0 <;> rfl
      · refine ⟨2, by omega, ?_, ?_⟩
        · show first3 (decide (true = h.x0 ∧ h.n2 = h.n0)) (decide (true = h.x1 ∧ h.n2 = h.n1)) (decide (true = h.x2 ∧ h.n2 = h.n2)) = _
          rw [decide_eq_false (show ¬ (true = h.x0 ∧ h.n2 = h.n0) from fun hh => hc ⟨hh.1.symm, hh.2⟩), decide_eq_false (show ¬ (true = h.x1 ∧ h.n2 = h.n1) from fun hh => hd ⟨hh.1.symm, hh.2⟩), e]; simp [first3]
        · show tst2 ch h = match fpL ch h.n2 0 with | some (b, g) => [(((2 : Nat) : Int), (b : Int), g)] | none => if 2 < 2 then [(((2 : Nat) : Int), -1, ((2 : Nat) : Int))] else []
          unfold tst2
          rw [if_pos e, if_neg hc, if_neg hd, if_neg (by decide)]
          cases fpL ch h.n2 0 <;> rfl
theorem idxJ (x0 x1 x2 : Bool) (n0 n1 n2 : Int) (k : Int) (j : Nat) (hj : j < 3) (w : World) : (Instr.index 70 (.agg #[.bool x0, .int .i64 n0, .bool x1, .int .i64 n1, .bool x2, .int .i64 n2]) (.int .i64 (j : Int))).run Tryz.prog w = .ok (.agg #[.bool (tmX ⟨k, x0, x1, x2, n0, n1, n2⟩ j), .int .i64 (tmN ⟨k, x0, x1, x2, n0, n1, n2⟩ j)]) w := by
  obtain ⟨i0, i1, i2⟩ := idxL3 x0 x1 x2 n0 n1 n2
  have : j = 0 ∨ j = 1 ∨ j = 2 := by omega
  rcases this with rfl | rfl | rfl
  · exact i0 w
  · exact i1 w
  · exact i2 w
theorem tm_ok {h : Hd} (hf : h.fine = true) {j : Nat} (hj : j < 3) : okTm (tmX h j) (tmN h j) = true := by
  obtain ⟨f0, f1, f2⟩ := fine_all hf
  have : j = 0 ∨ j = 1 ∨ j = 2 := by omega
  rcases this with rfl | rfl | rfl
  · exact f0
  · exact f1
  · exact f2
abbrev arrL3 (x0 x1 x2 : Bool) (n0 n1 n2 : Int) : Array Value := #[.bool x0, .int .i64 n0, .bool x1, .int .i64 n1, .bool x2, .int .i64 n2]
/-- Tests in new memory. -/
def TsEnd (ts : List Tst) (w : World) (e : Ending) (w' : World) : Prop := ∃ a c, e = .returned (.slice a ts.length c) ∧ TsAt w' (okM w.heap.size w') (.slice a ts.length c) ts ∧ Kept Nil w w'
/-- The class of worlds in which a box is as it was laid. -/
def CB1 (w : World) (G : Nat) (t : TypeId) (cs : Array Value) (D : Nat) (t' : TypeId) (ds : Array Value) (W : World) : Prop := Blk W G t cs ∧ Blk W D t' ds ∧ Kept Nil w W
theorem CB1.step {w : World} {G : Nat} {t : TypeId} {cs : Array Value} {D : Nat} {t' : TypeId} {ds : Array Value} (W W' : World) (h : CB1 w G t cs D t' ds W) (k : Kept Nil W W') : CB1 w G t cs D t' ds W' := ⟨h.1.kept k id, h.2.1.kept k id, h.2.2.trans k (fun _ _ g => g)⟩
end
section
open Go.RowKit
set_option maxRecDepth 100000

end
section
open Go.RowKit
set_option maxRecDepth 100000

/-- The result is stored. -/
theorem st_done {w wl : World} (hd : SH) (sb : List St) {ta sa : Option Addr} {tn tc sn sc : Nat} (htn : hd.ts.length = tn) (hsn : sb.length = sn) (K : Kept Nil w wl) (hB : Blk wl (w.heap.size + 1) 65 zS) (hT : TsAt wl (okM (w.heap.size + 1 + 1) wl) (.slice ta tn tc) hd.ts) (hS : SHolds wl (okM (w.heap.size + 1 + 1) wl) (.slice sa sn sc) sb) :
    StEnd hd sb w (.returned (vS hd (.slice ta tn tc) (.slice sa sn sc))) ((((((wl.setCell ⟨w.heap.size + 1, 0, none⟩ (.int .i64 hd.k)).setCell ⟨w.heap.size + 1, 1, none⟩ (.int .i64 hd.k0)).setCell ⟨w.heap.size + 1, 2, none⟩ (.int .i64 hd.k1)).setCell ⟨w.heap.size + 1, 3, none⟩ (.int .i64 hd.k2)).setCell ⟨w.heap.size + 1, 4, none⟩ (.slice ta tn tc)).setCell ⟨w.heap.size + 1, 5, none⟩ (.slice sa sn sc)) ∧
    Blk ((((((wl.setCell ⟨w.heap.size + 1, 0, none⟩ (.int .i64 hd.k)).setCell ⟨w.heap.size + 1, 1, none⟩ (.int .i64 hd.k0)).setCell ⟨w.heap.size + 1, 2, none⟩ (.int .i64 hd.k1)).setCell ⟨w.heap.size + 1, 3, none⟩ (.int .i64 hd.k2)).setCell ⟨w.heap.size + 1, 4, none⟩ (.slice ta tn tc)).setCell ⟨w.heap.size + 1, 5, none⟩ (.slice sa sn sc)) (w.heap.size + 1) 65 (arrS hd (.slice ta tn tc) (.slice sa sn sc)) := by
  subst htn hsn
  have kS := (Kept.refl (fun k => k = w.heap.size + 1) wl).set6 (X := w.heap.size + 1) (.inl rfl) (.int .i64 hd.k) (.int .i64 hd.k0) (.int .i64 hd.k1) (.int .i64 hd.k2) (.slice ta hd.ts.length tc) (.slice sa sb.length sc)
  refine ⟨⟨ta, tc, sa, sc, rfl, ?_, ?_, K.set6 (.inr (Nat.le_succ _)) _ _ _ _ _ _⟩, blk_set6 hB _ _ _ _ _ _⟩
  · exact (hT.kept kS (fun b o hb e => by have := hb.1; omega)).mono fun b o hb => (hb.kept kS (fun e => by have := hb.1; omega)).less (by omega)
  · exact (hS.kept kS (fun b o hb e => by have := hb.1; omega)).mono fun b o hb => (hb.kept kS (fun e => by have := hb.1; omega)).less (by omega)
abbrev SeenN (B : Nat) (k : Int) (v : Value) (w' : World) : Prop := w'.cell? ⟨B, 0, none⟩ = some (.int .i64 k) ∧ w'.cell? ⟨B, 7, none⟩ = some v
theorem seenN_kept {B : Nat} {k : Int} {v : Value} {w w' : World} (kk : Kept Nil w w') (h : SeenN B k v w) : SeenN B k v w' := ⟨kk.cellOf h.1, kk.cellOf h.2⟩
theorem seenN_set6 {B A : Nat} {k : Int} {v v0 v1 v2 v3 v4 v5 : Value} {w : World} (h0 : B ≠ A) (h : SeenN B k v w) : SeenN B k v ((((((w.setCell ⟨A, 0, none⟩ v0).setCell ⟨A, 1, none⟩ v1).setCell ⟨A, 2, none⟩ v2).setCell ⟨A, 3, none⟩ v3).setCell ⟨A, 4, none⟩ v4).setCell ⟨A, 5, none⟩ v5) := by
  have m : ∀ {W : World} {i : Nat} {u : Value}, SeenN B k v W → SeenN B k v (W.setCell ⟨A, i, none⟩ u) := fun {W i u} h =>
    ⟨by rw [World.cell?_setCell_other W _ _ _ (fun e => h0 (congrArg Addr.block e).symm)]; exact h.1, by rw [World.cell?_setCell_other W _ _ _ (fun e => h0 (congrArg Addr.block e).symm)]; exact h.2⟩
  exact m (m (m (m (m (m h)))))
end
section
open Go.RowKit
set_option maxRecDepth 100000

/-- What is read of the box. -/
abbrev SeenG (B : Nat) (k : Int) (x0 x1 x2 : Bool) (n0 n1 n2 : Int) (w' : World) : Prop :=
  w'.cell? ⟨B, 0, none⟩ = some (.int .i64 k) ∧ w'.cell? ⟨B, 1, none⟩ = some (.bool x0) ∧ w'.cell? ⟨B, 2, none⟩ = some (.int .i64 n0) ∧ w'.cell? ⟨B, 3, none⟩ = some (.bool x1) ∧ w'.cell? ⟨B, 4, none⟩ = some (.int .i64 n1) ∧ w'.cell? ⟨B, 5, none⟩ = some (.bool x2) ∧ w'.cell? ⟨B, 6, none⟩ = some (.int .i64 n2)
section
variable {B : Nat} {k : Int} {x0 x1 x2 : Bool} {n0 n1 n2 : Int} {w w' : World}
theorem SeenG.move (k0 : ∀ i v, w.cell? ⟨B, i, none⟩ = some v → w'.cell? ⟨B, i, none⟩ = some v) (h : SeenG B k x0 x1 x2 n0 n1 n2 w) : SeenG B k x0 x1 x2 n0 n1 n2 w' :=
  ⟨k0 _ _ h.1, k0 _ _ h.2.1, k0 _ _ h.2.2.1, k0 _ _ h.2.2.2.1, k0 _ _ h.2.2.2.2.1, k0 _ _ h.2.2.2.2.2.1, k0 _ _ h.2.2.2.2.2.2⟩
theorem seenG_kept (kk : Kept Nil w w') (h : SeenG B k x0 x1 x2 n0 n1 n2 w) : SeenG B k x0 x1 x2 n0 n1 n2 w' := h.move (fun _ _ h => kk.cellOf h)
theorem seenG_set {A i : Nat} {v : Value} (h0 : B ≠ A) (h : SeenG B k x0 x1 x2 n0 n1 n2 w) : SeenG B k x0 x1 x2 n0 n1 n2 (w.setCell ⟨A, i, none⟩ v) :=
  h.move (fun i v h => by rw [World.cell?_setCell_other w _ _ _ (fun e => h0 (congrArg Addr.block e).symm)]; exact h)
theorem seenG_set6 {A : Nat} {v0 v1 v2 v3 v4 v5 : Value} (h0 : B ≠ A) (h : SeenG B k x0 x1 x2 n0 n1 n2 w) : SeenG B k x0 x1 x2 n0 n1 n2 ((((((w.setCell ⟨A, 0, none⟩ v0).setCell ⟨A, 1, none⟩ v1).setCell ⟨A, 2, none⟩ v2).setCell ⟨A, 3, none⟩ v3).setCell ⟨A, 4, none⟩ v4).setCell ⟨A, 5, none⟩ v5) := seenG_set h0 (seenG_set h0 (seenG_set h0 (seenG_set h0 (seenG_set h0 (seenG_set h0 h)))))
end
end
section
open Go.RowKit
set_option maxRecDepth 100000

/-- What hangs on the steps lies in other blocks than theirs, and than the chain's. -/
def okKK (B : Nat) (w : World) (u va : Value) (b o : Nat) : Prop := okM B w b o ∧ u.ownBlock ≠ some b ∧ va.ownBlock ≠ some b
theorem Holds.inb {w : World} {ok : Nat → Nat → Prop} {v : Value} {l : List Sh} (h : Holds cA w ok v l) : Holds cA w (fun b _ => b < w.heap.size) v l := by
  induction h with
  | nil a cap => exact .nil a cap
  | row b o cap subs u hn hok hr _ ih =>
    rcases Nat.eq_zero_or_pos subs.length with h0 | hpos
    · obtain rfl := List.length_eq_zero_iff.1 h0
      exact .nil _ _
    · exact .row b o cap subs u hn (World.block_lt_of_cell? w _ (hr 0 _ (List.getElem?_eq_getElem hpos) 0 _ rfl)) hr ih
theorem ORow.seen {w : World} {B n cap : Nat} {a : Option Addr} {ps : Prs} (h : ORow cA 72 w B (.slice a n cap) ps) : n = ps.length ∧ n ≤ cap ∧ ∀ b o, a = some ⟨b, o, none⟩ → b < w.heap.size := by
  rcases h.2 with ⟨e1, e0⟩ | ⟨g, c, cur, e1, hb, hg, hn, _⟩
  · injection e1 with e1 e2 e3
    subst e1 e2 e3
    exact ⟨e0.symm, Nat.le_refl _, fun b o e => by cases e⟩
  · injection e1 with e1 e2 e3
    subst e1 e2 e3
    exact ⟨rfl, hn, fun b o e => by cases e; exact (Array.getElem?_eq_some_iff.1 hg).1⟩
theorem neqSC : 65 ≠ 72 := by decide
/-- The end of a round: the step is put behind the others, the condition behind the chain. -/
theorem behind_round {B M : Nat} {w2 : World} {u va : Value} {qs : List SQ} {ps : Prs} {okc : Nat → Nat → Prop} {E : Nat} {ecs : Array Value} (hBM : B ≤ M) (hM : M ≤ w2.heap.size) (hu : RowD kS 65 w2 B u qs) (hum : ∀ k, u.ownBlock = some k → k < M) (hk : KidsD kS w2 (okKK B w2 u va) qs) (ha : ORow cA 72 w2 B va ps) (ham : ∀ k, va.ownBlock = some k → k < M)
    (hE : Blk w2 E 72 ecs) (q : SQ) (hq : kS.K w2 (okM M w2) q) (hd : Hd) (sb : List Sh) (vs : Value) (hs : Holds cA w2 okc vs sb) (hok : ∀ b o, okc b o → b < B) (hl : qs.length ≤ 200) (hl2 : ps.length ≤ 200) :
    ∃ a3 n3 c3 w3 a5 n5 c5 w5, (Builtin.append_ #[44, 44] 44 #[u, .slice (some ⟨w2.heap.size, 0, none⟩) 1 1]).run Tryz.prog (w2.alloc (.cells (arrS q.1.hd q.2.1 q.2.2) 65)) = .ok (.slice a3 n3 c3) w3 ∧ Blk w3 E 72 ecs ∧
      (Builtin.append_ #[31, 31] 31 #[va, .slice (some ⟨w3.heap.size, 0, none⟩) 1 1]).run Tryz.prog (w3.alloc (.cells (arrA hd vs) 72)) = .ok (.slice a5 n5 c5) w5 ∧
      RowD kS 65 w5 B (.slice a3 n3 c3) (qs ++ [q]) ∧ KidsD kS w5 (okKK B w5 (.slice a3 n3 c3) (.slice a5 n5 c5)) (qs ++ [q]) ∧ ORow cA 72 w5 B (.slice a5 n5 c5) (ps ++ [(.mk hd sb, vs)]) ∧ Kept (fun k => B ≤ k) w2 w5 := by
  have ka := (Kept.refl Nil w2).alloc (.cells (arrS q.1.hd q.2.1 q.2.2) 65)
  have hsa : (w2.alloc (.cells (arrS q.1.hd q.2.1 q.2.2) 65)).heap.size = w2.heap.size + 1 := by simp
  obtain ⟨u3, w3, r3, o3, k3, h3⟩ := RowD.append (P := Tryz.prog) (t := 44) (ok := okM M (w2.alloc (.cells (arrS q.1.hd q.2.1 q.2.2) 65))) elsS 44 (Kept.row ka hu (fun _ _ g => g)) (At.lit w2 65 (arrS q.1.hd q.2.1 q.2.2) _ (by rw [flatD_one]; rfl)) (KidsD.single (kS.move _ _ _ _ q hq (fun b _ _ _ _ hr => rangeAt_kept ka id hr) (fun b _ hb => hb.kept ka id))) (by simp; omega) (by rw [hsa]; omega)
  have k23 : Kept (fun k => u.ownBlock = some k) w2 w3 := (ka.mono (fun _ _ g => g.elim)).trans k3 (fun _ _ g => g)
  have hs23 := k23.size
  have ha3 : ORow cA 72 w3 B va ps := Kept.row k23 ha (fun g hg hf => by
    obtain ⟨_, cur, hc⟩ := ownsBlk ha g hg
    obtain ⟨_, cur2, hc2⟩ := ownsBlk hu g hf
    exact neqSC (blk_type hc2 hc))
  have hE3 : Blk w3 E 72 ecs := hE.kept k23 (fun hf => by
    obtain ⟨_, cur2, hc2⟩ := ownsBlk hu E hf
    exact neqSC (blk_type hc2 hE))
  have hs3 : Holds cA w3 okc vs sb := hs.kept k23 (fun b o hb hf => by have := (ownsBlk hu b hf).1; have := hok b o hb; omega)
  have ka5 := (Kept.refl Nil w3).alloc (.cells (arrA hd vs) 72)
  obtain ⟨v5, w5, r5, o5, k5, h5⟩ := ORow.append (P := Tryz.prog) (qs := [(.mk hd sb, vs)]) elsA kindA 31 (Kept.row ka5 ha3 (fun _ _ g => g)) (At.lit w3 72 (arrA hd vs) _ (by unfold flatC; simp [Sh.hd])) (fun p hp => by
    rw [List.mem_singleton] at hp; subst hp; exact hs3.keptN ka5) (by simp; omega) (by simp; omega)
  have k35 : Kept (fun k => va.ownBlock = some k) w3 w5 := (ka5.mono (fun _ _ g => g.elim)).trans k5 (fun _ _ g => g)
  obtain ⟨a3, n3, c3, rfl⟩ : ∃ a n c, u3 = .slice a n c := by obtain ⟨x, y, e, _⟩ := RowD.shape o3; exact ⟨x, _, y, e⟩
  obtain ⟨a5, n5, c5, rfl⟩ : ∃ a n c, v5 = .slice a n c := by obtain ⟨x, y, e⟩ := (At.own o5).shape; exact ⟨x, _, y, e⟩
  have hu5 : RowD kS 65 w5 B (.slice a3 n3 c3) (qs ++ [q]) := Kept.row k35 o3 (fun g hg hf => by
    obtain ⟨_, cur, hc⟩ := ownsBlk ha3 g hf
    obtain ⟨_, cur2, hc2⟩ := ownsBlk o3 g hg
    exact neqSC (blk_type hc2 hc))
  have own3 : ∀ b o, okM B w2 b o → u.ownBlock ≠ some b → (Value.slice a3 n3 c3).ownBlock ≠ some b := fun b o hb hne e => by
    rcases h3 with h3 | h3
    · rw [h3] at e; exact hne e
    · rw [h3] at e; cases e; have := hb.2.1; omega
  have own5 : ∀ b o, okM B w2 b o → va.ownBlock ≠ some b → (Value.slice a5 n5 c5).ownBlock ≠ some b := fun b o hb hne e => by
    rcases h5 with h5 | h5
    · rw [h5] at e; exact hne e
    · rw [h5] at e; cases e; have := hb.2.1; simp at this; omega
  have mv : ∀ x : SQ, kS.K w2 (okKK B w2 u va) x → kS.K w5 (okKK B w5 (.slice a3 n3 c3) (.slice a5 n5 c5)) x := fun x hx => kS.move _ _ _ _ x hx (fun b _ _ hb _ hr => rangeAt_kept k35 hb.2.2 (rangeAt_kept k23 hb.2.1 hr)) (fun b o hb => ⟨(hb.1.kept k23 hb.2.1).kept k35 hb.2.2, own3 b o hb.1 hb.2.1, own5 b o hb.1 hb.2.2⟩)
  refine ⟨a3, n3, c3, w3, a5, n5, c5, w5, r3, hE3, r5, hu5, fun x hx => ?_, o5, ?_⟩
  · rcases List.mem_append.1 hx with hx | hx
    · exact mv x (hk x hx)
    · rw [List.mem_singleton] at hx
      subst hx
      exact mv x (kS.mono hq fun b o hb => ⟨hb.less hBM, fun e => by have := hum b e; have := hb.1; omega, fun e => by have := ham b e; have := hb.1; omega⟩)
  · exact (k23.mono (fun k _ e => (ownsBlk hu k e).1)).trans (k35.mono (fun k _ e => (ownsBlk ha3 k e).1)) (fun _ _ g => g)
end
end
section
open Go.RowKit
set_option maxRecDepth 100000

theorem hitF_0 {h : Hd} {v : Int} (e0 : decide (true = h.x0 ∧ v = h.n0) = true) : hitF h v = 0 := by unfold hitF first3; rw [e0]; rfl
theorem hitF_1 {h : Hd} {v : Int} (e0 : decide (true = h.x0 ∧ v = h.n0) = false) (e1 : decide (true = h.x1 ∧ v = h.n1) = true) : hitF h v = 1 := by unfold hitF first3; rw [e0, e1]; rfl
theorem hitF_2 {h : Hd} {v : Int} (e0 : decide (true = h.x0 ∧ v = h.n0) = false) (e1 : decide (true = h.x1 ∧ v = h.n1) = false) (e2 : decide (true = h.x2 ∧ v = h.n2) = true) : hitF h v = 2 := by unfold hitF first3; rw [e0, e1, e2]; rfl
theorem hitF_no {h : Hd} {v : Int} (e0 : decide (true = h.x0 ∧ v = h.n0) = false) (e1 : decide (true = h.x1 ∧ v = h.n1) = false) (e2 : decide (true = h.x2 ∧ v = h.n2) = false) : hitF h v = -1 := by unfold hitF first3; rw [e0, e1, e2]; rfl
set_option maxHeartbeats 8000000 in
theorem refBound_any (l : List Sh) (hc : l.length ≤ 100) (v : Int) (ok : Nat → Nat → Prop) (a : Option Addr) (cap : Nat) (w : World) (h : Holds cR w ok (.slice a l.length cap) l) :
    Calls Tryz.prog 56 #[.slice a l.length cap, .int .i64 v] w (FpEnd l v w) := by
  obtain ⟨len, hlen⟩ : ∃ n, l.length = n := ⟨_, rfl⟩
  have HH := Lib.hid h
  rw [hlen] at HH hc ⊢
  have HL := Lib.hid hlen
  have P0 := Lib.hid (Blk.new w 114 zP)
  have K0 := Lib.hid ((Kept.refl Nil w).alloc (.cells zP 114))
  clear h hlen
  go_enter Tryz.func56, Tryz.ntmps56
  go_wp2_with fail
  go_loopw [6, 12] (fun bk i wr => ∃ j m : Nat, j ≤ len ∧ m ≤ j ∧ i = .int .i64 j ∧ bk = .int .i64 m ∧ fpL l v 0 = fpL (l.drop j) v m ∧ Blk wr w.heap.size 114 zP ∧ Kept Nil w wr) (fun _ i _ => len - (intOf i).toNat)
  case atStart => exact ⟨0, 0, by omega, by omega, rfl, rfl, rfl, P0.out, K0.out⟩
  case round =>
    rename World => wo
    obtain ⟨j, m, hj, hm, rfl, rfl, hf, hP, hK⟩ := hrel
    have HF := Lib.hid hf
    have HP := Lib.hid hP
    have HK := Lib.hid hK
    clear hf hP hK P0 K0
    by_cases hlt : j < len
    · obtain ⟨⟨⟨k', x0', x1', x2', n0', n1', n2'⟩, sb⟩, hx⟩ : ∃ x, l[j]? = some x := ⟨_, List.getElem?_eq_getElem (by have := HL.out; omega)⟩
      obtain ⟨b, o, a', cap', rfl, hok, hr, hs⟩ := (HH.out.keptN HK.out).at_ hx
      have HRng := Lib.hid hr
      have HD : Hid (fpL (l.drop j) v m = if k' = 1 then (if 0 ≤ hitF ⟨k', x0', x1', x2', n0', n1', n2'⟩ v then some (m, hitF ⟨k', x0', x1', x2', n0', n1', n2'⟩ v) else fpL (l.drop (j + 1)) v (m + 1)) else fpL (l.drop (j + 1)) v m) := Lib.hid (fpL_drop hx v m)
      generalize sb.length = len' at HRng
      clear hx hr hs hok
      by_cases hk1 : k' = 1
      · subst hk1
        have BY := Lib.hid (Blk.new wo 77 (arrR ⟨1, x0', x1', x2', n0', n1', n2'⟩ (.slice a' len' cap')))
        have KY := Lib.hid (HK.out.alloc (.cells (arrR ⟨1, x0', x1', x2', n0', n1', n2'⟩ (.slice a' len' cap')) 77))
        have PY := Lib.hid (HP.out.alloc (.cells (arrR ⟨1, x0', x1', x2', n0', n1', n2'⟩ (.slice a' len' cap')) 77))
        go_wp2_with ((with_reducible refine wpList_load_R rfl (.tmp 14) rfl _ _ rfl ⟨1, x0', x1', x2', n0', n1', n2'⟩ (.slice a' len' cap') ?_ ?_)
                     · exact HRng.out)
        go_loopw [9] (fun i wr => Blk wr wo.heap.size 77 (arrR ⟨1, x0', x1', x2', n0', n1', n2'⟩ (.slice a' len' cap')) ∧ Blk wr w.heap.size 114 zP ∧ Kept Nil w wr ∧ (i = .int .i64 0 ∨ (i = .int .i64 1 ∧ Hid (decide (true = x0' ∧ v = n0') = false)) ∨ (i = .int .i64 2 ∧ Hid (decide (true = x0' ∧ v = n0') = false) ∧ Hid (decide (true = x1' ∧ v = n1') = false)) ∨ (i = .int .i64 3 ∧ Hid (decide (true = x0' ∧ v = n0') = false) ∧ Hid (decide (true = x1' ∧ v = n1') = false) ∧ Hid (decide (true = x2' ∧ v = n2') = false)))) (fun i _ => (3 - intOf i).toNat)
        case atStart => exact ⟨BY.out, PY.out, KY.out, .inl rfl⟩
        case round =>
          obtain ⟨hb, hp, hkk, hi⟩ := hrel
          have HBk := Lib.hid hb
          have HPk := Lib.hid hp
          have HKk := Lib.hid hkk
          clear hb hp hkk BY KY PY HP
          rcases hi with rfl | ⟨rfl, g0⟩ | ⟨rfl, g0, g1⟩ | ⟨rfl, g0, g1, g2⟩
          · have e1 := HBk.out.cell 1
            have e2 := HBk.out.cell 2
            simp [isV] at e1 e2
            cases x0'
            · have G : Hid (decide (true = false ∧ v = n0') = false) := Lib.hid (by simp)
              simp at e1
              go_wp2_with fail
              go_roundw
              case rel => exact ⟨HBk.out, HPk.out, HKk.out, .inr (.inl ⟨rfl, G⟩)⟩
              case measure => decide
            · simp at e1
              by_cases hv : n0' = v
              · have hvb : (n0' == v) = true := by simpa using hv
                have HE : Hid (fpL l v 0 = some (m, 0)) := Lib.hid (by
                  rw [HF.out, HD.out, if_pos trivial, hitF_0 (h := ⟨1, _, _, _, _, _, _⟩)  (by simp [hv])]; rfl)
                have p0 := HPk.out.cell 0
                have p1 := HPk.out.cell 1
                have p2 := HPk.out.cell 2
                have f0 := HPk.out.frozen 0
                have f1 := HPk.out.frozen 1
                have f2 := HPk.out.frozen 2
                simp at p0 p1 p2
                go_wp2_with fail
                have BF : Blk (((wr.setCell ⟨w.heap.size, 0, none⟩ (.int .i64 v)).setCell ⟨w.heap.size, 1, none⟩ (.int .i64 (m : Int))).setCell ⟨w.heap.size, 2, none⟩ (.int .i64 0)) w.heap.size 114 #[.int .i64 v, .int .i64 (m : Int), .int .i64 0] := by
                  simpa using ((HPk.out.set_ 0 (.int .i64 v)).set_ 1 (.int .i64 (m : Int))).set_ 2 (.int .i64 0)
                refine bodyPost_ret (results_pair Tryz.results56 _ _ _ (.bool true) rfl rfl BF Tryz.underlying114 (by kernel_rfl)) rfl ⟨by rw [HE.out]; rfl, ?_⟩
                refine Kept.setCell (Kept.setCell (Kept.setCell HKk.out _ (.inr (Nat.le_refl _)) _) _ (.inr (Nat.le_refl _)) _) _ (.inr (Nat.le_refl _)) _
              · have hvb : (n0' == v) = false := by simpa using hv
                have G : Hid (decide (True ∧ v = n0') = false) := Lib.hid (by simp; exact fun e => hv e.symm)
                go_wp2_with fail
                go_roundw
                case rel => exact ⟨HBk.out, HPk.out, HKk.out, .inr (.inl ⟨rfl, G⟩)⟩
                case measure => decide
          · have e1 := HBk.out.cell 3
            have e2 := HBk.out.cell 4
            simp [isV] at e1 e2
            cases x1'
            · have G : Hid (decide (true = false ∧ v = n1') = false) := Lib.hid (by simp)
              simp at e1
              go_wp2_with fail
              go_roundw
              case rel => exact ⟨HBk.out, HPk.out, HKk.out, .inr (.inr (.inl ⟨rfl, g0, G⟩))⟩
              case measure => decide
            · simp at e1
              by_cases hv : n1' = v
              · have hvb : (n1' == v) = true := by simpa using hv
                have HE : Hid (fpL l v 0 = some (m, 1)) := Lib.hid (by
                  rw [HF.out, HD.out, if_pos trivial, hitF_1 (h := ⟨1, _, _, _, _, _, _⟩) g0.out (by simp [hv])]; rfl)
                have p0 := HPk.out.cell 0
                have p1 := HPk.out.cell 1
                have p2 := HPk.out.cell 2
                have f0 := HPk.out.frozen 0
                have f1 := HPk.out.frozen 1
                have f2 := HPk.out.frozen 2
                simp at p0 p1 p2
                go_wp2_with fail
                have BF : Blk (((wr.setCell ⟨w.heap.size, 0, none⟩ (.int .i64 v)).setCell ⟨w.heap.size, 1, none⟩ (.int .i64 (m : Int))).setCell ⟨w.heap.size, 2, none⟩ (.int .i64 1)) w.heap.size 114 #[.int .i64 v, .int .i64 (m : Int), .int .i64 1] := by
                  simpa using ((HPk.out.set_ 0 (.int .i64 v)).set_ 1 (.int .i64 (m : Int))).set_ 2 (.int .i64 1)
                refine bodyPost_ret (results_pair Tryz.results56 _ _ _ (.bool true) rfl rfl BF Tryz.underlying114 (by kernel_rfl)) rfl ⟨by rw [HE.out]; rfl, ?_⟩
                refine Kept.setCell (Kept.setCell (Kept.setCell HKk.out _ (.inr (Nat.le_refl _)) _) _ (.inr (Nat.le_refl _)) _) _ (.inr (Nat.le_refl _)) _
              · have hvb : (n1' == v) = false := by simpa using hv
                have G : Hid (decide (True ∧ v = n1') = false) := Lib.hid (by simp; exact fun e => hv e.symm)
                go_wp2_with fail
                go_roundw
                case rel => exact ⟨HBk.out, HPk.out, HKk.out, .inr (.inr (.inl ⟨rfl, g0, G⟩))⟩
                case measure => decide
          · have e1 := HBk.out.cell 5
            have e2 := HBk.out.cell 6
            simp [isV] at e1 e2
            cases x2'
            · have G : Hid (decide (true = false ∧ v = n2') = false) := Lib.hid (by simp)
              simp at e1
              go_wp2_with fail
              go_roundw
              case rel => exact ⟨HBk.out, HPk.out, HKk.out, .inr (.inr (.inr ⟨rfl, g0, g1, G⟩))⟩
              case measure => decide
            · simp at e1
              by_cases hv : n2' = v
              · have hvb : (n2' == v) = true := by simpa using hv
                have HE : Hid (fpL l v 0 = some (m, 2)) := Lib.hid (by
                  rw [HF.out, HD.out, if_pos trivial, hitF_2 (h := ⟨1, _, _, _, _, _, _⟩) g0.out g1.out (by simp [hv])]; rfl)
                have p0 := HPk.out.cell 0
                have p1 := HPk.out.cell 1
                have p2 := HPk.out.cell 2
                have f0 := HPk.out.frozen 0
                have f1 := HPk.out.frozen 1
                have f2 := HPk.out.frozen 2
                simp at p0 p1 p2
                go_wp2_with fail
                have BF : Blk (((wr.setCell ⟨w.heap.size, 0, none⟩ (.int .i64 v)).setCell ⟨w.heap.size, 1, none⟩ (.int .i64 (m : Int))).setCell ⟨w.heap.size, 2, none⟩ (.int .i64 2)) w.heap.size 114 #[.int .i64 v, .int .i64 (m : Int), .int .i64 2] := by
                  simpa using ((HPk.out.set_ 0 (.int .i64 v)).set_ 1 (.int .i64 (m : Int))).set_ 2 (.int .i64 2)
                refine bodyPost_ret (results_pair Tryz.results56 _ _ _ (.bool true) rfl rfl BF Tryz.underlying114 (by kernel_rfl)) rfl ⟨by rw [HE.out]; rfl, ?_⟩
                refine Kept.setCell (Kept.setCell (Kept.setCell HKk.out _ (.inr (Nat.le_refl _)) _) _ (.inr (Nat.le_refl _)) _) _ (.inr (Nat.le_refl _)) _
              · have hvb : (n2' == v) = false := by simpa using hv
                have G : Hid (decide (True ∧ v = n2') = false) := Lib.hid (by simp; exact fun e => hv e.symm)
                go_wp2_with fail
                go_roundw
                case rel => exact ⟨HBk.out, HPk.out, HKk.out, .inr (.inr (.inr ⟨rfl, g0, g1, G⟩))⟩
                case measure => decide
          · have HE : Hid (fpL l v 0 = fpL (l.drop (j + 1)) v (m + 1)) := Lib.hid (by
              rw [HF.out, HD.out, if_pos trivial, hitF_no (h := ⟨1, _, _, _, _, _, _⟩) g0.out g1.out g2.out, if_neg (by decide)])
            go_wp2_with fail
            go_roundw
            case rel => exact ⟨j + 1, m + 1, by omega, by omega, by go_num, by go_num, HE.out, HPk.out, HKk.out⟩
            case measure => simp [intOf]; omega
      · have hk1' : (k' != 1) = true := by simpa using hk1
        have HE : Hid (fpL l v 0 = fpL (l.drop (j + 1)) v m) := Lib.hid (by rw [HF.out, HD.out, if_neg hk1])
        go_wp2_with ((with_reducible refine wpList_load_R rfl (.tmp 14) rfl _ _ rfl ⟨k', x0', x1', x2', n0', n1', n2'⟩ (.slice a' len' cap') ?_ ?_)
                     · exact HRng.out)
        go_roundw
        case rel => exact ⟨j + 1, m, by omega, by omega, by go_num, by go_num, HE.out, HP.out.alloc _, HK.out.alloc _⟩
        case measure => simp [intOf]; omega
    · obtain rfl : j = len := by omega
      have HE : Hid (fpL l v 0 = none) := Lib.hid (by rw [HF.out, List.drop_eq_nil_of_le (by have := HL.out; omega)]; rfl)
      have p0 := HP.out.cell 0
      have p1 := HP.out.cell 1
      have p2 := HP.out.cell 2
      have f0 := HP.out.frozen 0
      have f1 := HP.out.frozen 1
      have f2 := HP.out.frozen 2
      simp at p0 p1 p2
      go_wp2_with fail
      have BF : Blk (((wo.setCell ⟨w.heap.size, 0, none⟩ (.int .i64 0)).setCell ⟨w.heap.size, 1, none⟩ (.int .i64 0)).setCell ⟨w.heap.size, 2, none⟩ (.int .i64 0)) w.heap.size 114 #[.int .i64 0, .int .i64 0, .int .i64 0] := by
        simpa using ((HP.out.set_ 0 (.int .i64 0)).set_ 1 (.int .i64 0)).set_ 2 (.int .i64 0)
      refine bodyPost_ret (results_pair Tryz.results56 _ _ _ (.bool false) rfl rfl BF Tryz.underlying114 (by kernel_rfl)) rfl ⟨by rw [HE.out]; rfl, ?_⟩
      refine Kept.setCell (Kept.setCell (Kept.setCell HK.out _ (.inr (Nat.le_refl _)) _) _ (.inr (Nat.le_refl _)) _) _ (.inr (Nat.le_refl _)) _
end
section
open Go.RowKit
set_option maxRecDepth 100000

/-- The reference's Of is the step of a condition behind a chain. -/
abbrev OfS (s : Sh) : Prop := ∀ (chl : List Sh) ok1 ok2 ac cc a cap w, Holds cR w ok1 (.slice ac chl.length cc) chl → Holds cR w ok2 (.slice a s.subs.length cap) s.subs → chl.length + s.count ≤ 100 → (∃ d, s.chk d = 0) →
  Calls Tryz.prog 21 #[.slice ac chl.length cc, vR s.hd (.slice a s.subs.length cap)] w (StEnd (s.st chl).hd (s.st chl).subs w)
set_option maxHeartbeats 8000000 in
theorem refCompile_of (hOf : ∀ s, OfS s) (l : List Sh) (hg : countL l ≤ 16 ∧ chkL l 1 = 0) (ok : Nat → Nat → Prop) (a : Option Addr) (cap : Nat) (w : World) (h : Holds cR w ok (.slice a l.length cap) l) :
    Calls Tryz.prog 7 #[.slice a l.length cap] w (StsEnd (stL l []) w) := by
  have HH := Lib.hid h
  have hfit := h.fits.2
  have hSL : (stL l []).length = l.length := stL_length l []
  obtain ⟨len, hlen⟩ : ∃ len, l.length = len := ⟨_, rfl⟩
  rw [hlen] at HH hSL hfit ⊢
  have HL := Lib.hid hlen
  have HSL := Lib.hid hSL
  have hLen : len ≤ 16 := by have := length_countL l; omega
  have hOf' := Lib.hid hOf
  have HG := Lib.hid hg
  clear h hlen hSL hOf hg
  go_enter Tryz.func7, Tryz.ntmps7
  go_wp2_with fail
  go_loopw [3, 8] (fun u i wr => ∃ (j : Nat) (ps : List SQ), j ≤ len ∧ i = .int .i64 j ∧ trS ps = stL (l.take j) [] ∧ GB kS 82 wr w.heap.size u ps ∧ Kept Nil w wr) (fun _ i _ => len - (intOf i).toNat)
  case atStart => exact ⟨0, [], by omega, rfl, by rw [List.take_zero, stL_nil]; rfl, GB.nil _, Kept.refl _ _⟩
  case round =>
    obtain ⟨j, ps, hj, rfl, hps, hG, hK⟩ := hrel
    have HGB := Lib.hid hG
    have HK := Lib.hid hK
    have HP := Lib.hid hps
    clear hG hps hK
    have hpl0 : ps.length = j := by have := congrArg List.length HP.out; rw [trS_len, stL_length, List.length_take] at this; have := HL.out; omega
    obtain ⟨au, cu, rfl, hcu⟩ := HGB.out.shape
    rw [hpl0] at HGB hcu ⊢
    by_cases hlt : j < len
    · obtain ⟨⟨⟨k', x0', x1', x2', n0', n1', n2'⟩, sb⟩, hx⟩ : ∃ x, l[j]? = some x := ⟨_, List.getElem?_eq_getElem (by have := HL.out; omega)⟩
      obtain ⟨b, o, a', cap', rfl, _, hr, hs⟩ := (HH.out.keptN HK.out).at_ hx
      have hljl : (l.take j).length = j := by rw [List.length_take]; have := HL.out; omega
      have hcm := count_mem (List.mem_of_getElem? hx)
      have HX : Hid (∀ W, Kept Nil wr W → Calls Tryz.prog 21 #[.slice (some ⟨b, o, none⟩) j cap, vR ⟨k', x0', x1', x2', n0', n1', n2'⟩ (.slice a' sb.length cap')] W (StEnd ((Sh.mk ⟨k', x0', x1', x2', n0', n1', n2'⟩ sb).st (l.take j)).hd ((Sh.mk ⟨k', x0', x1', x2', n0', n1', n2'⟩ sb).st (l.take j)).subs W)) := Lib.hid fun W kW => by
        have := hOf'.out (.mk ⟨k', x0', x1', x2', n0', n1', n2'⟩ sb) (l.take j) _ _ (some ⟨b, o, none⟩) cap a' cap' W (by rw [hljl]; exact (HH.out.first (by omega)).keptN (HK.out.trans kW (fun _ _ g => g))) (hs.keptN kW) (by have := HG.out.1; omega) ⟨1, chkL_all.1 HG.out.2 _ (List.mem_of_getElem? hx)⟩
        rw [hljl] at this
        exact this
      have HRow : Hid (wr.rangeAt b (o + j * 8) (cR ⟨k', x0', x1', x2', n0', n1', n2'⟩ (.slice a' sb.length cap'))) := Lib.hid hr
      have HN := Lib.hid (stL_take_succ (ch := []) hx)
      rw [List.nil_append] at HN
      unfold StEnd at HX
      generalize (Sh.mk ⟨k', x0', x1', x2', n0', n1', n2'⟩ sb).st (l.take j) = sj at HX HN
      obtain ⟨⟨jk, jk0, jk1, jk2, jts⟩, jsb⟩ := sj
      replace HX : Hid (∀ W, Kept Nil wr W → Calls Tryz.prog 21 #[.slice (some ⟨b, o, none⟩) j cap, vR ⟨k', x0', x1', x2', n0', n1', n2'⟩ (.slice a' sb.length cap')] W (fun e w' => ∃ t2 d2 a2 c2, e = .returned (vS ⟨jk, jk0, jk1, jk2, jts⟩ (.slice t2 jts.length d2) (.slice a2 jsb.length c2)) ∧ TsAt w' (okM W.heap.size w') (.slice t2 jts.length d2) jts ∧ SHolds w' (okM W.heap.size w') (.slice a2 jsb.length c2) jsb ∧ Kept Nil W w')) := HX
      clear hx hr hs hcm hljl
      generalize jts.length = tn' at HX
      generalize jsb.length = sn' at HX
      generalize sb.length = len' at HX HRow
      go_wp2_with ((with_reducible refine wpList_load_R rfl (.tmp 11) rfl _ _ rfl ⟨k', x0', x1', x2', n0', n1', n2'⟩ (.slice a' len' cap') ?_ ?_)
                   · exact HRow.out)
      obtain ⟨W1, hW1⟩ : ∃ W1, wr.alloc (.cells (arrR ⟨k', x0', x1', x2', n0', n1', n2'⟩ (.slice a' len' cap')) 77) = W1 := ⟨_, rfl⟩
      have KW : Kept Nil wr W1 := by rw [← hW1]; exact (Kept.refl Nil wr).alloc _
      have by0 : Blk W1 wr.heap.size 77 (arrR ⟨k', x0', x1', x2', n0', n1', n2'⟩ (.slice a' len' cap')) := by rw [← hW1]; exact Blk.new _ _ _
      rw [show wr.alloc (.cells #[.int .i64 k', .int .i64 (isV x0'), .int .i64 n0', .int .i64 (isV x1'), .int .i64 n1', .int .i64 (isV x2'), .int .i64 n2', .slice a' len' cap'] 77) = W1 from hW1]
      have KD := Lib.hid KW.drew
      have e0 := by0.cell 0
      have e1 := by0.cell 1
      have e2 := by0.cell 2
      have e3 := by0.cell 3
      have e4 := by0.cell 4
      have e5 := by0.cell 5
      have e6 := by0.cell 6
      have e7 := by0.cell 7
      simp at e0 e1 e2 e3 e4 e5 e6 e7
      have hj0 : (0 : Int) ≤ (j : Int) := by omega
      have hjl : (j : Int) ≤ (len : Int) := by omega
      have hjc : (j : Int) ≤ (cap : Int) := by omega
      have hjc2 : j ≤ cap := by omega
      have RND : ∀ t2 d2 a2 c2 w2, TsAt w2 (okM W1.drew.heap.size w2) (.slice t2 tn' d2) jts → SHolds w2 (okM W1.drew.heap.size w2) (.slice a2 sn' c2) jsb → Kept Nil W1.drew w2 → ∃ a3 n3 c3 w3, (Builtin.append_ #[35, 35] 35 #[.slice au j cu, .slice (some ⟨w2.heap.size, 0, none⟩) 1 1]).run Tryz.prog (w2.alloc (.cells (arrS ⟨jk, jk0, jk1, jk2, jts⟩ (.slice t2 tn' d2) (.slice a2 sn' c2)) 82)) = .ok (.slice a3 n3 c3) w3 ∧
          GB kS 82 w3 w.heap.size (.slice a3 n3 c3) (ps ++ [(.mk ⟨jk, jk0, jk1, jk2, jts⟩ jsb, .slice t2 tn' d2, .slice a2 sn' c2)]) ∧ Kept Nil w w3 := fun t2 d2 a2 c2 w2 h1 h2 k2 => by
        have k02 : Kept Nil wr w2 := KD.out.trans k2 (fun _ _ g => g)
        have hsz := HK.out.size
        have hs0 := KD.out.size
        have hs2 := k2.size
        have hq : kS.K w2 (okN w.heap.size w2 (.slice au j cu)) (St.mk ⟨jk, jk0, jk1, jk2, jts⟩ jsb, .slice t2 tn' d2, .slice a2 sn' c2) := kS.mono (ok := okM W1.drew.heap.size w2) ⟨h1, h2⟩ (fun b' o' hb' => ⟨hb'.less (by omega), fun eo => by have := HGB.out.lt b' eo; have := hb'.1; omega⟩)
        obtain ⟨a3, n3, c3, w3, r3, g3, k3⟩ := GB.append_one (P := Tryz.prog) (t := 35) elsQ 35 (HGB.out.kept k02) (St.mk ⟨jk, jk0, jk1, jk2, jts⟩ jsb, .slice t2 tn' d2, .slice a2 sn' c2) (arrS ⟨jk, jk0, jk1, jk2, jts⟩ (.slice t2 tn' d2) (.slice a2 sn' c2)) rfl 82 hq (by omega) (by omega)
        exact ⟨a3, n3, c3, w3, r3, g3, (HK.out.trans k02 (fun _ _ g => g)).trans k3 (fun i hi e => by have := HGB.out.base i e; omega)⟩
      have HF := Lib.hid RND
      clear hW1 KW by0 RND
      go_region_law (first
        | (refine step_append_run rfl (.tmp 13) (.tmp 19) 35 rfl _ _ rfl rfl r3 ?_)
        | (go_simp; go_at_call 21; refine (HX.out _ KD.out).mono ?_; rintro e w2 ⟨t2, d2, a2, c2, rfl, h1, h2, k2⟩; obtain ⟨a3, n3, c3, w3, r3, G3, K3⟩ := HF.out t2 d2 a2 c2 w2 h1 h2 k2; have G3' := Lib.hid G3; have K3' := Lib.hid K3; clear G3 K3 h1 h2 k2))
      all_goals
        go_wp2_with fail
        go_roundw
        case rel =>
          refine ⟨j + 1, ps ++ [(.mk ⟨jk, jk0, jk1, jk2, jts⟩ jsb, .slice t2 tn' d2, .slice a2 sn' c2)], by omega, by go_num, ?_, G3'.out, K3'.out⟩
          rw [trS_append, HP.out, HN.out]; rfl
        case measure => simp [intOf]; omega
    · obtain rfl : len = j := by omega
      have HE : Hid (trS ps = stL l []) := Lib.hid (by rw [HP.out, ← HL.out]; simp)
      go_wp2_with fail
      go_ret
      have hh := HGB.out.sholds
      rw [HE.out] at hh
      exact ⟨au, cu, by rw [HSL.out]; rfl, by rw [HSL.out]; exact hh, HK.out⟩
end
end Go.Proofs.YtljefbfjehblpaaGreat
