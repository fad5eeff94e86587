/- Layer comp: plain mathematics of the steps of conditions: what they are, that they are right, that what stands behind changes nothing. – Layer comp: key.Of: the key of terms. – Layer comp: slices.Index of three terms by themselves. – Layer comp: the program's closures that tell where a variable is bound. – Layer comp: the program's tests of terms. – Layer comp: slices.Clone of conditions, however many. – Layer comp: the program's stepBehind, given stepsBehind of its Subs. – Layer comp: the program's stepBehind of a Pos and a Neg. – Layer comp: the program's stepsBehind; both, for all conditions. -/
import Derived.Test.YtoceogbanlmnoaaGA
import Derived.Test.YtoceogbanlmnoaaEBound
import Derived.Test.YtoceogbanlmnoaaGB
import Derived.Test.YtoceogbanlmnoaaEIndex
import Derived.Test.YtoceogbanlmnoaaGE
import Derived.Test.YtoceogbanlmnoaaERows
import Derived.Lib.SliceRun
namespace Go.Proofs.Ytoceogbanlmnoaa
section
open Go.RowKit
set_option maxRecDepth 100000

/-- The test of each field, behind a chain. -/
def tst0 (ch : List Sh) (h : Hd) : List Tst := if h.x0 = true then (match fpL ch h.n0 0 with | some (b, g) => [(0, (b : Int), g)] | none => []) else []
def tst1 (ch : List Sh) (h : Hd) : List Tst := if h.x1 = true then (match fpL ch h.n1 0 with | some (b, g) => [(1, (b : Int), g)] | none => if h.x0 = true ∧ h.n1 = h.n0 then [(1, -1, 0)] else []) else []
def tst2 (ch : List Sh) (h : Hd) : List Tst := if h.x2 = true then (match fpL ch h.n2 0 with | some (b, g) => [(2, (b : Int), g)] | none => if h.x0 = true ∧ h.n2 = h.n0 then [(2, -1, 0)] else if h.x1 = true ∧ h.n2 = h.n1 then [(2, -1, 1)] else []) else []
def tstL (ch : List Sh) (h : Hd) : List Tst := tst0 ch h ++ tst1 ch h ++ tst2 ch h
/-- The key's field of a term. -/
def kF (v : Bool) (n : Int) : Int := if v then 0 else n
mutual
/-- The step of a condition, behind a chain; of conditions, each behind those ahead of it. -/
def Sh.st : Sh → List Sh → St
  | .mk h l, ch => if h.k = 3 then .mk ⟨h.k, 0, 0, 0, []⟩ (stL l ch) else .mk ⟨h.k, kF h.x0 h.n0, kF h.x1 h.n1, kF h.x2 h.n2, tstL ch h⟩ []
def stL : List Sh → List Sh → List St
  | [], _ => []
  | c :: r, ch => c.st ch :: stL r (ch ++ [c])
end
theorem st_mk (h : Hd) (l ch : List Sh) : (Sh.mk h l).st ch = if h.k = 3 then .mk ⟨h.k, 0, 0, 0, []⟩ (stL l ch) else .mk ⟨h.k, kF h.x0 h.n0, kF h.x1 h.n1, kF h.x2 h.n2, tstL ch h⟩ [] := by rw [Sh.st]
theorem stL_nil (ch : List Sh) : stL [] ch = [] := by rw [stL]
theorem stL_cons (c : Sh) (r ch : List Sh) : stL (c :: r) ch = c.st ch :: stL r (ch ++ [c]) := by rw [stL]
theorem stL_length : ∀ l ch : List Sh, (stL l ch).length = l.length
  | [], ch => by rw [stL_nil]; rfl
  | c :: r, ch => by rw [stL_cons, List.length_cons, List.length_cons, stL_length r]
theorem stL_get : ∀ (l ch : List Sh) (i : Nat) (c : Sh), l[i]? = some c → (stL l ch)[i]? = some (c.st (ch ++ l.take i))
  | [], ch, i, c, h => by simp at h
  | x :: r, ch, 0, c, h => by
    simp only [List.getElem?_cons_zero, Option.some.injEq] at h
    subst h
    rw [stL_cons, List.take_zero, List.append_nil]
    rfl
  | x :: r, ch, i + 1, c, h => by
    rw [stL_cons, List.getElem?_cons_succ, List.take_succ_cons, stL_get r (ch ++ [x]) i c (by simpa using h)]
    simp
theorem stL_take : ∀ (l ch : List Sh) (n : Nat), stL (l.take n) ch = (stL l ch).take n
  | [], ch, n => by simp [stL_nil]
  | x :: r, ch, 0 => by simp [stL_nil]
  | x :: r, ch, n + 1 => by rw [List.take_succ_cons, stL_cons, stL_cons, List.take_succ_cons, stL_take r]
theorem stL_take_succ {l ch : List Sh} {j : Nat} {c : Sh} (h : l[j]? = some c) : stL (l.take (j + 1)) ch = stL (l.take j) ch ++ [c.st (ch ++ l.take j)] := by
  rw [stL_take, stL_take, List.take_add_one, stL_get l ch j c h]
  rfl
theorem st_kind (c : Sh) (ch : List Sh) : (c.st ch).hd.k = c.hd.k := by
  cases c with
  | mk h l => rw [st_mk]; split <;> rfl

/-! ### How many -/
theorem st_cnt : (∀ (s : Sh) (ch : List Sh), (s.st ch).cnt ≤ s.count) ∧ ∀ (l ch : List Sh), cntL (stL l ch) ≤ countL l := by
  refine Sh.ind2 (fun hd subs ih ch => ?_) (fun ch => by simp [stL_nil, cntL, countL]) (fun a l ha hl ch => ?_)
  · rw [st_mk, Sh.count]
    split
    · rw [St.cnt]; have := ih ch; omega
    · rw [St.cnt]; simp [cntL]
  · rw [stL_cons, cntL, countL]
    have := ha ch
    have := hl (ch ++ [a])
    omega
theorem tst_len (ch : List Sh) (h : Hd) : (tst0 ch h).length ≤ 1 ∧ (tst1 ch h).length ≤ 1 ∧ (tst2 ch h).length ≤ 1 := by
  refine ⟨?_, ?_, ?_⟩
  · unfold tst0; repeat' split
    all_goals simp
  · unfold tst1; repeat' split
    all_goals simp
  · unfold tst2; repeat' split
    all_goals simp
theorem tstL_len (ch : List Sh) (h : Hd) : (tstL ch h).length ≤ 3 := by
  have := tst_len ch h
  unfold tstL
  rw [List.length_append, List.length_append]; omega
theorem st_mass : (∀ (s : Sh) (ch : List Sh), (s.st ch).mass ≤ 4 * s.count) ∧ ∀ (l ch : List Sh), massL (stL l ch) ≤ 4 * countL l := by
  refine Sh.ind2 (fun hd subs ih ch => ?_) (fun ch => by simp [stL_nil, massL, countL]) (fun a l ha hl ch => ?_)
  · rw [st_mk, Sh.count]
    split
    · rw [St.mass]; have := ih ch; simp; omega
    · rw [St.mass]; have := tstL_len ch hd; simp [massL]; omega
  · rw [stL_cons, massL, countL]
    have := ha ch
    have := hl (ch ++ [a])
    omega

/-! ### What is compiled is right -/
theorem fpL_range : ∀ (l : List Sh) (v : Int) (back b : Nat) (f : Int), fpL l v back = some (b, f) → back ≤ b ∧ b < back + l.length ∧ 0 ≤ f ∧ f ≤ 2
  | [], v, back, b, f, h => by simp [fpL] at h
  | s :: r, v, back, b, f, h => by
    simp only [fpL] at h
    rw [List.length_cons]
    split at h
    · split at h
      · rename_i h2
        cases h
        exact ⟨Nat.le_refl _, by omega, h2, (hitF_le s.hd v).1⟩
      · have := fpL_range r v (back + 1) b f h; omega
    · have := fpL_range r v back b f h; omega
theorem tOK_of {a b c : Int} (h : (0 ≤ a ∧ a ≤ 2) ∧ (-1 ≤ b ∧ b ≤ 15) ∧ (0 ≤ c ∧ c ≤ 2) ∧ (b = -1 → c < a)) : tOK (a, b, c) = true := by unfold tOK; exact decide_eq_true h
theorem tst0_cases (ch : List Sh) (h : Hd) (hc : ch.length ≤ 15) : tst0 ch h = [] ∨ ∃ b c, tst0 ch h = [(0, b, c)] ∧ tOK (0, b, c) = true := by
  unfold tst0
  split
  · cases hf : fpL ch h.n0 0 with
    | none => exact .inl rfl
    | some q =>
      obtain ⟨b, g⟩ := q
      have := fpL_range ch h.n0 0 b g hf
      exact .inr ⟨b, g, rfl, tOK_of (by omega)⟩
  · exact .inl rfl
theorem tst1_cases (ch : List Sh) (h : Hd) (hc : ch.length ≤ 15) : tst1 ch h = [] ∨ ∃ b c, tst1 ch h = [(1, b, c)] ∧ tOK (1, b, c) = true := by
  unfold tst1
  split
  · cases hf : fpL ch h.n1 0 with
    | none =>
      show (if _ then _ else _) = [] ∨ _
      split
      · exact .inr ⟨-1, 0, rfl, tOK_of (by omega)⟩
      · exact .inl rfl
    | some q =>
      obtain ⟨b, g⟩ := q
      have := fpL_range ch h.n1 0 b g hf
      exact .inr ⟨b, g, rfl, tOK_of (by omega)⟩
  · exact .inl rfl
theorem tst2_cases (ch : List Sh) (h : Hd) (hc : ch.length ≤ 15) : tst2 ch h = [] ∨ ∃ b c, tst2 ch h = [(2, b, c)] ∧ tOK (2, b, c) = true := by
  unfold tst2
  split
  · cases hf : fpL ch h.n2 0 with
    | none =>
      show (if _ then _ else _) = [] ∨ _
      split
      · exact .inr ⟨-1, 0, rfl, tOK_of (by omega)⟩
      · split
        · exact .inr ⟨-1, 1, rfl, tOK_of (by omega)⟩
        · exact .inl rfl
    | some q =>
      obtain ⟨b, g⟩ := q
      have := fpL_range ch h.n2 0 b g hf
      exact .inr ⟨b, g, rfl, tOK_of (by omega)⟩
  · exact .inl rfl
theorem tstL_ok (ch : List Sh) (h : Hd) (hc : ch.length ≤ 15) : tsOK (-1) (tstL ch h) = true := by
  unfold tstL
  rcases tst0_cases ch h hc with e0 | ⟨a0, b0, e0, o0⟩ <;> rcases tst1_cases ch h hc with e1 | ⟨a1, b1, e1, o1⟩ <;> rcases tst2_cases ch h hc with e2 | ⟨a2, b2, e2, o2⟩ <;> rw [e0, e1, e2] <;> simp [tsOK, *]
theorem kF_ok {v : Bool} {n : Int} (h : okTm v n = true) : okK (kF v n) = true := by
  unfold kF okK
  cases v
  · have := okTm_sym.1 h; exact decide_eq_true (by simp; omega)
  · exact decide_eq_true (by simp)
theorem chk_fine {hd : Hd} {subs : List Sh} {d : Int} (h : (Sh.mk hd subs).chk d = 0) (hk : hd.k ≠ 3) : (hd.k = 1 ∨ hd.k = 2) ∧ hd.fine = true ∧ subs = [] ∧ d ≤ 3 := by
  simp only [Sh.chk] at h
  by_cases h3 : 3 < d
  · rw [if_pos h3] at h; omega
  · rw [if_neg h3, if_neg hk] at h
    by_cases hk2 : hd.k = 1 ∨ hd.k = 2
    · rw [if_pos hk2] at h
      by_cases hf : hd.fine = false
      · rw [if_pos hf] at h; omega
      · rw [if_neg hf] at h
        by_cases hl : 0 < subs.length
        · rw [if_pos hl] at h; omega
        · exact ⟨hk2, by simpa using hf, List.length_eq_zero_iff.1 (by omega), by omega⟩
    · rw [if_neg hk2] at h; omega
theorem chk_depth {hd : Hd} {subs : List Sh} {d : Int} (h : (Sh.mk hd subs).chk d = 0) : d ≤ 3 := by
  simp only [Sh.chk] at h
  by_cases h3 : 3 < d
  · rw [if_pos h3] at h; omega
  · omega
theorem fine_all {hd : Hd} (h : hd.fine = true) : okTm hd.x0 hd.n0 = true ∧ okTm hd.x1 hd.n1 = true ∧ okTm hd.x2 hd.n2 = true := by
  unfold Hd.fine fine at h
  simp only [Bool.and_eq_true] at h
  exact ⟨h.1.1, h.1.2, h.2⟩
theorem st_pAt : (∀ (s : Sh) (d : Int) (ch : List Sh), s.chk d = 0 → ch.length + s.count ≤ 16 → (s.st ch).pAt d = true) ∧ ∀ (l : List Sh) (d : Int) (ch : List Sh), chkL l d = 0 → ch.length + countL l ≤ 16 → pLAt (stL l ch) d = true := by
  refine Sh.ind2 (fun hd subs ih d ch h hc => ?_) (fun d ch _ _ => by rw [stL_nil]; rfl) (fun a l ha hl d ch h hc => ?_)
  · rw [Sh.count] at hc
    have hd3 := chk_depth h
    rw [st_mk]
    by_cases hk : hd.k = 3
    · rw [if_pos hk]
      rcases chk_zero h with ⟨_, hne, hs⟩ | ⟨hk2, _⟩
      · have hlen := length_countL subs
        have hne' : subs ≠ [] := hne
        have hl0 : 0 < subs.length := List.length_pos_iff.2 hne'
        simp only [St.pAt]
        rw [if_neg (by omega), if_pos hk, ih (d + 1) ch hs (by omega), stL_length, decide_eq_true (by omega : subs.length ≠ 0 ∧ subs.length < 16)]
        rfl
      · have : hd.k = 1 ∨ hd.k = 2 := hk2
        omega
    · rw [if_neg hk]
      obtain ⟨hk2, hf, rfl, _⟩ := chk_fine h hk
      obtain ⟨f0, f1, f2⟩ := fine_all hf
      simp only [St.pAt]
      rw [if_neg (by omega), if_neg hk, if_pos hk2, tstL_ok ch hd (by omega)]
      unfold okK3
      rw [kF_ok f0, kF_ok f1, kF_ok f2]
      rfl
  · obtain ⟨h1, h2⟩ := (chkL_cons _ _ _).1 h
    rw [countL] at hc
    rw [stL_cons]
    simp only [pLAt]
    have := count_pos a
    rw [ha d ch h1 (by omega), hl d (ch ++ [a]) h2 (by rw [List.length_append]; simp; omega)]
    rfl
theorem st_right {s : Sh} {ch : List Sh} (h : s.chk 1 = 0) (hc : ch.length + s.count ≤ 16) : (s.st ch).right = true := by
  unfold St.right
  rw [st_pAt.1 s 1 ch h hc, decide_eq_true (by have := st_cnt.1 s ch; omega : (s.st ch).cnt ≤ 16)]
  rfl
theorem stL_right {l ch : List Sh} (h : chkL l 1 = 0) (hc : ch.length + countL l ≤ 16) : ∀ x ∈ stL l ch, x.right = true := by
  intro x hx
  obtain ⟨i, hi⟩ := List.getElem?_of_mem hx
  have hil : i < l.length := by have := (List.getElem?_eq_some_iff.1 hi).1; rwa [stL_length] at this
  have hg : l[i]? = some l[i] := List.getElem?_eq_getElem hil
  rw [stL_get l ch i _ hg] at hi
  cases hi
  have h1 := countL_take_succ hg
  have h2 := countL_take_le l (i + 1)
  have h3 := length_countL (l.take i)
  refine st_right (chkL_all.1 h _ (List.getElem_mem _)) ?_
  rw [List.length_append]
  omega
end
section
open Go.RowKit
set_option maxRecDepth 100000

/-- Three blocks of a call: what came in, the result's, the variable's. -/
structure Acc3 (tb t : TypeId) (w : World) (lc zc oc : Array Value) (W : World) : Prop where
  kept : Kept Nil w W
  b0 : Blk W w.heap.size tb lc
  b1 : Blk W (w.heap.size + 1) t zc
  b2 : Blk W (w.heap.size + 1 + 1) t oc
theorem Acc3.start (tb t : TypeId) (w : World) (lc zc oc : Array Value) : Acc3 tb t w lc zc oc (((w.alloc (.cells lc tb)).alloc (.cells zc t)).alloc (.cells oc t)) := by
  refine ⟨(((Kept.refl Nil w).alloc _).alloc _).alloc _, ((Blk.new w _ _).alloc _).alloc _, ?_, ?_⟩
  · have := (Blk.new (w.alloc (.cells lc tb)) t zc).alloc (.cells oc t)
    simpa using this
  · have := Blk.new ((w.alloc (.cells lc tb)).alloc (.cells zc t)) t oc
    simpa using this
section
variable {tb t : TypeId} {w W W' : World} {lc zc oc : Array Value}
theorem Acc3.alloc (h : Acc3 tb t w lc zc oc W) (o : Obj) : Acc3 tb t w lc zc oc (W.alloc o) := ⟨h.kept.alloc o, h.b0.alloc o, h.b1.alloc o, h.b2.alloc o⟩
theorem Acc3.step (h : Acc3 tb t w lc zc oc W) (k : Kept Nil W W') : Acc3 tb t w lc zc oc W' := ⟨h.kept.trans k (fun _ _ g => g), h.b0.kept k id, h.b1.kept k id, h.b2.kept k id⟩
theorem Acc3.set_ (h : Acc3 tb t w lc zc oc W) (i : Nat) (v : Value) : Acc3 tb t w lc zc (oc.setIfInBounds i v) (W.setCell ⟨w.heap.size + 1 + 1, i, none⟩ v) :=
  ⟨h.kept.setCell _ (.inr (by show _ ≤ w.heap.size + 1 + 1; omega)) _, h.b0.far (by show _ ≠ w.heap.size + 1 + 1; omega) _, h.b1.far (by show _ ≠ w.heap.size + 1 + 1; omega) _, h.b2.set_ i v⟩
end
abbrev c3 (x y z : Int) : Array Value := #[.int .i64 x, .int .i64 y, .int .i64 z]

theorem Acc3.facts {tb t : TypeId} {w W : World} {lc : Array Value} {x y z : Int} (h : Acc3 tb t w lc (c3 0 0 0) (c3 x y z) W) :
    (W.cell? ⟨w.heap.size + 1, 0, none⟩ = some (.int .i64 0) ∧ W.cell? ⟨w.heap.size + 1, 1, none⟩ = some (.int .i64 0) ∧ W.cell? ⟨w.heap.size + 1, 2, none⟩ = some (.int .i64 0)) ∧
    (W.frozen? ⟨w.heap.size + 1, 0, none⟩ = false ∧ W.frozen? ⟨w.heap.size + 1, 1, none⟩ = false ∧ W.frozen? ⟨w.heap.size + 1, 2, none⟩ = false) ∧
    (W.cell? ⟨w.heap.size + 1 + 1, 0, none⟩ = some (.int .i64 x) ∧ W.cell? ⟨w.heap.size + 1 + 1, 1, none⟩ = some (.int .i64 y) ∧ W.cell? ⟨w.heap.size + 1 + 1, 2, none⟩ = some (.int .i64 z)) ∧
    (W.frozen? ⟨w.heap.size + 1 + 1, 0, none⟩ = false ∧ W.frozen? ⟨w.heap.size + 1 + 1, 1, none⟩ = false ∧ W.frozen? ⟨w.heap.size + 1 + 1, 2, none⟩ = false) :=
  ⟨⟨h.b1.cell 0, h.b1.cell 1, h.b1.cell 2⟩, ⟨h.b1.frozen 0, h.b1.frozen 1, h.b1.frozen 2⟩, ⟨h.b2.cell 0, h.b2.cell 1, h.b2.cell 2⟩, ⟨h.b2.frozen 0, h.b2.frozen 1, h.b2.frozen 2⟩⟩
theorem Acc3.done {tb t : TypeId} {w W : World} {lc zc oc : Array Value} (h : Acc3 tb t w lc zc oc W) (u v x : Value) : Kept Nil w (((W.setCell ⟨w.heap.size + 1, 0, none⟩ u).setCell ⟨w.heap.size + 1, 1, none⟩ v).setCell ⟨w.heap.size + 1, 2, none⟩ x) :=
  ((h.kept.setCell _ (.inr (Nat.le_succ _)) _).setCell _ (.inr (Nat.le_succ _)) _).setCell _ (.inr (Nat.le_succ _)) _
set_option maxHeartbeats 1000000 in
theorem keyOf_any (x0 x1 x2 : Bool) (n0 n1 n2 : Int) (w : World) :
    Calls Try.prog 58 #[valL x0 x1 x2 n0 n1 n2] w fun e w' => e = .returned (.agg #[.int .i64 (kF x0 n0), .int .i64 (kF x1 n1), .int .i64 (kF x2 n2)]) ∧ Kept Nil w w' := by
  obtain ⟨i0, i1, i2⟩ := idxL3 x0 x1 x2 n0 n1 n2
  have A0 := Lib.hid (Acc3.start 25 39 w #[.bool x0, .int .i64 n0, .bool x1, .int .i64 n1, .bool x2, .int .i64 n2] (c3 0 0 0) (c3 0 0 0))
  go_enter Try.func58, Try.ntmps58
  go_wp2_with fail
  go_loopw [7] (fun i wr => (i = .int .i64 0 ∧ Acc3 25 39 w #[.bool x0, .int .i64 n0, .bool x1, .int .i64 n1, .bool x2, .int .i64 n2] (c3 0 0 0) (c3 0 0 0) wr)
    ∨ (i = .int .i64 1 ∧ Acc3 25 39 w #[.bool x0, .int .i64 n0, .bool x1, .int .i64 n1, .bool x2, .int .i64 n2] (c3 0 0 0) (c3 (kF x0 n0) 0 0) wr)
    ∨ (i = .int .i64 2 ∧ Acc3 25 39 w #[.bool x0, .int .i64 n0, .bool x1, .int .i64 n1, .bool x2, .int .i64 n2] (c3 0 0 0) (c3 (kF x0 n0) (kF x1 n1) 0) wr)
    ∨ (i = .int .i64 3 ∧ Acc3 25 39 w #[.bool x0, .int .i64 n0, .bool x1, .int .i64 n1, .bool x2, .int .i64 n2] (c3 0 0 0) (c3 (kF x0 n0) (kF x1 n1) (kF x2 n2)) wr)) (fun i _ => (3 - intOf i).toNat)
  case atStart => exact .inl ⟨rfl, A0.out⟩
  case round =>
    rcases hrel with ⟨rfl, h⟩ | ⟨rfl, h⟩ | ⟨rfl, h⟩ | ⟨rfl, h⟩
    · have H := Lib.hid h
      obtain ⟨_, _, ⟨q0, q1, q2⟩, f0, f1, f2⟩ := h.facts
      have hl : w.heap.size + 1 + 1 < wr.heap.size := h.b2.lt
      clear h A0
      cases x0
      · go_wp2_with fail
        go_roundw
        case rel => exact .inr (.inl ⟨rfl, (H.out.set_ 0 (.int .i64 n0)).alloc _⟩)
        case measure => decide
      · go_wp2_with fail
        go_roundw
        case rel => exact .inr (.inl ⟨rfl, H.out.alloc _⟩)
        case measure => decide
    · have H := Lib.hid h
      obtain ⟨_, _, ⟨q0, q1, q2⟩, f0, f1, f2⟩ := h.facts
      have hl : w.heap.size + 1 + 1 < wr.heap.size := h.b2.lt
      clear h A0
      cases x1
      · go_wp2_with fail
        go_roundw
        case rel => exact .inr (.inr (.inl ⟨rfl, (H.out.set_ 1 (.int .i64 n1)).alloc _⟩))
        case measure => decide
      · go_wp2_with fail
        go_roundw
        case rel => exact .inr (.inr (.inl ⟨rfl, H.out.alloc _⟩))
        case measure => decide
    · have H := Lib.hid h
      obtain ⟨_, _, ⟨q0, q1, q2⟩, f0, f1, f2⟩ := h.facts
      have hl : w.heap.size + 1 + 1 < wr.heap.size := h.b2.lt
      clear h A0
      cases x2
      · go_wp2_with fail
        go_roundw
        case rel => exact .inr (.inr (.inr (⟨rfl, (H.out.set_ 2 (.int .i64 n2)).alloc _⟩)))
        case measure => decide
      · go_wp2_with fail
        go_roundw
        case rel => exact .inr (.inr (.inr (⟨rfl, H.out.alloc _⟩)))
        case measure => decide
    · have H := Lib.hid h
      obtain ⟨⟨q0, q1, q2⟩, ⟨f0, f1, f2⟩, ⟨v0, v1, v2⟩, _, _, _⟩ := h.facts
      have hl : w.heap.size + 1 + 1 < wr.heap.size := h.b2.lt
      clear h A0
      go_wp2_with fail
      refine bodyPost_ret (v := .agg #[.int .i64 (kF x0 n0), .int .i64 (kF x1 n1), .int .i64 (kF x2 n2)]) (by simp [results, Try.results58, go_sem, q0, q1, q2]) rfl ⟨rfl, H.out.done _ _ _⟩
end
section
open Go.RowKit
set_option maxRecDepth 100000

set_option maxHeartbeats 1000000 in
theorem indexT_any (x0 x1 x2 : Bool) (n0 n1 n2 : Int) (v : Int) (G : Nat) (w : World) (h : Blk w G 25 #[.bool x0, .int .i64 n0, .bool x1, .int .i64 n1, .bool x2, .int .i64 n2]) :
    Calls Try.prog 70 #[.slice (some ⟨G, 0, none⟩) 3 3, .agg #[.bool true, .int .i64 v]] w fun e w' => e = .returned (.int .i64 (first3 (decide (true = x0 ∧ v = n0)) (decide (true = x1 ∧ v = n1)) (decide (true = x2 ∧ v = n2)))) ∧ Kept Nil w w' := by
  generalize hb0 : decide (true = x0 ∧ v = n0) = b0
  generalize hb1 : decide (true = x1 ∧ v = n1) = b1
  generalize hb2 : decide (true = x2 ∧ v = n2) = b2
  have E0 := Lib.hid (fun W => eqlTm true x0 v n0 b0 hb0 W)
  have E1 := Lib.hid (fun W => eqlTm true x1 v n1 b1 hb1 W)
  have E2 := Lib.hid (fun W => eqlTm true x2 v n2 b2 hb2 W)
  clear hb0 hb1 hb2
  have B0 := Lib.hid (h.alloc (.cells #[.bool true, .int .i64 v] 24))
  have B1 := Lib.hid (Blk.new w 24 #[.bool true, .int .i64 v])
  have K0 := Lib.hid ((Kept.refl Nil w).alloc (.cells #[.bool true, .int .i64 v] 24))
  clear h
  go_enter Try.func70, Try.ntmps70
  go_wp2_with fail
  go_loopw [5, 8] (fun _ i wr => ((i = .int .i64 0) ∨ (i = .int .i64 1 ∧ b0 = false) ∨ (i = .int .i64 2 ∧ b0 = false ∧ b1 = false) ∨ (i = .int .i64 3 ∧ b0 = false ∧ b1 = false ∧ b2 = false)) ∧ Blk wr G 25 #[.bool x0, .int .i64 n0, .bool x1, .int .i64 n1, .bool x2, .int .i64 n2] ∧ Blk wr w.heap.size 24 #[.bool true, .int .i64 v] ∧ Kept Nil w wr) (fun _ i _ => (3 - intOf i).toNat)
  case atStart => exact ⟨.inl rfl, B0.out, B1.out, K0.out⟩
  case round =>
    obtain ⟨hrel, hB, hB1, hK⟩ := hrel
    have HB := Lib.hid hB
    have HB1 := Lib.hid hB1
    have HK := Lib.hid hK
    have z0 := hB1.cell 0
    have z1 := hB1.cell 1
    simp at z0 z1
    clear hB1 hK B0 B1 K0
    rcases hrel with rfl | ⟨rfl, rfl⟩ | ⟨rfl, rfl, rfl⟩ | ⟨rfl, rfl, rfl, rfl⟩
    · have c0 := hB.cell 0
      have c1 := hB.cell 1
      simp at c0 c1
      clear hB
      have e0 := E0.out
      cases b0
      · go_wp2_with fail
        go_quiet (fail)
        go_wp2_with fail
        go_roundw
        case rel => exact ⟨by simp, Blk.drewN HB.out, Blk.drewN HB1.out, HK.out.drewN _⟩
        case measure => decide
      · go_wp2_with fail
        go_quiet (fail)
        go_wp2_with fail
        go_ret
        exact ⟨rfl, HK.out.drewN _⟩
    · have c0 := hB.cell 2
      have c1 := hB.cell 3
      simp at c0 c1
      clear hB
      have e1 := E1.out
      cases b1
      · go_wp2_with fail
        go_quiet (fail)
        go_wp2_with fail
        go_roundw
        case rel => exact ⟨by simp, Blk.drewN HB.out, Blk.drewN HB1.out, HK.out.drewN _⟩
        case measure => decide
      · go_wp2_with fail
        go_quiet (fail)
        go_wp2_with fail
        go_ret
        exact ⟨rfl, HK.out.drewN _⟩
    · have c0 := hB.cell 4
      have c1 := hB.cell 5
      simp at c0 c1
      clear hB
      have e2 := E2.out
      cases b2
      · go_wp2_with fail
        go_quiet (fail)
        go_wp2_with fail
        go_roundw
        case rel => exact ⟨by simp, Blk.drewN HB.out, Blk.drewN HB1.out, HK.out.drewN _⟩
        case measure => decide
      · go_wp2_with fail
        go_quiet (fail)
        go_wp2_with fail
        go_ret
        exact ⟨rfl, HK.out.drewN _⟩
    · clear hB
      go_wp2_with fail
      go_ret
      exact ⟨rfl, HK.out⟩
end
section
open Go.RowKit
set_option maxRecDepth 100000

theorem bdL_mem {l : List Sh} : ∀ {m : Nat} {p : Pl}, p ∈ bdL l m ↔ ∃ i, i < m ∧ ∃ b f, fpL l ((i : Int) + 1) 0 = some (b, f) ∧ p = ((i : Int) + 1, b, f)
  | 0, p => by simp [bdL]
  | m + 1, p => by
    rw [bdL, List.mem_append, bdL_mem]
    constructor
    · rintro (⟨i, hi, r⟩ | h)
      · exact ⟨i, by omega, r⟩
      · cases hf : fpL l ((m : Int) + 1) 0 with
        | none => rw [hf] at h; cases h
        | some q =>
          obtain ⟨b, f⟩ := q
          rw [hf] at h
          exact ⟨m, by omega, b, f, hf, by simpa using h⟩
    · rintro ⟨i, hi, b, f, hf, rfl⟩
      rcases Nat.lt_or_eq_of_le (Nat.le_of_lt_succ hi) with h | rfl
      · exact .inl ⟨i, h, b, f, hf, rfl⟩
      · right; rw [hf]; simp
theorem bdL_none {l : List Sh} {v : Int} (h1 : 1 ≤ v) (h2 : v ≤ 32) (h : ∀ p ∈ bdL l 32, p.1 ≠ v) : fpL l v 0 = none := by
  cases hf : fpL l v 0 with
  | none => rfl
  | some q =>
    obtain ⟨b, f⟩ := q
    obtain ⟨i, hi⟩ : ∃ i : Nat, (i : Int) + 1 = v := ⟨(v - 1).toNat, by omega⟩
    exact absurd hi (h ((i : Int) + 1, b, f) (bdL_mem.2 ⟨i, by omega, b, f, by rw [hi]; exact hf, rfl⟩))
theorem bdL_some {l : List Sh} {p : Pl} (h : p ∈ bdL l 32) : fpL l p.1 0 = some p.2 := by
  obtain ⟨i, _, b, f, hf, rfl⟩ := bdL_mem.1 h
  exact hf
theorem Places.kept {w w' : World} {v : Value} {ps : List Pl} (h : Places w v ps) (k : Kept Nil w w') : Places w' v ps := by
  obtain ⟨a, c, e, h⟩ := h
  exact ⟨a, c, e, fun i p hi => by obtain ⟨g, e2, hr⟩ := h i p hi; exact ⟨g, e2, rangeAt_kept k id hr⟩⟩
theorem infoP3 : (Try.prog.info? 102).map (·.size) = some 3 := by kernel_rfl
theorem wpList_load_P {ops : Array Oper} {rest : List Oper} {o : Oper} {a : Act} {w : World} {Q : Exit → Act → World → Prop} (hgd : o.guard = none) (x : Operand) (ho : o.op = .load 102 x)
    (b p : Nat) (hx : a.eval x = .pointer (some ⟨b, p, none⟩)) (t0 t1 t2 : Int) (hr : w.rangeAt b p [.int .i64 t0, .int .i64 t1, .int .i64 t2])
    (hn : wpList Try.prog ops Q rest (a.put o.dst (.agg #[.int .i64 t0, .int .i64 t1, .int .i64 t2])) w) : wpList Try.prog ops Q (o :: rest) a w :=
  wpList_load_mid hgd _ x ho b p hx [.int .i64 t0, .int .i64 t1, .int .i64 t2] _ hr Try.underlying102 rfl infoP3 hn
theorem plClo_any (p0 p1 p2 v : Int) (D : Nat) (w : World) (h : Blk w D 3 #[.int .i64 v]) :
    Calls Try.prog 57 #[.agg #[.int .i64 p0, .int .i64 p1, .int .i64 p2], .pointer (some ⟨D, 0, none⟩)] w fun e w' => e = .returned (.bool (p0 == v)) ∧ Kept Nil w w' := by
  have z0 := h.cell 0
  have hD : D < w.heap.size := h.lt
  simp at z0
  have K0 := Lib.hid ((Kept.refl Nil w).alloc (.cells #[.int .i64 p0, .int .i64 p1, .int .i64 p2] 102))
  generalize hb : (p0 == v) = b
  go_enter Try.func57, Try.ntmps57
  go_wp2_with fail
  go_ret
  exact ⟨rfl, K0.out⟩
/-- Where the first place of a variable is; -1 if there is none. -/
def PlIxEnd (ps : List Pl) (v : Int) (w : World) (e : Ending) (w' : World) : Prop := ∃ r : Int, e = .returned (.int .i64 r) ∧ Kept Nil w w' ∧ ((r = -1 ∧ ∀ p ∈ ps, p.1 ≠ v) ∨ ∃ (j : Nat) (p : Pl), r = (j : Int) ∧ j < ps.length ∧ ps[j]? = some p ∧ p.1 = v)
set_option maxHeartbeats 2000000 in
theorem plIdx_any (ps : List Pl) (hl : ps.length ≤ 5000) (v : Int) (D : Nat) (pv : Value) (w : World) (h : Places w pv ps) (hB : Blk w D 3 #[.int .i64 v]) :
    Calls Try.prog 56 #[pv, .func (.func 57) #[] #[.pointer (some ⟨D, 0, none⟩)]] w (PlIxEnd ps v w) := by
  obtain ⟨a, c, rfl, hx⟩ := h
  obtain ⟨len, hlen⟩ : ∃ n, ps.length = n := ⟨_, rfl⟩
  have HX := Lib.hid hx
  have HB := Lib.hid hB
  rw [hlen] at hl ⊢
  have HL := Lib.hid hlen
  clear hx hB hlen
  go_enter Try.func56, Try.ntmps56
  go_wp2_with fail
  go_loopw [5, 8] (fun _ i wr => ∃ j : Nat, j ≤ len ∧ i = .int .i64 j ∧ Hid (∀ (i : Nat) (p : Pl), i < j → ps[i]? = some p → p.1 ≠ v) ∧ Kept Nil w wr) (fun _ i _ => len - (intOf i).toNat)
  case atStart => exact ⟨0, by omega, rfl, Lib.hid (fun i p hi => by omega), Kept.refl _ _⟩
  case round =>
    obtain ⟨j, hj, rfl, HJ, hK⟩ := hrel
    have HK := Lib.hid hK
    clear hK
    by_cases hlt : j < len
    · obtain ⟨⟨p0, p1, p2⟩, hx⟩ : ∃ x, ps[j]? = some x := ⟨_, List.getElem?_eq_getElem (by have := HL.out; omega)⟩
      obtain ⟨g, rfl, hr⟩ := HX.out j _ hx
      have HR : Hid (wr.rangeAt g (j * 3) [.int .i64 p0, .int .i64 (p1 : Int), .int .i64 p2]) := Lib.hid (rangeAt_kept HK.out id hr)
      have CX := Lib.hid (plClo_any p0 (p1 : Int) p2 v D wr (HB.out.kept HK.out id))
      have HXx := Lib.hid hx
      clear hx hr
      by_cases hpv : p0 = v
      · have hpv' : (p0 == v) = true := by simpa using hpv
        rw [hpv'] at CX
        have HPV := Lib.hid hpv
        clear hpv hpv'
        go_wp2_with ((with_reducible refine wpList_load_P rfl (.tmp 14) rfl _ _ rfl p0 (p1 : Int) p2 ?_ ?_)
                     · simpa using HR.out)
        refine CX.out.mono ?_
        rintro e w2 ⟨rfl, k2⟩
        go_wp2_with fail
        go_ret
        exact ⟨(j : Int), rfl, HK.out.trans k2 (fun _ _ g => g), .inr ⟨j, _, rfl, by have := HL.out; omega, HXx.out, HPV.out⟩⟩
      · have hpv' : (p0 == v) = false := by simpa using hpv
        rw [hpv'] at CX
        go_wp2_with ((with_reducible refine wpList_load_P rfl (.tmp 14) rfl _ _ rfl p0 (p1 : Int) p2 ?_ ?_)
                     · simpa using HR.out)
        refine CX.out.mono ?_
        rintro e w2 ⟨rfl, k2⟩
        have K2 := Lib.hid (HK.out.trans k2 (fun _ _ g => g))
        clear k2
        go_wp2_with fail
        go_roundw
        case rel =>
          refine ⟨j + 1, by omega, by go_num, Lib.hid (fun i p hi hp => ?_), K2.out⟩
          rcases Nat.lt_or_eq_of_le (Nat.le_of_lt_succ hi) with h | rfl
          · exact HJ.out i p h hp
          · rw [HXx.out] at hp; cases hp; exact hpv
        case measure => simp [intOf]; omega
    · obtain rfl : len = j := by omega
      go_wp2_with fail
      go_ret
      refine ⟨-1, rfl, HK.out, .inl ⟨rfl, fun p hp => ?_⟩⟩
      obtain ⟨i, hi⟩ := List.getElem?_of_mem hp
      exact HJ.out i p (by have := (List.getElem?_eq_some_iff.1 hi).1; have := HL.out; omega) hi
set_option maxHeartbeats 2000000 in
/-- The place of a variable in a chain. -/
theorem place_any (ch : List Sh) (v : Int) (h1 : 1 ≤ v) (h2 : v ≤ 32) (G : Nat) (pv : Value) (w : World) (hp : Places w pv (bdL ch 32)) (hB : Blk w G 100 #[pv]) :
    Calls Try.prog 55 #[.int .i64 v, .pointer (some ⟨G, 0, none⟩)] w (FpEnd ch v w) := by
  have hbl := bdL_len ch 32
  obtain ⟨pa, pn, pc, rfl⟩ : ∃ a n c, pv = .slice a n c := by obtain ⟨a, c, e, _⟩ := hp; exact ⟨a, _, c, e⟩
  have CI : Hid (∀ W D, Kept Nil w W → Blk W D 3 #[.int .i64 v] → Calls Try.prog 56 #[.slice pa pn pc, .func (.func 57) #[] #[.pointer (some ⟨D, 0, none⟩)]] W (PlIxEnd (bdL ch 32) v W)) := Lib.hid fun W D kW hD => plIdx_any (bdL ch 32) (by omega) v D _ W (hp.kept kW) hD
  have T0 := Lib.hid (Two2.start w 3 #[.int .i64 v] 102 zP)
  have HP := Lib.hid hp
  have z0 := hB.cell 0
  have HB := Lib.hid hB
  have hG : G < w.heap.size := hB.lt
  simp at z0
  clear hp hB hbl
  go_enter Try.func55, Try.ntmps55
  go_wp2_with fail
  refine (CI.out _ _ T0.out.kept T0.out.b0).mono ?_
  rintro e w2 ⟨r, rfl, k2, hr⟩
  have T2 := Lib.hid (T0.out.step k2)
  have y0 := (HB.out.kept T2.out.kept id).cell 0
  have hs2 : w.heap.size + 1 < w2.heap.size := T2.out.b1.lt
  have p0 := T2.out.b1.cell 0
  have p1 := T2.out.b1.cell 1
  have p2 := T2.out.b1.cell 2
  have f0 := T2.out.b1.frozen 0
  have f1 := T2.out.b1.frozen 1
  have f2 := T2.out.b1.frozen 2
  simp at y0 p0 p1 p2
  clear k2 T0 z0 CI
  rcases hr with ⟨rfl, hno⟩ | ⟨j, ⟨q0, q1, q2⟩, rfl, hjl, hj, hq⟩
  · have HE := Lib.hid (bdL_none h1 h2 hno)
    clear hno
    go_wp2_with fail
    have BF : Blk (((w2.setCell ⟨w.heap.size + 1, 0, none⟩ (.int .i64 0)).setCell ⟨w.heap.size + 1, 1, none⟩ (.int .i64 0)).setCell ⟨w.heap.size + 1, 2, none⟩ (.int .i64 0)) (w.heap.size + 1) 102 #[.int .i64 0, .int .i64 0, .int .i64 0] := by
      simpa using ((T2.out.b1.set_ 0 (.int .i64 0)).set_ 1 (.int .i64 0)).set_ 2 (.int .i64 0)
    refine bodyPost_ret (results_pair Try.results55 _ _ _ (.bool false) rfl rfl BF Try.underlying102 (by kernel_rfl)) rfl ⟨by rw [HE.out]; rfl, ?_⟩
    refine Kept.setCell (Kept.setCell (Kept.setCell T2.out.kept _ (.inr (Nat.le_succ _)) _) _ (.inr (Nat.le_succ _)) _) _ (.inr (Nat.le_succ _)) _
  · have hq' : q0 = v := hq
    subst hq'
    have HE : Hid (fpL ch q0 0 = some (q1, q2)) := Lib.hid (bdL_some (List.mem_of_getElem? hj))
    obtain ⟨a', c', e', hat⟩ := HP.out
    obtain ⟨g, ea, hrng⟩ := hat j _ hj
    injection e' with e1 e2 e3
    subst e1 e3 ea
    have HR : Hid (w2.rangeAt g (j * 3) [.int .i64 q0, .int .i64 (q1 : Int), .int .i64 q2]) := Lib.hid (rangeAt_kept T2.out.kept id hrng)
    have hj0 : (0 : Int) ≤ (j : Int) := by omega
    have hjn : (j : Int) < (pn : Int) := by omega
    have hjd : decide ((j : Int) < 0) = false := decide_eq_false (by omega)
    clear hj hq hat hrng e2 hjl
    go_wp2_with ((with_reducible refine wpList_load_P rfl (.tmp 14) rfl _ _ rfl q0 (q1 : Int) q2 ?_ ?_)
                 · simpa using HR.out)
    have BF : Blk (((w2.setCell ⟨w.heap.size + 1, 0, none⟩ (.int .i64 q0)).setCell ⟨w.heap.size + 1, 1, none⟩ (.int .i64 (q1 : Int))).setCell ⟨w.heap.size + 1, 2, none⟩ (.int .i64 q2)) (w.heap.size + 1) 102 #[.int .i64 q0, .int .i64 (q1 : Int), .int .i64 q2] := by
      simpa using ((T2.out.b1.set_ 0 (.int .i64 q0)).set_ 1 (.int .i64 (q1 : Int))).set_ 2 (.int .i64 q2)
    refine bodyPost_ret (results_pair Try.results55 _ _ _ (.bool true) rfl rfl BF Try.underlying102 (by kernel_rfl)) rfl ⟨by rw [HE.out]; rfl, ?_⟩
    refine Kept.setCell (Kept.setCell (Kept.setCell T2.out.kept _ (.inr (Nat.le_succ _)) _) _ (.inr (Nat.le_succ _)) _) _ (.inr (Nat.le_succ _)) _
end
section
open Go.RowKit
set_option maxRecDepth 100000

/-- A field's term; its tests; the tests of the fields ahead. -/
def tmX (h : Hd) : Nat → Bool
  | 0 => h.x0
  | 1 => h.x1
  | _ => h.x2
def tmN (h : Hd) : Nat → Int
  | 0 => h.n0
  | 1 => h.n1
  | _ => h.n2
def tstAt (ch : List Sh) (h : Hd) : Nat → List Tst
  | 0 => tst0 ch h
  | 1 => tst1 ch h
  | _ => tst2 ch h
def tsU (ch : List Sh) (h : Hd) : Nat → List Tst
  | 0 => []
  | j + 1 => tsU ch h j ++ tstAt ch h j
theorem tsU_three (ch : List Sh) (h : Hd) : tsU ch h 3 = tstL ch h := by
  show (([] ++ tst0 ch h) ++ tst1 ch h) ++ tst2 ch h = _
  rw [List.nil_append]
  rfl
theorem tsU_len (ch : List Sh) (h : Hd) : ∀ j, (tsU ch h j).length ≤ j
  | 0 => by simp [tsU]
  | j + 1 => by
    have h1 := tsU_len ch h j
    have h2 := tst_len ch h
    have h3 : (tstAt ch h j).length ≤ 1 := by
      unfold tstAt
      split
      · exact h2.1
      · exact h2.2.1
      · exact h2.2.2
    rw [tsU, List.length_append]
    omega
theorem tstAt_no {ch : List Sh} {h : Hd} {j : Nat} (hj : j < 3) (hx : tmX h j = false) : tstAt ch h j = [] := by
  have : j = 0 ∨ j = 1 ∨ j = 2 := by omega
  rcases this with rfl | rfl | rfl
  · have e : h.x0 = false := hx
    show tst0 ch h = []
    unfold tst0; rw [if_neg (by rw [e]; simp)]
  · have e : h.x1 = false := hx
    show tst1 ch h = []
    unfold tst1; rw [if_neg (by rw [e]; simp)]
  · have e : h.x2 = false := hx
    show tst2 ch h = []
    unfold tst2; rw [if_neg (by rw [e]; simp)]
/-- Where the same term stands first. -/
theorem tstAt_yes {ch : List Sh} {h : Hd} {j : Nat} (hj : j < 3) (hx : tmX h j = true) : ∃ r : Nat, r ≤ j ∧ first3 (decide (true = h.x0 ∧ tmN h j = h.n0)) (decide (true = h.x1 ∧ tmN h j = h.n1)) (decide (true = h.x2 ∧ tmN h j = h.n2)) = (r : Int) ∧
    tstAt ch h j = match fpL ch (tmN h j) 0 with | some (b, g) => [((j : Int), (b : Int), g)] | none => if r < j then [((j : Int), -1, (r : Int))] else [] := by
  have : j = 0 ∨ j = 1 ∨ j = 2 := by omega
  rcases this with rfl | rfl | rfl
  · have e : h.x0 = true := hx
    refine ⟨0, Nat.le_refl _, ?_, ?_⟩
    · show first3 (decide (true = h.x0 ∧ h.n0 = h.n0)) _ _ = _
      rw [e]; simp [first3]
    · show tst0 ch h = match fpL ch h.n0 0 with | some (b, g) => [(((0 : Nat) : Int), (b : Int), g)] | none => if 0 < 0 then _ else []
      unfold tst0
      rw [if_pos e]
      cases fpL ch h.n0 0 <;> rfl
  · have e : h.x1 = true := hx
    by_cases hc : h.x0 = true ∧ h.n1 = h.n0
    · refine ⟨0, by omega, ?_, ?_⟩
      · show first3 (decide (true = h.x0 ∧ h.n1 = h.n0)) _ _ = _
        rw [decide_eq_true (show true = h.x0 ∧ h.n1 = h.n0 from ⟨hc.1.symm, hc.2⟩)]; rfl
      · show tst1 ch h = match fpL ch h.n1 0 with | some (b, g) => [(((1 : Nat) : Int), (b : Int), g)] | none => if 0 < 1 then [(((1 : Nat) : Int), -1, ((0 : Nat) : Int))] else []
        unfold tst1
        rw [if_pos e, if_pos hc, if_pos (by decide)]
        cases fpL ch h.n1 0 <;> rfl
    · refine ⟨1, by omega, ?_, ?_⟩
      · show first3 (decide (true = h.x0 ∧ h.n1 = h.n0)) (decide (true = h.x1 ∧ h.n1 = h.n1)) _ = _
        rw [decide_eq_false (show ¬ (true = h.x0 ∧ h.n1 = h.n0) from fun hh => hc ⟨hh.1.symm, hh.2⟩), e]; simp [first3]
      · show tst1 ch h = match fpL ch h.n1 0 with | some (b, g) => [(((1 : Nat) : Int), (b : Int), g)] | none => if 1 < 1 then [(((1 : Nat) : Int), -1, ((1 : Nat) : Int))] else []
        unfold tst1
        rw [if_pos e, if_neg hc, if_neg (by decide)]
        cases fpL ch h.n1 0 <;> rfl
  · have e : h.x2 = true := hx
    by_cases hc : h.x0 = true ∧ h.n2 = h.n0
    · refine ⟨0, by omega, ?_, ?_⟩
      · show first3 (decide (true = h.x0 ∧ h.n2 = h.n0)) _ _ = _
        rw [decide_eq_true (show true = h.x0 ∧ h.n2 = h.n0 from ⟨hc.1.symm, hc.2⟩)]; rfl
      · show tst2 ch h = match fpL ch h.n2 0 with | some (b, g) => [(((2 : Nat) : Int), (b : Int), g)] | none => if 0 < 2 then [(((2 : Nat) : Int), -1, ((0 : Nat) : Int))] else []
        unfold tst2
        rw [if_pos e, if_pos hc, if_pos (by decide)]
        cases fpL ch h.n2 0 <;> rfl
    · by_cases hd : h.x1 = true ∧ h.n2 = h.n1
      · refine ⟨1, by omega, ?_, ?_⟩
        · show first3 (decide (true = h.x0 ∧ h.n2 = h.n0)) (decide (true = h.x1 ∧ h.n2 = h.n1)) _ = _
          rw [decide_eq_false (show ¬ (true = h.x0 ∧ h.n2 = h.n0) from fun hh => hc ⟨hh.1.symm, hh.2⟩), decide_eq_true (show true = h.x1 ∧ h.n2 = h.n1 from ⟨hd.1.symm, hd.2⟩)]; rfl
        · show tst2 ch h = match fpL ch h.n2 0 with | some (b, g) => [(((2 : Nat) : Int), (b : Int), g)] | none => if 1 < 2 then [(((2 : Nat) : Int), -1, ((1 : Nat) : Int))] else []
          unfold tst2
          rw [if_pos e, if_neg hc, if_pos hd, if_pos (by decide)]
          cases fpL ch h.n2 0 <;> rfl
      · refine ⟨2, by omega, ?_, ?_⟩
        · show first3 (decide (true = h.x0 ∧ h.n2 = h.n0)) (decide (true = h.x1 ∧ h.n2 = h.n1)) (decide (true = h.x2 ∧ h.n2 = h.n2)) = _
          rw [decide_eq_false (show ¬ (true = h.x0 ∧ h.n2 = h.n0) from fun hh => hc ⟨hh.1.symm, hh.2⟩), decide_eq_false (show ¬ (true = h.x1 ∧ h.n2 = h.n1) from fun hh => hd ⟨hh.1.symm, hh.2⟩), e]; simp [first3]
        · show tst2 ch h = match fpL ch h.n2 0 with | some (b, g) => [(((2 : Nat) : Int), (b : Int), g)] | none => if 2 < 2 then [(((2 : Nat) : Int), -1, ((2 : Nat) : Int))] else []
          unfold tst2
          rw [if_pos e, if_neg hc, if_neg hd, if_neg (by decide)]
          cases fpL ch h.n2 0 <;> rfl
theorem idxJ (x0 x1 x2 : Bool) (n0 n1 n2 : Int) (k : Int) (j : Nat) (hj : j < 3) (w : World) : (Instr.index 25 (.agg #[.bool x0, .int .i64 n0, .bool x1, .int .i64 n1, .bool x2, .int .i64 n2]) (.int .i64 (j : Int))).run Try.prog w = .ok (.agg #[.bool (tmX ⟨k, x0, x1, x2, n0, n1, n2⟩ j), .int .i64 (tmN ⟨k, x0, x1, x2, n0, n1, n2⟩ j)]) w := by
  obtain ⟨i0, i1, i2⟩ := idxL3 x0 x1 x2 n0 n1 n2
  have : j = 0 ∨ j = 1 ∨ j = 2 := by omega
  rcases this with rfl | rfl | rfl
  · exact i0 w
  · exact i1 w
  · exact i2 w
theorem tm_ok {h : Hd} (hf : h.fine = true) {j : Nat} (hj : j < 3) : okTm (tmX h j) (tmN h j) = true := by
  obtain ⟨f0, f1, f2⟩ := fine_all hf
  have : j = 0 ∨ j = 1 ∨ j = 2 := by omega
  rcases this with rfl | rfl | rfl
  · exact f0
  · exact f1
  · exact f2
abbrev arrL3 (x0 x1 x2 : Bool) (n0 n1 n2 : Int) : Array Value := #[.bool x0, .int .i64 n0, .bool x1, .int .i64 n1, .bool x2, .int .i64 n2]
/-- Tests in new memory. -/
def TsEnd (ts : List Tst) (w : World) (e : Ending) (w' : World) : Prop := ∃ a c, e = .returned (.slice a ts.length c) ∧ TsAt w' (okM w.heap.size w') (.slice a ts.length c) ts ∧ Kept Nil w w'
/-- The class of worlds in which a box is as it was laid. -/
def CB1 (w : World) (G : Nat) (t : TypeId) (cs : Array Value) (D : Nat) (t' : TypeId) (ds : Array Value) (W : World) : Prop := Blk W G t cs ∧ Blk W D t' ds ∧ Kept Nil w W
theorem CB1.step {w : World} {G : Nat} {t : TypeId} {cs : Array Value} {D : Nat} {t' : TypeId} {ds : Array Value} (W W' : World) (h : CB1 w G t cs D t' ds W) (k : Kept Nil W W') : CB1 w G t cs D t' ds W' := ⟨h.1.kept k id, h.2.1.kept k id, h.2.2.trans k (fun _ _ g => g)⟩
set_option maxHeartbeats 8000000 in
theorem testsOf_any (ch : List Sh) (k : Int) (x0 x1 x2 : Bool) (n0 n1 n2 : Int) (hf : (⟨k, x0, x1, x2, n0, n1, n2⟩ : Hd).fine = true) (G : Nat) (pv : Value) (w : World) (hp : Places w pv (bdL ch 32)) (hB : Blk w G 100 #[pv]) :
    Calls Try.prog 59 #[valL x0 x1 x2 n0 n1 n2, .func (.func 55) #[] #[.pointer (some ⟨G, 0, none⟩)]] w (TsEnd (tstL ch ⟨k, x0, x1, x2, n0, n1, n2⟩) w) := by
  have HP := Lib.hid hp
  have HB := Lib.hid hB
  have HF := Lib.hid hf
  have K0 := Lib.hid ((Kept.refl Nil w).alloc (.cells (arrL3 x0 x1 x2 n0 n1 n2) 25))
  have B0 := Lib.hid (Blk.new w 25 (arrL3 x0 x1 x2 n0 n1 n2))
  clear hp hB hf
  go_enter Try.func59, Try.ntmps59
  go_wp2_with fail
  go_loopw [5, 12] (fun u i wr => ∃ j : Nat, j ≤ 3 ∧ i = .int .i64 j ∧ GB kT 74 wr (w.heap.size + 1) u (tsU ch ⟨k, x0, x1, x2, n0, n1, n2⟩ j) ∧ Blk wr w.heap.size 25 (arrL3 x0 x1 x2 n0 n1 n2) ∧ Kept Nil w wr) (fun _ i _ => 3 - (intOf i).toNat)
  case atStart => exact ⟨0, by omega, rfl, GB.nil _, B0.out, K0.out⟩
  case round =>
    obtain ⟨j, hj, rfl, hG, hBx, hK⟩ := hrel
    have HG := Lib.hid hG
    have HBx := Lib.hid hBx
    have HK := Lib.hid hK
    have hs1 : w.heap.size < wr.heap.size := hBx.lt
    clear hG hBx hK B0 K0
    obtain ⟨au, nu, cu, rfl⟩ : ∃ a n c, u5 = .slice a n c := by obtain ⟨a, c, e, _⟩ := HG.out.shape; exact ⟨a, _, c, e⟩
    by_cases hlt : j < 3
    · have hix := idxJ x0 x1 x2 n0 n1 n2 k j hlt
      have hok := tm_ok HF.out hlt
      have HNo : Hid (tmX ⟨k, x0, x1, x2, n0, n1, n2⟩ j = false → tstAt ch ⟨k, x0, x1, x2, n0, n1, n2⟩ j = []) := Lib.hid (tstAt_no hlt)
      have HYes : Hid (tmX ⟨k, x0, x1, x2, n0, n1, n2⟩ j = true → ∃ r : Nat, r ≤ j ∧ first3 (decide (true = x0 ∧ tmN ⟨k, x0, x1, x2, n0, n1, n2⟩ j = n0)) (decide (true = x1 ∧ tmN ⟨k, x0, x1, x2, n0, n1, n2⟩ j = n1)) (decide (true = x2 ∧ tmN ⟨k, x0, x1, x2, n0, n1, n2⟩ j = n2)) = (r : Int) ∧
        tstAt ch ⟨k, x0, x1, x2, n0, n1, n2⟩ j = match fpL ch (tmN ⟨k, x0, x1, x2, n0, n1, n2⟩ j) 0 with | some (b, g) => [((j : Int), (b : Int), g)] | none => if r < j then [((j : Int), -1, (r : Int))] else []) := Lib.hid (tstAt_yes hlt)
      have HU : Hid (tsU ch ⟨k, x0, x1, x2, n0, n1, n2⟩ (j + 1) = tsU ch ⟨k, x0, x1, x2, n0, n1, n2⟩ j ++ tstAt ch ⟨k, x0, x1, x2, n0, n1, n2⟩ j) := Lib.hid rfl
      have HUl := Lib.hid (tsU_len ch ⟨k, x0, x1, x2, n0, n1, n2⟩ j)
      generalize tmX ⟨k, x0, x1, x2, n0, n1, n2⟩ j = x at hix hok HNo HYes
      generalize tmN ⟨k, x0, x1, x2, n0, n1, n2⟩ j = n at hix hok HYes
      generalize tstAt ch ⟨k, x0, x1, x2, n0, n1, n2⟩ j = tj at HNo HYes HU
      generalize tsU ch ⟨k, x0, x1, x2, n0, n1, n2⟩ j = uj at HG HU HUl
      cases x
      · have HE : Hid (tsU ch ⟨k, x0, x1, x2, n0, n1, n2⟩ (j + 1) = uj) := Lib.hid (by rw [HU.out, HNo.out rfl, List.append_nil])
        clear HYes HNo HU hok
        go_wp2_with fail
        go_roundw
        case rel => exact ⟨j + 1, by omega, by go_num, by rw [HE.out]; exact HG.out.kept ((Kept.refl Nil wr).alloc _), HBx.out.alloc _, HK.out.alloc _⟩
        case measure => simp [intOf]; omega
      · obtain ⟨r, hrj, hr3, htj⟩ := HYes.out rfl
        have hn := okTm_var.1 hok
        have CP := Lib.hid (fun W (kW : Kept Nil w W) => place_any ch n hn.1 hn.2 G pv W (HP.out.kept kW) (HB.out.kept kW id))
        unfold FpEnd at CP
        have CI := Lib.hid (fun W (hb : Blk W w.heap.size 25 (arrL3 x0 x1 x2 n0 n1 n2)) => indexT_any x0 x1 x2 n0 n1 n2 n w.heap.size W hb)
        rw [hr3] at CI
        clear HYes HNo hok hn hr3
        cases hfp : fpL ch n 0 with
        | some q =>
          obtain ⟨b, g⟩ := q
          rw [hfp] at CP htj
          have HTJ : Hid (tj = [((j : Int), (b : Int), g)]) := Lib.hid htj
          have CP2 : Hid (∀ W, Kept Nil w W → Calls Try.prog 55 #[.int .i64 n, .pointer (some ⟨G, 0, none⟩)] W fun e w' => e = .returned (.tuple #[.agg #[.int .i64 n, .int .i64 (b : Int), .int .i64 g], .bool true]) ∧ Kept Nil W w') := CP
          clear CP htj hfp CI
          go_wp2_with fail
          refine (CP2.out _ (HK.out.alloc _)).mono ?_
          rintro e w3 ⟨rfl, k3⟩
          have k34 : Kept Nil wr (w3.alloc (.cells #[.int .i64 n, .int .i64 (b : Int), .int .i64 g] 102)) := (((Kept.refl Nil wr).alloc _).trans k3 (fun _ _ g => g)).alloc _
          have hsz := k34.size
          obtain ⟨a5, n5, c5, w5, r5, g5, k5⟩ := GB.append_one (P := Try.prog) (t := 40) elsT 40 (HG.out.kept k34) ((j : Int), (b : Int), g) #[.int .i64 (j : Int), .int .i64 (b : Int), .int .i64 g] rfl 74 trivial (by have := HUl.out; omega) (by omega)
          have hs4 : (w3.alloc (.cells #[.int .i64 n, .int .i64 (b : Int), .int .i64 g] 102)).heap.size = w3.heap.size + 1 := by simp
          rw [hs4] at r5
          have RR := Lib.hid r5
          have G5 := Lib.hid g5
          have K5 := Lib.hid ((HK.out.trans k34 (fun _ _ g => g)).trans k5 (fun i hi e => by have := HG.out.base i e; omega))
          have B5 := Lib.hid ((HBx.out.kept k34 id).kept k5 (fun e => by have := HG.out.base _ e; omega))
          have HE : Hid (tsU ch ⟨k, x0, x1, x2, n0, n1, n2⟩ (j + 1) = uj ++ [((j : Int), (b : Int), g)]) := Lib.hid (by rw [HU.out, HTJ.out])
          clear k3 k34 hsz r5 g5 k5 hs4 HU HTJ
          go_wp2_with (at_builtin; refine wpList_append_run rfl (.tmp 27) (.tmp 34) 40 rfl _ _ rfl rfl RR.out ?_)
          go_roundw
          case rel => exact ⟨j + 1, by omega, by go_num, by rw [HE.out]; exact G5.out, B5.out, K5.out⟩
          case measure => simp [intOf]; omega
        | none =>
          rw [hfp] at CP htj
          have HTJ : Hid (tj = if r < j then [((j : Int), -1, (r : Int))] else []) := Lib.hid htj
          have CP2 : Hid (∀ W, Kept Nil w W → Calls Try.prog 55 #[.int .i64 n, .pointer (some ⟨G, 0, none⟩)] W fun e w' => e = .returned (.tuple #[.agg #[.int .i64 0, .int .i64 0, .int .i64 0], .bool false]) ∧ Kept Nil W w') := CP
          clear CP htj hfp
          have BT := Lib.hid (Blk.new wr 24 #[.bool true, .int .i64 n])
          go_wp2_with fail
          refine (CP2.out _ (HK.out.alloc _)).mono ?_
          rintro e w3 ⟨rfl, k3⟩
          have k34 : Kept Nil wr (w3.alloc (.cells #[.int .i64 0, .int .i64 0, .int .i64 0] 102)) := (((Kept.refl Nil wr).alloc _).trans k3 (fun _ _ g => g)).alloc _
          have K34 := Lib.hid k34
          have BT4 := Lib.hid ((BT.out.kept k3 id).alloc (.cells #[.int .i64 0, .int .i64 0, .int .i64 0] 102))
          clear k3 k34 BT
          go_wp2_with fail
          have O := Lib.hid (show CB1 wr w.heap.size 25 (arrL3 x0 x1 x2 n0 n1 n2) wr.heap.size 24 #[.bool true, .int .i64 n] ((w3.alloc (.cells #[.int .i64 0, .int .i64 0, .int .i64 0] 102)).drew) from ⟨(HBx.out.kept K34.out id).drew, BT4.out.drew, K34.out.drew⟩)
          refine wp_region_in (CB1 wr w.heap.size 25 (arrL3 x0 x1 x2 n0 n1 n2) wr.heap.size 24 #[.bool true, .int .i64 n]) (by kernel_rfl) (by kernel_rfl) O.out ?_
          have inst : Nonempty (CW (CB1 wr w.heap.size 25 (arrL3 x0 x1 x2 n0 n1 n2) wr.heap.size 24 #[.bool true, .int .i64 n])) := ⟨⟨_, O.out⟩⟩
          have CN := Lib.hid (fun m : CW (CB1 wr w.heap.size 25 (arrL3 x0 x1 x2 n0 n1 n2) wr.heap.size 24 #[.bool true, .int .i64 n]) => CI.out m.w m.of.1)
          have z0 : ∀ m : CW (CB1 wr w.heap.size 25 (arrL3 x0 x1 x2 n0 n1 n2) wr.heap.size 24 #[.bool true, .int .i64 n]), m.w.cell? ⟨wr.heap.size, 0, none⟩ = some (.bool true) := fun m => m.of.2.1.cell 0
          have z1 : ∀ m : CW (CB1 wr w.heap.size 25 (arrL3 x0 x1 x2 n0 n1 n2) wr.heap.size 24 #[.bool true, .int .i64 n]), m.w.cell? ⟨wr.heap.size, 1, none⟩ = some (.int .i64 n) := fun m => m.of.2.1.cell 1
          repeat (go_big_quiet_step (first
            | (go_at_call 70; exact call_in CB1.step (CN.out _))))
          refine wpQuiet_nil ?_
          rintro _ ⟨m, rfl⟩
          obtain ⟨wm, hwm⟩ : ∃ wm, m.w = wm := ⟨_, rfl⟩
          have KM : Hid (Kept Nil wr wm) := Lib.hid (by rw [← hwm]; exact m.of.2.2)
          rw [hwm]
          clear CN z0 z1 inst hwm m O BT4 K34 CI
          by_cases hrj2 : r < j
          · have hd : decide (r < j) = true := decide_eq_true hrj2
            have hd2 : decide ((r : Int) < (j : Int)) = true := decide_eq_true (by omega)
            have hsz := KM.out.size
            obtain ⟨a5, n5, c5, w5, r5, g5, k5⟩ := GB.append_one (P := Try.prog) (t := 40) elsT 40 (HG.out.kept KM.out) ((j : Int), -1, (r : Int)) #[.int .i64 (j : Int), .int .i64 (-1), .int .i64 (r : Int)] rfl 74 trivial (by have := HUl.out; omega) (by omega)
            have RR := Lib.hid r5
            have G5 := Lib.hid g5
            have K5 := Lib.hid ((HK.out.trans KM.out (fun _ _ g => g)).trans k5 (fun i hi e => by have := HG.out.base i e; omega))
            have B5 := Lib.hid ((HBx.out.kept KM.out id).kept k5 (fun e => by have := HG.out.base _ e; omega))
            have HE : Hid (tsU ch ⟨k, x0, x1, x2, n0, n1, n2⟩ (j + 1) = uj ++ [((j : Int), -1, (r : Int))]) := Lib.hid (by rw [HU.out, HTJ.out, if_pos hrj2])
            clear hsz r5 g5 k5 HU HTJ hrj2
            go_wp2_with (at_builtin; refine wpList_append_run rfl (.tmp 42) (.tmp 46) 40 rfl _ _ rfl rfl RR.out ?_)
            go_roundw
            case rel => exact ⟨j + 1, by omega, by go_num, by rw [HE.out]; exact G5.out, B5.out, K5.out⟩
            case measure => simp [intOf]; omega
          · have hd : decide (r < j) = false := decide_eq_false hrj2
            have hd2 : decide ((r : Int) < (j : Int)) = false := decide_eq_false (by omega)
            have HE : Hid (tsU ch ⟨k, x0, x1, x2, n0, n1, n2⟩ (j + 1) = uj) := Lib.hid (by rw [HU.out, HTJ.out, if_neg hrj2, List.append_nil])
            clear HU HTJ hrj2
            go_wp2_with fail
            go_roundw
            case rel => exact ⟨j + 1, by omega, by go_num, by rw [HE.out]; exact HG.out.kept KM.out, HBx.out.kept KM.out id, HK.out.trans KM.out (fun _ _ g => g)⟩
            case measure => simp [intOf]; omega
    · obtain rfl : j = 3 := by omega
      have HE : Hid (tsU ch ⟨k, x0, x1, x2, n0, n1, n2⟩ 3 = tstL ch ⟨k, x0, x1, x2, n0, n1, n2⟩) := Lib.hid (tsU_three _ _)
      have hh := HG.out.tsAt
      obtain ⟨a9, c9, e9, _⟩ := HG.out.shape
      rw [HE.out] at hh e9
      have HH := Lib.hid (hh.mono (fun b o hb => hb.less (Nat.le_succ _)))
      injection e9 with e1 e2 e3
      subst e1 e2 e3
      clear hh
      go_wp2_with fail
      go_ret
      exact ⟨au, cu, rfl, HH.out, HK.out⟩
end
section
open Go.RowKit
set_option maxRecDepth 100000

set_option maxHeartbeats 1000000 in
/-- A chain is copied into a block of its own. -/
theorem cloneAny_any (ok : Nat → Nat → Prop) (w : World) {v : Value} {ps : Prs} (h : Lies cA w v ps) (hk : Kids cA w ok ps) (hl : ps.length ≤ 6000) :
    Calls Try.prog 36 #[v] w fun e w' => ∃ u, e = .returned u ∧ ORow cA 27 w' w.heap.size u ps ∧ Kept Nil w w' := by
  obtain ⟨a, c, rfl, hc⟩ := h
  have hL : Lies cA w (.slice a ps.length c) ps := ⟨a, c, rfl, hc⟩
  cases a with
  | none =>
    have h0 : ps.length = 0 := by
      rcases hc with hc | ⟨b, o, e, _⟩
      · have := congrArg List.length hc
        rw [flatC_len kindA] at this
        simp at this; omega
      · cases e
    have HR := Lib.hid (show ORow cA 27 w w.heap.size (.slice none 0 0) ps by
      obtain rfl := List.length_eq_zero_iff.1 h0
      exact ORow.nil w)
    rw [h0]
    have hnil : ∀ W : World, (binOp .eql 22 (.slice none 0 c) (.slice none 0 0)).run Try.prog W = .ok (.bool true) W := fun W => Lib.run_eql_slice_nil W _ _ _ _ _ _ _ Try.underlying22
    clear hL hc hk hl h0
    go_enter Try.func36, Try.ntmps36
    go_wp2_with fail
    go_ret
    exact ⟨_, rfl, HR.out, Kept.refl _ _⟩
  | some ad =>
    have ka := (Kept.refl Nil w).alloc (.cells #[] 27)
    have own0 : ORow cA 27 (w.alloc (.cells #[] 27)) w.heap.size (.slice (some ⟨w.heap.size, 0, none⟩) 0 0) [] := World.ownsRow_lit w #[] 0 (Nat.le_refl _) (by unfold maxLen; omega) rfl
    obtain ⟨v', w', r, o', k, _⟩ := ORow.append (P := Try.prog) elsA kindA 22 own0 (hL.keptN ka) (hk.kept ka (fun _ _ _ g => g)) (by simp; omega) (by simp)
    rw [List.nil_append] at o'
    have RR := Lib.hid r
    have HO := Lib.hid o'
    have HK : Hid (Kept Nil w w') := Lib.hid (ka.trans k (fun i hi e => by simp [Value.ownBlock] at e; omega))
    have hnil : ∀ W : World, (binOp .eql 22 (.slice (some ad) ps.length c) (.slice none 0 0)).run Try.prog W = .ok (.bool false) W := fun W => Lib.run_eql_slice_nil W _ _ _ _ _ _ _ Try.underlying22
    clear r k o' own0 ka hL hc hk
    generalize ps.length = n at *
    go_enter Try.func36, Try.ntmps36
    go_wp2_with (at_builtin; refine wpList_append_run rfl (.tmp 5) (.tmp 6) 22 rfl _ _ rfl rfl RR.out ?_)
    go_ret
    exact ⟨_, rfl, HO.out, HK.out⟩
end
section
open Go.RowKit
set_option maxRecDepth 100000

/-- Stepping through conditions: a list's steps, behind a chain. -/
abbrev BehindL (l : List Sh) : Prop := ∀ ok1 ok2 (chl : List Sh) ac cc a cap w, Holds cA w ok1 (.slice ac chl.length cc) chl → Holds cA w ok2 (.slice a l.length cap) l → chl.length + countL l ≤ 100 → (∃ d, chkL l d = 0) →
  Calls Try.prog 33 #[.slice ac chl.length cc, .slice a l.length cap] w (StsEnd (stL l chl) w)
abbrev BehindS (s : Sh) : Prop := ∀ ok1 ok2 (chl : List Sh) ac cc a cap w, Holds cA w ok1 (.slice ac chl.length cc) chl → Holds cA w ok2 (.slice a s.subs.length cap) s.subs → chl.length + s.count ≤ 100 → (∃ d, s.chk d = 0) →
  Calls Try.prog 37 #[.slice ac chl.length cc, vA s.hd (.slice a s.subs.length cap)] w (StEnd (s.st chl).hd (s.st chl).subs w)
/-- The result is stored. -/
theorem st_done {w wl : World} (hd : SH) (sb : List St) {ta sa : Option Addr} {tn tc sn sc : Nat} (htn : hd.ts.length = tn) (hsn : sb.length = sn) (K : Kept Nil w wl) (hB : Blk wl (w.heap.size + 1) 42 zS) (hT : TsAt wl (okM (w.heap.size + 1 + 1) wl) (.slice ta tn tc) hd.ts) (hS : SHolds wl (okM (w.heap.size + 1 + 1) wl) (.slice sa sn sc) sb) :
    StEnd hd sb w (.returned (vS hd (.slice ta tn tc) (.slice sa sn sc))) ((((((wl.setCell ⟨w.heap.size + 1, 0, none⟩ (.int .i64 hd.k)).setCell ⟨w.heap.size + 1, 1, none⟩ (.int .i64 hd.k0)).setCell ⟨w.heap.size + 1, 2, none⟩ (.int .i64 hd.k1)).setCell ⟨w.heap.size + 1, 3, none⟩ (.int .i64 hd.k2)).setCell ⟨w.heap.size + 1, 4, none⟩ (.slice ta tn tc)).setCell ⟨w.heap.size + 1, 5, none⟩ (.slice sa sn sc)) ∧
    Blk ((((((wl.setCell ⟨w.heap.size + 1, 0, none⟩ (.int .i64 hd.k)).setCell ⟨w.heap.size + 1, 1, none⟩ (.int .i64 hd.k0)).setCell ⟨w.heap.size + 1, 2, none⟩ (.int .i64 hd.k1)).setCell ⟨w.heap.size + 1, 3, none⟩ (.int .i64 hd.k2)).setCell ⟨w.heap.size + 1, 4, none⟩ (.slice ta tn tc)).setCell ⟨w.heap.size + 1, 5, none⟩ (.slice sa sn sc)) (w.heap.size + 1) 42 (arrS hd (.slice ta tn tc) (.slice sa sn sc)) := by
  subst htn hsn
  have kS := (Kept.refl (fun k => k = w.heap.size + 1) wl).set6 (X := w.heap.size + 1) (.inl rfl) (.int .i64 hd.k) (.int .i64 hd.k0) (.int .i64 hd.k1) (.int .i64 hd.k2) (.slice ta hd.ts.length tc) (.slice sa sb.length sc)
  refine ⟨⟨ta, tc, sa, sc, rfl, ?_, ?_, K.set6 (.inr (Nat.le_succ _)) _ _ _ _ _ _⟩, blk_set6 hB _ _ _ _ _ _⟩
  · exact (hT.kept kS (fun b o hb e => by have := hb.1; omega)).mono fun b o hb => (hb.kept kS (fun e => by have := hb.1; omega)).less (by omega)
  · exact (hS.kept kS (fun b o hb e => by have := hb.1; omega)).mono fun b o hb => (hb.kept kS (fun e => by have := hb.1; omega)).less (by omega)
abbrev SeenN (B : Nat) (k : Int) (v : Value) (w' : World) : Prop := w'.cell? ⟨B, 0, none⟩ = some (.int .i64 k) ∧ w'.cell? ⟨B, 7, none⟩ = some v
theorem seenN_kept {B : Nat} {k : Int} {v : Value} {w w' : World} (kk : Kept Nil w w') (h : SeenN B k v w) : SeenN B k v w' := ⟨kk.cellOf h.1, kk.cellOf h.2⟩
theorem seenN_set6 {B A : Nat} {k : Int} {v v0 v1 v2 v3 v4 v5 : Value} {w : World} (h0 : B ≠ A) (h : SeenN B k v w) : SeenN B k v ((((((w.setCell ⟨A, 0, none⟩ v0).setCell ⟨A, 1, none⟩ v1).setCell ⟨A, 2, none⟩ v2).setCell ⟨A, 3, none⟩ v3).setCell ⟨A, 4, none⟩ v4).setCell ⟨A, 5, none⟩ v5) := by
  have m : ∀ {W : World} {i : Nat} {u : Value}, SeenN B k v W → SeenN B k v (W.setCell ⟨A, i, none⟩ u) := fun {W i u} h =>
    ⟨by rw [World.cell?_setCell_other W _ _ _ (fun e => h0 (congrArg Addr.block e).symm)]; exact h.1, by rw [World.cell?_setCell_other W _ _ _ (fun e => h0 (congrArg Addr.block e).symm)]; exact h.2⟩
  exact m (m (m (m (m (m h)))))
set_option maxHeartbeats 4000000 in
theorem behindNcc_any (x0 x1 x2 : Bool) (n0 n1 n2 : Int) (subs : List Sh) (IH : Hid (BehindL subs)) (ok1 ok2 : Nat → Nat → Prop) (chl : List Sh) (ac : Option Addr) (cc : Nat) (a : Option Addr) (cap : Nat) (w : World) (h1 : Holds cA w ok1 (.slice ac chl.length cc) chl) (h2 : Holds cA w ok2 (.slice a subs.length cap) subs) (hc : chl.length + countL subs ≤ 100) (hk : ∃ d, chkL subs d = 0) :
    Calls Try.prog 37 #[.slice ac chl.length cc, vA ⟨3, x0, x1, x2, n0, n1, n2⟩ (.slice a subs.length cap)] w (StEnd ⟨3, 0, 0, 0, []⟩ (stL subs chl) w) := by
  have CX : Hid (∀ W, Kept Nil w W → Calls Try.prog 33 #[.slice ac chl.length cc, .slice a subs.length cap] W fun e w' => ∃ sa sc, e = .returned (.slice sa subs.length sc) ∧ SHolds w' (okM W.heap.size w') (.slice sa subs.length sc) (stL subs chl) ∧ Kept Nil W w') := Lib.hid fun W kW => by
    have := IH.out ok1 ok2 chl ac cc a cap W (h1.keptN kW) (h2.keptN kW) hc hk
    unfold StsEnd at this
    rw [stL_length] at this
    exact this
  have HL : Hid ((stL subs chl).length = subs.length) := Lib.hid (stL_length subs chl)
  generalize stL subs chl = sl at CX HL ⊢
  generalize chl.length = n1' at CX ⊢
  generalize subs.length = len at CX HL ⊢
  clear h1 h2 hc hk IH
  have T0 := Lib.hid (Two2.start w 27 (arrA ⟨3, x0, x1, x2, n0, n1, n2⟩ (.slice a len cap)) 42 zS)
  have hne : w.heap.size ≠ w.heap.size + 1 := by omega
  go_enter Try.func37, Try.ntmps37
  go_wp2_with fail
  have SS : Hid (SeenN w.heap.size 3 (.slice a len cap) (((w.alloc (.cells (arrA ⟨3, x0, x1, x2, n0, n1, n2⟩ (.slice a len cap)) 27)).alloc (.cells zS 42)).drew)) := Lib.hid ⟨T0.out.b0.drew.cell 0, T0.out.b0.drew.cell 7⟩
  go_region_held3 (SeenN w.heap.size 3 (.slice a len cap))
    (first | (with_reducible exact SS.out) | (with_reducible exact seenN_set6 hne (by with_reducible assumption)) | (with_reducible exact seenN_kept k7 (by with_reducible assumption)))
    (first
      | (go_at_call 33; refine (CX.out _ T0.out.kept.drew).mono ?_; rintro e w7 ⟨sa, sc, rfl, h7, k7⟩; have T7 := T0.out.step (((Kept.refl Nil _).drew).trans k7 (fun _ _ g => g)); have z7 := T7.lt; have A7 := T7.b1; have a0 := A7.cell 0; have b0 := A7.frozen 0; (try simp at a0); have a1 := A7.cell 1; have b1 := A7.frozen 1; (try simp at a1); have a2 := A7.cell 2; have b2 := A7.frozen 2; (try simp at a2); have a3 := A7.cell 3; have b3 := A7.frozen 3; (try simp at a3); have a4 := A7.cell 4; have b4 := A7.frozen 4; (try simp at a4); have a5 := A7.cell 5; have b5 := A7.frozen 5; (try simp at a5)))
  all_goals
    have hz : ((w.alloc (.cells (arrA ⟨3, x0, x1, x2, n0, n1, n2⟩ (.slice a len cap)) 27)).alloc (.cells zS 42)).drew.heap.size = w.heap.size + 1 + 1 := by simp
    rw [hz] at h7
    have D := Lib.hid (st_done ⟨3, 0, 0, 0, []⟩ sl (ta := none) (tc := 0) rfl HL.out T7.kept A7 (.nil none 0) h7)
    clear h7 T7 hz
    go_wp2_with fail
    exact bodyPost_ret (results_cell_row Try.results37 _ _ _ _ _ _ _ rfl D.out.2 Try.underlying42 rfl (by kernel_rfl)) rfl D.out.1
end
section
open Go.RowKit
set_option maxRecDepth 100000

/-- What is read of the box. -/
abbrev SeenG (B : Nat) (k : Int) (x0 x1 x2 : Bool) (n0 n1 n2 : Int) (w' : World) : Prop :=
  w'.cell? ⟨B, 0, none⟩ = some (.int .i64 k) ∧ w'.cell? ⟨B, 1, none⟩ = some (.bool x0) ∧ w'.cell? ⟨B, 2, none⟩ = some (.int .i64 n0) ∧ w'.cell? ⟨B, 3, none⟩ = some (.bool x1) ∧ w'.cell? ⟨B, 4, none⟩ = some (.int .i64 n1) ∧ w'.cell? ⟨B, 5, none⟩ = some (.bool x2) ∧ w'.cell? ⟨B, 6, none⟩ = some (.int .i64 n2)
section
variable {B : Nat} {k : Int} {x0 x1 x2 : Bool} {n0 n1 n2 : Int} {w w' : World}
theorem SeenG.move (k0 : ∀ i v, w.cell? ⟨B, i, none⟩ = some v → w'.cell? ⟨B, i, none⟩ = some v) (h : SeenG B k x0 x1 x2 n0 n1 n2 w) : SeenG B k x0 x1 x2 n0 n1 n2 w' :=
  ⟨k0 _ _ h.1, k0 _ _ h.2.1, k0 _ _ h.2.2.1, k0 _ _ h.2.2.2.1, k0 _ _ h.2.2.2.2.1, k0 _ _ h.2.2.2.2.2.1, k0 _ _ h.2.2.2.2.2.2⟩
theorem seenG_kept (kk : Kept Nil w w') (h : SeenG B k x0 x1 x2 n0 n1 n2 w) : SeenG B k x0 x1 x2 n0 n1 n2 w' := h.move (fun _ _ h => kk.cellOf h)
theorem seenG_set {A i : Nat} {v : Value} (h0 : B ≠ A) (h : SeenG B k x0 x1 x2 n0 n1 n2 w) : SeenG B k x0 x1 x2 n0 n1 n2 (w.setCell ⟨A, i, none⟩ v) :=
  h.move (fun i v h => by rw [World.cell?_setCell_other w _ _ _ (fun e => h0 (congrArg Addr.block e).symm)]; exact h)
theorem seenG_set6 {A : Nat} {v0 v1 v2 v3 v4 v5 : Value} (h0 : B ≠ A) (h : SeenG B k x0 x1 x2 n0 n1 n2 w) : SeenG B k x0 x1 x2 n0 n1 n2 ((((((w.setCell ⟨A, 0, none⟩ v0).setCell ⟨A, 1, none⟩ v1).setCell ⟨A, 2, none⟩ v2).setCell ⟨A, 3, none⟩ v3).setCell ⟨A, 4, none⟩ v4).setCell ⟨A, 5, none⟩ v5) := seenG_set h0 (seenG_set h0 (seenG_set h0 (seenG_set h0 (seenG_set h0 (seenG_set h0 h)))))
end
set_option maxHeartbeats 8000000 in
theorem behindTerms_any (k : Int) (hk3 : k ≠ 3) (x0 x1 x2 : Bool) (n0 n1 n2 : Int) (hf : (⟨k, x0, x1, x2, n0, n1, n2⟩ : Hd).fine = true) (ok1 : Nat → Nat → Prop) (chl : List Sh) (ac : Option Addr) (cc : Nat) (v : Value) (hv : ∃ a n c, v = .slice a n c) (w : World) (h1 : Holds cA w ok1 (.slice ac chl.length cc) chl) (hc : chl.length ≤ 100) :
    Calls Try.prog 37 #[.slice ac chl.length cc, vA ⟨k, x0, x1, x2, n0, n1, n2⟩ v] w (StEnd ⟨k, kF x0 n0, kF x1 n1, kF x2 n2, tstL chl ⟨k, x0, x1, x2, n0, n1, n2⟩⟩ [] w) := by
  obtain ⟨va, vn, vc, rfl⟩ := hv
  have CB := Lib.hid (fun W (kW : Kept Nil w W) => bound_any chl hc ok1 ac cc W (h1.keptN kW))
  have CO := Lib.hid (fun W => keyOf_any x0 x1 x2 n0 n1 n2 W)
  have CT : Hid (∀ W pv G, Places W pv (bdL chl 32) → Blk W G 100 #[pv] → Calls Try.prog 59 #[valL x0 x1 x2 n0 n1 n2, .func (.func 55) #[] #[.pointer (some ⟨G, 0, none⟩)]] W (TsEnd (tstL chl ⟨k, x0, x1, x2, n0, n1, n2⟩) W)) := Lib.hid fun W pv G hp hb => testsOf_any chl k x0 x1 x2 n0 n1 n2 hf G pv W hp hb
  unfold TsEnd at CT
  have T0 := Lib.hid (Two2.start w 27 (arrA ⟨k, x0, x1, x2, n0, n1, n2⟩ (.slice va vn vc)) 42 zS)
  have hkb : (k == 3) = false := by simpa using hk3
  have hne : w.heap.size ≠ w.heap.size + 1 := by omega
  obtain ⟨tl, htl⟩ : ∃ tl, tstL chl ⟨k, x0, x1, x2, n0, n1, n2⟩ = tl := ⟨_, rfl⟩
  rw [htl] at CT ⊢
  clear htl h1 hk3 hf
  generalize chl.length = n1' at CB hc ⊢
  obtain ⟨tn, htn⟩ : ∃ tn, tl.length = tn := ⟨_, rfl⟩
  rw [htn] at CT
  have HTN := Lib.hid htn
  clear htn
  go_enter Try.func37, Try.ntmps37
  go_wp2_with fail
  refine (CB.out _ T0.out.kept).mono ?_
  rintro e w3 ⟨pa, pn, pc, rfl, hp, k3⟩
  have T3 := Lib.hid ((T0.out.step k3).alloc (.cells #[.slice pa pn pc] 100))
  have P3 := Lib.hid (hp.kept ((Kept.refl Nil w3).alloc (.cells #[.slice pa pn pc] 100)))
  have G3 := Lib.hid (Blk.new w3 100 #[.slice pa pn pc])
  clear hp k3 T0 CB
  go_wp2_with fail
  obtain ⟨W5, hW5⟩ : ∃ W5, w3.alloc (.cells #[.slice pa pn pc] 100) = W5 := ⟨_, rfl⟩
  rw [hW5] at T3 P3 G3 ⊢
  clear hW5
  have SS : Hid (SeenG w.heap.size k x0 x1 x2 n0 n1 n2 W5.drew) := Lib.hid ⟨T3.out.b0.drew.cell 0, T3.out.b0.drew.cell 1, T3.out.b0.drew.cell 2, T3.out.b0.drew.cell 3, T3.out.b0.drew.cell 4, T3.out.b0.drew.cell 5, T3.out.b0.drew.cell 6⟩
  have hlt5 := T3.out.lt
  have CT2 : Hid (∀ W, Kept Nil W5 W → Calls Try.prog 59 #[valL x0 x1 x2 n0 n1 n2, .func (.func 55) #[] #[.pointer (some ⟨w3.heap.size, 0, none⟩)]] W fun e w' => ∃ a c, e = .returned (.slice a tn c) ∧ TsAt w' (okM W.heap.size w') (.slice a tn c) tl ∧ Kept Nil W w') := Lib.hid fun W kW => CT.out W _ _ (P3.out.kept kW) (G3.out.kept kW id)
  have KD : Kept Nil W5 W5.drew := (Kept.refl Nil W5).drew
  clear CT
  go_region_held3 (SeenG w.heap.size k x0 x1 x2 n0 n1 n2)
    (first | (with_reducible exact SS.out) | (with_reducible exact seenG_set6 hne (by with_reducible assumption)) | (with_reducible exact seenG_kept k7 (by with_reducible assumption)) | (with_reducible exact seenG_kept k8 (by with_reducible assumption)))
    (first
      | (go_at_call 58; refine (CO.out _).mono ?_; rintro e w7 ⟨rfl, k7⟩; (first | (with_reducible have KK7 := KD.trans k7 (fun _ _ g => g)) | (with_reducible have KK7 := KK8.trans k7 (fun _ _ g => g))); have A7 := (T3.out.step KK7).b1; have a0 := A7.cell 0; have b0 := A7.frozen 0; (try simp at a0); have a1 := A7.cell 1; have b1 := A7.frozen 1; (try simp at a1); have a2 := A7.cell 2; have b2 := A7.frozen 2; (try simp at a2); have a3 := A7.cell 3; have b3 := A7.frozen 3; (try simp at a3); have a4 := A7.cell 4; have b4 := A7.frozen 4; (try simp at a4); have a5 := A7.cell 5; have b5 := A7.frozen 5; (try simp at a5); have z7 : w.heap.size + 1 < w7.heap.size := A7.lt)
      | (go_at_call 59; (first | (with_reducible refine (CT2.out _ KD).mono ?_) | (with_reducible refine (CT2.out _ KK7).mono ?_)); rintro e w8 ⟨ta, tc, rfl, h8, k8⟩; (first | (with_reducible have KK8 := KD.trans k8 (fun _ _ g => g)) | (with_reducible have KK8 := KK7.trans k8 (fun _ _ g => g))); have A8 := (T3.out.step KK8).b1; have c0 := A8.cell 0; have d0 := A8.frozen 0; (try simp at c0); have c1 := A8.cell 1; have d1 := A8.frozen 1; (try simp at c1); have c2 := A8.cell 2; have d2 := A8.frozen 2; (try simp at c2); have c3 := A8.cell 3; have d3 := A8.frozen 3; (try simp at c3); have c4 := A8.cell 4; have d4 := A8.frozen 4; (try simp at c4); have c5 := A8.cell 5; have d5 := A8.frozen 5; (try simp at c5); have z8 : w.heap.size + 1 < w8.heap.size := A8.lt))
  all_goals
    have D := Lib.hid (st_done ⟨k, kF x0 n0, kF x1 n1, kF x2 n2, tl⟩ [] (sa := none) (sn := 0) (sc := 0) HTN.out rfl (T3.out.step KK8).kept A8 (h8.mono fun b o hb => hb.less (by omega)) (.nil none 0))
    clear h8 KK8 KK7 A7 A8
    go_wp2_with fail
    exact bodyPost_ret (results_cell_row Try.results37 _ _ _ _ _ _ _ rfl D.out.2 Try.underlying42 rfl (by kernel_rfl)) rfl D.out.1
/-- stepBehind, given stepsBehind of its Subs. -/
theorem behind_step (s : Sh) (IH : Hid (BehindL s.subs)) : BehindS s := by
  intro ok1 ok2 chl ac cc a cap w h1 h2 hc hk
  obtain ⟨d, hd⟩ := hk
  obtain ⟨⟨k, x0, x1, x2, n0, n1, n2⟩, subs⟩ := s
  rw [Sh.count] at hc
  by_cases hk3 : k = 3
  · subst hk3
    rcases chk_zero hd with ⟨_, _, hs⟩ | ⟨h12, _⟩
    · rw [st_mk, if_pos rfl]
      exact behindNcc_any x0 x1 x2 n0 n1 n2 subs IH ok1 ok2 chl ac cc a cap w h1 h2 (by omega) ⟨d + 1, hs⟩
    · have : (3 : Int) = 1 ∨ (3 : Int) = 2 := h12
      omega
  · obtain ⟨_, hf, _, _⟩ := chk_fine hd hk3
    rw [st_mk, if_neg hk3]
    exact behindTerms_any k hk3 x0 x1 x2 n0 n1 n2 hf ok1 chl ac cc _ ⟨_, _, _, rfl⟩ w h1 (by omega)
end
section
open Go.RowKit
set_option maxRecDepth 100000

/-- What hangs on the steps lies in other blocks than theirs, and than the chain's. -/
def okKK (B : Nat) (w : World) (u va : Value) (b o : Nat) : Prop := okM B w b o ∧ u.ownBlock ≠ some b ∧ va.ownBlock ≠ some b
theorem Holds.inb {w : World} {ok : Nat → Nat → Prop} {v : Value} {l : List Sh} (h : Holds cA w ok v l) : Holds cA w (fun b _ => b < w.heap.size) v l := by
  induction h with
  | nil a cap => exact .nil a cap
  | row b o cap subs u hn hok hr _ ih =>
    rcases Nat.eq_zero_or_pos subs.length with h0 | hpos
    · obtain rfl := List.length_eq_zero_iff.1 h0
      exact .nil _ _
    · exact .row b o cap subs u hn (World.block_lt_of_cell? w _ (hr 0 _ (List.getElem?_eq_getElem hpos) 0 _ rfl)) hr ih
theorem ORow.seen {w : World} {B n cap : Nat} {a : Option Addr} {ps : Prs} (h : ORow cA 27 w B (.slice a n cap) ps) : n = ps.length ∧ n ≤ cap ∧ ∀ b o, a = some ⟨b, o, none⟩ → b < w.heap.size := by
  rcases h.2 with ⟨e1, e0⟩ | ⟨g, c, cur, e1, hb, hg, hn, _⟩
  · injection e1 with e1 e2 e3
    subst e1 e2 e3
    exact ⟨e0.symm, Nat.le_refl _, fun b o e => by cases e⟩
  · injection e1 with e1 e2 e3
    subst e1 e2 e3
    exact ⟨rfl, hn, fun b o e => by cases e; exact (Array.getElem?_eq_some_iff.1 hg).1⟩
theorem neqSC : 42 ≠ 27 := by decide
/-- The end of a round: the step is put behind the others, the condition behind the chain. -/
theorem behind_round {B M : Nat} {w2 : World} {u va : Value} {qs : List SQ} {ps : Prs} {okc : Nat → Nat → Prop} {E : Nat} {ecs : Array Value} (hBM : B ≤ M) (hM : M ≤ w2.heap.size) (hu : RowD kS 42 w2 B u qs) (hum : ∀ k, u.ownBlock = some k → k < M) (hk : KidsD kS w2 (okKK B w2 u va) qs) (ha : ORow cA 27 w2 B va ps) (ham : ∀ k, va.ownBlock = some k → k < M)
    (hE : Blk w2 E 27 ecs) (q : SQ) (hq : kS.K w2 (okM M w2) q) (hd : Hd) (sb : List Sh) (vs : Value) (hs : Holds cA w2 okc vs sb) (hok : ∀ b o, okc b o → b < B) (hl : qs.length ≤ 200) (hl2 : ps.length ≤ 200) :
    ∃ a3 n3 c3 w3 a5 n5 c5 w5, (Builtin.append_ #[30, 30] 30 #[u, .slice (some ⟨w2.heap.size, 0, none⟩) 1 1]).run Try.prog (w2.alloc (.cells (arrS q.1.hd q.2.1 q.2.2) 42)) = .ok (.slice a3 n3 c3) w3 ∧ Blk w3 E 27 ecs ∧
      (Builtin.append_ #[22, 22] 22 #[va, .slice (some ⟨w3.heap.size, 0, none⟩) 1 1]).run Try.prog (w3.alloc (.cells (arrA hd vs) 27)) = .ok (.slice a5 n5 c5) w5 ∧
      RowD kS 42 w5 B (.slice a3 n3 c3) (qs ++ [q]) ∧ KidsD kS w5 (okKK B w5 (.slice a3 n3 c3) (.slice a5 n5 c5)) (qs ++ [q]) ∧ ORow cA 27 w5 B (.slice a5 n5 c5) (ps ++ [(.mk hd sb, vs)]) ∧ Kept (fun k => B ≤ k) w2 w5 := by
  have ka := (Kept.refl Nil w2).alloc (.cells (arrS q.1.hd q.2.1 q.2.2) 42)
  have hsa : (w2.alloc (.cells (arrS q.1.hd q.2.1 q.2.2) 42)).heap.size = w2.heap.size + 1 := by simp
  obtain ⟨u3, w3, r3, o3, k3, h3⟩ := RowD.append (P := Try.prog) (t := 30) (ok := okM M (w2.alloc (.cells (arrS q.1.hd q.2.1 q.2.2) 42))) elsS 30 (Kept.row ka hu (fun _ _ g => g)) (At.lit w2 42 (arrS q.1.hd q.2.1 q.2.2) _ (by rw [flatD_one]; rfl)) (KidsD.single (kS.move _ _ _ _ q hq (fun b _ _ _ _ hr => rangeAt_kept ka id hr) (fun b _ hb => hb.kept ka id))) (by simp; omega) (by rw [hsa]; omega)
  have k23 : Kept (fun k => u.ownBlock = some k) w2 w3 := (ka.mono (fun _ _ g => g.elim)).trans k3 (fun _ _ g => g)
  have hs23 := k23.size
  have ha3 : ORow cA 27 w3 B va ps := Kept.row k23 ha (fun g hg hf => by
    obtain ⟨_, cur, hc⟩ := ownsBlk ha g hg
    obtain ⟨_, cur2, hc2⟩ := ownsBlk hu g hf
    exact neqSC (blk_type hc2 hc))
  have hE3 : Blk w3 E 27 ecs := hE.kept k23 (fun hf => by
    obtain ⟨_, cur2, hc2⟩ := ownsBlk hu E hf
    exact neqSC (blk_type hc2 hE))
  have hs3 : Holds cA w3 okc vs sb := hs.kept k23 (fun b o hb hf => by have := (ownsBlk hu b hf).1; have := hok b o hb; omega)
  have ka5 := (Kept.refl Nil w3).alloc (.cells (arrA hd vs) 27)
  obtain ⟨v5, w5, r5, o5, k5, h5⟩ := ORow.append (P := Try.prog) (qs := [(.mk hd sb, vs)]) elsA kindA 22 (Kept.row ka5 ha3 (fun _ _ g => g)) (At.lit w3 27 (arrA hd vs) _ (by unfold flatC; simp [Sh.hd])) (fun p hp => by
    rw [List.mem_singleton] at hp; subst hp; exact hs3.keptN ka5) (by simp; omega) (by simp; omega)
  have k35 : Kept (fun k => va.ownBlock = some k) w3 w5 := (ka5.mono (fun _ _ g => g.elim)).trans k5 (fun _ _ g => g)
  obtain ⟨a3, n3, c3, rfl⟩ : ∃ a n c, u3 = .slice a n c := by obtain ⟨x, y, e, _⟩ := RowD.shape o3; exact ⟨x, _, y, e⟩
  obtain ⟨a5, n5, c5, rfl⟩ : ∃ a n c, v5 = .slice a n c := by obtain ⟨x, y, e⟩ := (At.own o5).shape; exact ⟨x, _, y, e⟩
  have hu5 : RowD kS 42 w5 B (.slice a3 n3 c3) (qs ++ [q]) := Kept.row k35 o3 (fun g hg hf => by
    obtain ⟨_, cur, hc⟩ := ownsBlk ha3 g hf
    obtain ⟨_, cur2, hc2⟩ := ownsBlk o3 g hg
    exact neqSC (blk_type hc2 hc))
  have own3 : ∀ b o, okM B w2 b o → u.ownBlock ≠ some b → (Value.slice a3 n3 c3).ownBlock ≠ some b := fun b o hb hne e => by
    rcases h3 with h3 | h3
    · rw [h3] at e; exact hne e
    · rw [h3] at e; cases e; have := hb.2.1; omega
  have own5 : ∀ b o, okM B w2 b o → va.ownBlock ≠ some b → (Value.slice a5 n5 c5).ownBlock ≠ some b := fun b o hb hne e => by
    rcases h5 with h5 | h5
    · rw [h5] at e; exact hne e
    · rw [h5] at e; cases e; have := hb.2.1; simp at this; omega
  have mv : ∀ x : SQ, kS.K w2 (okKK B w2 u va) x → kS.K w5 (okKK B w5 (.slice a3 n3 c3) (.slice a5 n5 c5)) x := fun x hx => kS.move _ _ _ _ x hx (fun b _ _ hb _ hr => rangeAt_kept k35 hb.2.2 (rangeAt_kept k23 hb.2.1 hr)) (fun b o hb => ⟨(hb.1.kept k23 hb.2.1).kept k35 hb.2.2, own3 b o hb.1 hb.2.1, own5 b o hb.1 hb.2.2⟩)
  refine ⟨a3, n3, c3, w3, a5, n5, c5, w5, r3, hE3, r5, hu5, fun x hx => ?_, o5, ?_⟩
  · rcases List.mem_append.1 hx with hx | hx
    · exact mv x (hk x hx)
    · rw [List.mem_singleton] at hx
      subst hx
      exact mv x (kS.mono hq fun b o hb => ⟨hb.less hBM, fun e => by have := hum b e; have := hb.1; omega, fun e => by have := ham b e; have := hb.1; omega⟩)
  · exact (k23.mono (fun k _ e => (ownsBlk hu k e).1)).trans (k35.mono (fun k _ e => (ownsBlk ha3 k e).1)) (fun _ _ g => g)
set_option maxHeartbeats 8000000 in
theorem behindL_step (l : List Sh) (IH : Hid (∀ x ∈ l, BehindS x)) : BehindL l := by
  intro ok1 ok2 chl ac cc a cap w h1 h2 hc hk
  obtain ⟨cps, hcps, hcl, hck⟩ := h1.inb.pairs kindA
  obtain ⟨ls, hls, hll, hlk⟩ := h2.inb.pairs kindA
  have hcn : cps.length = chl.length := by rw [← tr_len, hcps]
  have hll2 : ls.length = l.length := by rw [← tr_len, hls]
  have hcll := length_countL l
  have CC := Lib.hid (cloneAny_any (fun b _ => b < w.heap.size) w hcl hck (by omega))
  obtain ⟨len, hlen⟩ : ∃ len, l.length = len := ⟨_, rfl⟩
  rw [hlen] at hll hll2 h2 ⊢
  have HL := Lib.hid hlen
  have HLS := Lib.hid hls
  have HLL := Lib.hid hll
  have HLK := Lib.hid hlk
  have HCP := Lib.hid hcps
  have HCK := Lib.hid hck
  have HC := Lib.hid hc
  have HKd := Lib.hid hk
  have HL2 := Lib.hid hll2
  have HCn := Lib.hid hcn
  have hLen : len ≤ 100 := by omega
  clear hls hlk hcps hck hc hk hll2 hcn hlen h1 hcl hcll
  generalize chl.length = n1 at CC HC HCn ⊢
  go_enter Try.func33, Try.ntmps33
  go_wp2_with fail
  refine CC.out.mono ?_
  rintro e w1 ⟨va, rfl, ho, k1⟩
  have K1 := Lib.hid k1
  have HO := Lib.hid ho
  obtain ⟨a1, m1, c1, rfl⟩ : ∃ a n c, va = .slice a n c := by obtain ⟨x, y, e⟩ := (At.own ho).shape; exact ⟨x, _, y, e⟩
  clear ho k1 CC
  go_wp2_with fail
  go_loopw [5, 6, 13] (fun va u i wr => ∃ (j : Nat) (qs : List SQ), j ≤ len ∧ i = .int .i64 j ∧ trS qs = stL (l.take j) chl ∧ RowD kS 42 wr w.heap.size u qs ∧ KidsD kS wr (okKK w.heap.size wr u va) qs ∧ ORow cA 27 wr w.heap.size va (cps ++ ls.take j) ∧ Kept Nil w wr) (fun _ _ i _ => len - (intOf i).toNat)
  case atStart => exact ⟨0, [], by omega, rfl, by rw [List.take_zero, stL_nil]; rfl, RowD.nil _, KidsD.nil, by rw [List.take_zero, List.append_nil]; exact HO.out, K1.out⟩
  case round =>
    obtain ⟨j, qs, hj, rfl, hqs, hu, hk, ha, hK⟩ := hrel
    have HQ := Lib.hid hqs
    have HU := Lib.hid hu
    have HKi := Lib.hid hk
    have HA := Lib.hid ha
    have HK := Lib.hid hK
    have hww : w.heap.size ≤ wr.heap.size := hK.size
    clear hqs hu hk ha hK K1 HO
    obtain ⟨aa, na, ca, rfl⟩ : ∃ a n c, u5 = .slice a n c := by obtain ⟨x, y, e⟩ := (At.own HA.out).shape; exact ⟨x, _, y, e⟩
    obtain ⟨au, nu, cu, rfl⟩ : ∃ a n c, u6 = .slice a n c := by obtain ⟨x, y, e, _⟩ := RowD.shape HU.out; exact ⟨x, _, y, e⟩
    by_cases hlt : j < len
    · obtain ⟨⟨⟨⟨k', x0', x1', x2', n0', n1', n2'⟩, sb⟩, vs⟩, hx⟩ : ∃ x, ls[j]? = some x := ⟨_, List.getElem?_eq_getElem (by have := HL2.out; omega)⟩
      have hlx : l[j]? = some (.mk ⟨k', x0', x1', x2', n0', n1', n2'⟩ sb) := by rw [← HLS.out]; unfold tr; rw [List.getElem?_map, hx]; rfl
      have hkid : Holds cA w (fun b _ => b < w.heap.size) vs sb := HLK.out _ (List.mem_of_getElem? hx)
      obtain ⟨a', cap', rfl⟩ := hkid.shape
      have hLj : Lies cA wr (.slice a len cap) ls := At.keptN HLL.out HK.out
      obtain ⟨b, o, rfl, hrng⟩ := Lies.at_ kindA hLj hx
      have hcm := count_mem (List.mem_of_getElem? hlx)
      have hsum := countL_take_succ hlx
      have hle := countL_take_le l (j + 1)
      have hlj := length_countL (l.take j)
      have hljl : (l.take j).length = j := by rw [List.length_take]; have := HL.out; omega
      obtain ⟨dk, hdk⟩ := HKd.out
      have hchk := chkL_all.1 hdk _ (List.mem_of_getElem? hlx)
      have hchn : chl.length = n1 := by have := HCn.out; rw [← HCP.out, tr_len]; exact this
      obtain ⟨sn1, sn2, sn3⟩ := ORow.seen HA.out
      have hkids : Kids cA wr (fun b _ => b < wr.heap.size) (cps ++ ls.take j) := fun p hp => by
        refine (Holds.keptN (ok := fun b _ => b < w.heap.size) ?_ HK.out).mono (fun b o hb => by omega)
        rcases List.mem_append.1 hp with hp | hp
        · exact HCK.out p hp
        · exact HLK.out p (List.mem_of_mem_take hp)
      have hch : Holds cA wr (fun b _ => b < wr.heap.size) (.slice aa na ca) (tr (cps ++ ls.take j)) := by
        have := Lies.holds kindA (ok := fun b _ => b < wr.heap.size) (a := aa) (n := na) (cap := ca) (by have := At.own HA.out; rw [sn1] at this ⊢; exact this) hkids sn2 (fun b o e => sn3 b o e)
        exact this
      have htr : tr (cps ++ ls.take j) = chl ++ l.take j := by rw [tr_append, HCP.out]; congr 1; rw [← HLS.out]; unfold tr; rw [List.map_take]
      rw [htr] at hch
      have hna : (chl ++ l.take j).length = na := by rw [← hch.fits.1]
      have HX0 := IH.out _ (List.mem_of_getElem? hlx)
      have hchl2 : (chl ++ l.take j).length + (Sh.mk ⟨k', x0', x1', x2', n0', n1', n2'⟩ sb).count ≤ 100 := by rw [List.length_append, hljl, hchn]; have := HC.out; omega
      have HX : Hid (∀ W, Kept Nil wr W → Calls Try.prog 37 #[.slice aa na ca, vA ⟨k', x0', x1', x2', n0', n1', n2'⟩ (.slice a' sb.length cap')] W (StEnd ((Sh.mk ⟨k', x0', x1', x2', n0', n1', n2'⟩ sb).st (chl ++ l.take j)).hd ((Sh.mk ⟨k', x0', x1', x2', n0', n1', n2'⟩ sb).st (chl ++ l.take j)).subs W)) := Lib.hid fun W kW => by
        have := HX0 _ _ (chl ++ l.take j) aa ca a' cap' W (by rw [hna]; exact hch.keptN kW) ((hkid.keptN HK.out).keptN kW) hchl2 ⟨dk, hchk⟩
        rw [hna] at this
        exact this
      have HRng : Hid (wr.rangeAt b (o + j * 8) (cA ⟨k', x0', x1', x2', n0', n1', n2'⟩ (.slice a' sb.length cap'))) := Lib.hid hrng
      have HS : Hid (Holds cA w (fun b _ => b < w.heap.size) (.slice a' sb.length cap') sb) := Lib.hid hkid
      have HN : Hid (ls.take (j + 1) = ls.take j ++ [(Sh.mk ⟨k', x0', x1', x2', n0', n1', n2'⟩ sb, .slice a' sb.length cap')]) := Lib.hid (by rw [List.take_add_one, hx]; rfl)
      have HSt : Hid (stL (l.take (j + 1)) chl = stL (l.take j) chl ++ [(Sh.mk ⟨k', x0', x1', x2', n0', n1', n2'⟩ sb).st (chl ++ l.take j)]) := Lib.hid (stL_take_succ hlx)
      have HQl : Hid (qs.length ≤ 200) := Lib.hid (by have := congrArg List.length HQ.out; rw [trS_len, stL_length, hljl] at this; omega)
      have HPl : Hid ((cps ++ ls.take j).length ≤ 200) := Lib.hid (by rw [← tr_len, htr, hna]; have := hchl2; rw [hna] at this; omega)
      unfold StEnd at HX
      generalize (Sh.mk ⟨k', x0', x1', x2', n0', n1', n2'⟩ sb).st (chl ++ l.take j) = sj at HX HSt
      obtain ⟨⟨jk, jk0, jk1, jk2, jts⟩, jsb⟩ := sj
      replace HX : Hid (∀ W, Kept Nil wr W → Calls Try.prog 37 #[.slice aa na ca, vA ⟨k', x0', x1', x2', n0', n1', n2'⟩ (.slice a' sb.length cap')] W (fun e w' => ∃ ta tc a cap, e = .returned (vS ⟨jk, jk0, jk1, jk2, jts⟩ (.slice ta jts.length tc) (.slice a jsb.length cap)) ∧ TsAt w' (okM W.heap.size w') (.slice ta jts.length tc) jts ∧ SHolds w' (okM W.heap.size w') (.slice a jsb.length cap) jsb ∧ Kept Nil W w')) := HX
      clear hx hlx hkid hLj hrng hcm hsum hle hlj hljl hdk hchk hchn hkids hch htr hna HX0 hchl2 sn1 sn2 sn3
      generalize sb.length = len' at HX HRng HS HN
      generalize jts.length = jtn at HX
      generalize jsb.length = jsn at HX
      go_wp2_with ((with_reducible refine wpList_load_A rfl (.tmp 15) rfl _ _ rfl ⟨k', x0', x1', x2', n0', n1', n2'⟩ (.slice a' len' cap') ?_ ?_)
                   · exact HRng.out)
      have KA := Lib.hid ((Kept.refl Nil wr).alloc (.cells (arrA ⟨k', x0', x1', x2', n0', n1', n2'⟩ (.slice a' len' cap')) 27))
      have BY := Lib.hid (Blk.new wr 27 (arrA ⟨k', x0', x1', x2', n0', n1', n2'⟩ (.slice a' len' cap')))
      have hsA : (wr.alloc (.cells (arrA ⟨k', x0', x1', x2', n0', n1', n2'⟩ (.slice a' len' cap')) 27)).heap.size = wr.heap.size + 1 := by simp
      refine (HX.out _ KA.out).mono ?_
      rintro e w2 ⟨ta2, tc2, a2, c2, rfl, h2t, h2s, k2⟩
      have k02 : Kept Nil wr w2 := KA.out.trans k2 (fun _ _ g => g)
      have hs2 := k2.size
      rw [hsA] at h2t h2s hs2
      obtain ⟨a3, n3, c3, w3, a5, n5, c5, w5, r3, b3, r5, U5, K5, A5, k5⟩ := behind_round (B := w.heap.size) (M := wr.heap.size + 1) (okc := fun b _ => b < w.heap.size) (by omega) hs2 (Kept.row k02 HU.out (fun _ _ g => g)) (fun g hg => by have := (HU.out.base g hg).2.1; omega) (fun x hx => kS.move _ _ _ _ x (HKi.out x hx) (fun b _ _ _ _ hr => rangeAt_kept k02 id hr) (fun b o hb => ⟨hb.1.kept k02 id, hb.2⟩)) (Kept.row k02 HA.out (fun _ _ g => g)) (fun g hg => by obtain ⟨_, cur, hc⟩ := ownsBlk HA.out g hg; have := hc.lt; omega)
        (BY.out.kept k2 id) (.mk ⟨jk, jk0, jk1, jk2, jts⟩ jsb, .slice ta2 jtn tc2, .slice a2 jsn c2) ⟨h2t, h2s⟩ ⟨k', x0', x1', x2', n0', n1', n2'⟩ sb (.slice a' len' cap') (HS.out.keptN (HK.out.trans k02 (fun _ _ g => g))) (fun b o hb => hb) HQl.out HPl.out
      have RR3 := Lib.hid r3
      have RR5 := Lib.hid r5
      have B3 := Lib.hid b3
      have U5' := Lib.hid U5
      have K5' := Lib.hid K5
      have A5' : Hid (ORow cA 27 w5 w.heap.size (.slice a5 n5 c5) (cps ++ ls.take (j + 1))) := Lib.hid (by rw [HN.out, ← List.append_assoc]; exact A5)
      have KK5 := Lib.hid ((HK.out.trans k02 (fun _ _ g => g)).trans k5 (fun i hi e => by omega))
      clear h2t h2s k2 k02 hs2 r3 b3 r5 U5 K5 A5 k5 hsA HX
      go_wp2_with (first
        | ((with_reducible refine wpList_load_A rfl (.tmp 8) rfl _ _ rfl ⟨k', x0', x1', x2', n0', n1', n2'⟩ (.slice a' len' cap') ?_ ?_)
           · exact World.rangeAt_of_block B3.out 0 8)
        | (at_builtin; refine wpList_append_run rfl (.tmp 17) (.tmp 21) 30 rfl _ _ rfl rfl RR3.out ?_)
        | (at_builtin; refine wpList_append_run rfl (.tmp 23) (.tmp 25) 22 rfl _ _ rfl rfl RR5.out ?_))
      go_roundw
      case rel =>
        refine ⟨j + 1, qs ++ [(.mk ⟨jk, jk0, jk1, jk2, jts⟩ jsb, .slice ta2 jtn tc2, .slice a2 jsn c2)], by omega, by go_num, ?_, U5'.out, K5'.out, A5'.out, KK5.out⟩
        rw [trS_append, HQ.out, HSt.out]; rfl
      case measure => simp [intOf]; omega
    · obtain rfl : len = j := by omega
      have HE : Hid (trS qs = stL l chl) := Lib.hid (by rw [HQ.out, ← HL.out]; simp)
      have hh := (show GB kS 42 wr w.heap.size (.slice au nu cu) qs from ⟨HU.out, HKi.out.mono fun b o hb => ⟨hb.1, hb.2.1⟩⟩).sholds
      rw [HE.out] at hh
      have HH := Lib.hid hh
      have hfit := hh.fits.1
      clear hh
      go_wp2_with fail
      go_ret
      exact ⟨au, cu, by rw [← hfit]; rfl, by rw [← hfit]; exact HH.out, HK.out⟩
theorem behind_all : (∀ s : Sh, BehindS s) ∧ ∀ l : List Sh, BehindL l := by
  have hs : ∀ s : Sh, BehindS s := Sh.ind fun hd subs ih => behind_step (.mk hd subs) (Lib.hid (behindL_step subs (Lib.hid ih)))
  exact ⟨hs, fun l => behindL_step l (Lib.hid fun x _ => hs x)⟩
end
end Go.Proofs.Ytoceogbanlmnoaa
