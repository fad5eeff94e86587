/- Layer comp: steps as trees: how many there are, what is right, what is alike, their chains. No program. – Rows of elements of any kind: their cells, what hangs on each; rows that a call builds by append; lists of slices of them. No program. – Layer comp: steps in memory: what it means that a slice holds tests, or steps; both kinds of steps. -/
import Derived.Test.YtljefbfjehblpaaGreatA1
import Derived.Test.YtljefbfjehblpaaGreatA3
namespace Go.Proofs.YtljefbfjehblpaaGreat
section
section
open Go.RowKit
set_option maxRecDepth 100000

/-- A test: its field, how far back, the field there. -/
abbrev Tst := Int × Int × Int
/-- What a step says by itself: its kind, its key, its tests. -/
structure SH where
  k : Int
  k0 : Int
  k1 : Int
  k2 : Int
  ts : List Tst
inductive St where
  | mk (h : SH) (subs : List St)
def St.hd : St → SH
  | .mk h _ => h
def St.subs : St → List St
  | .mk _ l => l
theorem St.eta (s : St) : St.mk s.hd s.subs = s := by cases s; rfl
theorem St.ind {P : St → Prop} (h : ∀ hd subs, (∀ x ∈ subs, P x) → P (.mk hd subs)) : ∀ s, P s := by
  intro s
  exact St.rec (motive_1 := P) (motive_2 := fun l => ∀ x ∈ l, P x) (fun hd subs ih => h hd subs ih) (by simp) (fun a l ha hl x hx => by
    rcases List.mem_cons.1 hx with rfl | hx
    · exact ha
    · exact hl x hx) s
/-- All of them, in a list as in a tree. -/
theorem St.ind2 {P : St → Prop} {Q : List St → Prop} (h : ∀ hd subs, Q subs → P (.mk hd subs)) (h0 : Q []) (h1 : ∀ a l, P a → Q l → Q (a :: l)) : (∀ s, P s) ∧ ∀ l, Q l :=
  ⟨fun s => St.rec (motive_1 := P) (motive_2 := Q) h h0 h1 s, fun l => by
    induction l with
    | nil => exact h0
    | cons a l ih => exact h1 a l (St.rec (motive_1 := P) (motive_2 := Q) h h0 h1 a) ih⟩

/-! ### How many there are -/
mutual
def St.cnt : St → Nat
  | .mk _ l => 1 + cntL l
def cntL : List St → Nat
  | [] => 0
  | s :: r => s.cnt + cntL r
end
theorem cntL_append (a b : List St) : cntL (a ++ b) = cntL a + cntL b := by
  induction a with
  | nil => simp [cntL]
  | cons x r ih => simp only [List.cons_append, cntL, ih]; omega
theorem cnt_pos (s : St) : 0 < s.cnt := by cases s; unfold St.cnt; omega
theorem length_cntL : ∀ l : List St, l.length ≤ cntL l
  | [] => by simp
  | s :: r => by
    have := length_cntL r
    have := cnt_pos s
    simp only [List.length_cons, cntL]; omega
theorem cnt_mem {l : List St} {s : St} (h : s ∈ l) : s.cnt ≤ cntL l := by
  induction l with
  | nil => cases h
  | cons a r ih =>
    simp only [cntL]
    rcases List.mem_cons.1 h with rfl | h
    · omega
    · have := ih h; omega
theorem cntL_take_succ {l : List St} {i : Nat} {s : St} (h : l[i]? = some s) : cntL (l.take (i + 1)) = cntL (l.take i) + s.cnt := by
  rw [List.take_add_one, h, cntL_append]
  simp [cntL]
theorem cntL_take_le (l : List St) (i : Nat) : cntL (l.take i) ≤ cntL l := by
  have := cntL_append (l.take i) (l.drop i)
  rw [List.take_append_drop] at this
  omega
mutual
/-- With the tests. -/
def St.mass : St → Nat
  | .mk h l => 1 + h.ts.length + massL l
def massL : List St → Nat
  | [] => 0
  | s :: r => s.mass + massL r
end
theorem massL_append (a b : List St) : massL (a ++ b) = massL a + massL b := by
  induction a with
  | nil => simp [massL]
  | cons x r ih => simp only [List.cons_append, massL, ih]; omega
theorem mass_pos (s : St) : 0 < s.mass := by cases s; unfold St.mass; omega
theorem length_massL : ∀ l : List St, l.length ≤ massL l
  | [] => by simp
  | s :: r => by
    have := length_massL r
    have := mass_pos s
    simp only [List.length_cons, massL]; omega
theorem mass_mem {l : List St} {s : St} (h : s ∈ l) : s.mass ≤ massL l := by
  induction l with
  | nil => cases h
  | cons a r ih =>
    simp only [massL]
    rcases List.mem_cons.1 h with rfl | h
    · omega
    · have := ih h; omega
theorem massL_take_succ {l : List St} {i : Nat} {s : St} (h : l[i]? = some s) : massL (l.take (i + 1)) = massL (l.take i) + s.mass := by
  rw [List.take_add_one, h, massL_append]
  simp [massL]
theorem massL_take_le (l : List St) (i : Nat) : massL (l.take i) ≤ massL l := by
  have := massL_append (l.take i) (l.drop i)
  rw [List.take_append_drop] at this
  omega
theorem cnt_le_mass : (∀ s : St, s.cnt ≤ s.mass) ∧ ∀ l, cntL l ≤ massL l := by
  refine St.ind2 (fun hd subs ih => ?_) (by simp [cntL]) (fun a l ha hl => ?_)
  · rw [St.cnt, St.mass]; omega
  · rw [cntL, massL]; omega

mutual
/-- No list of tests is longer than memory allows. -/
def St.wide : St → Prop
  | .mk h l => h.ts.length ≤ 140737488355328 ∧ wideL l
def wideL : List St → Prop
  | [] => True
  | s :: r => s.wide ∧ wideL r
end
theorem wideL_mem {l : List St} (h : wideL l) {s : St} (hs : s ∈ l) : s.wide := by
  induction l with
  | nil => cases hs
  | cons a r ih =>
    rw [wideL] at h
    rcases List.mem_cons.1 hs with rfl | hs
    · exact h.1
    · exact ih h.2 hs
theorem wideL_of {l : List St} (h : ∀ s ∈ l, s.wide) : wideL l := by
  induction l with
  | nil => rw [wideL]; trivial
  | cons a r ih => rw [wideL]; exact ⟨h a (by simp), ih fun s hs => h s (by simp [hs])⟩

/-! ### What is right -/
/-- A test by itself. -/
def tOK (t : Tst) : Bool := decide ((0 ≤ t.1 ∧ t.1 ≤ 2) ∧ (-1 ≤ t.2.1 ∧ t.2.1 ≤ 15) ∧ (0 ≤ t.2.2 ∧ t.2.2 ≤ 2) ∧ (t.2.1 = -1 → t.2.2 < t.1))
/-- Tests, behind a field. -/
def tsOK : Int → List Tst → Bool
  | _, [] => true
  | last, t :: r => decide (last < t.1) && tOK t && tsOK t.1 r
theorem tsOK_cons (last : Int) (t : Tst) (r : List Tst) : tsOK last (t :: r) = (decide (last < t.1) && tOK t && tsOK t.1 r) := rfl
/-- The field behind which the tests from j on stand. -/
def lastF (ts : List Tst) : Nat → Int
  | 0 => -1
  | j + 1 => match ts[j]? with | some t => t.1 | none => -1
theorem lastF_succ {ts : List Tst} {j : Nat} {t : Tst} (h : ts[j]? = some t) : lastF ts (j + 1) = t.1 := by
  show (match ts[j]? with | some t => t.1 | none => -1) = t.1
  rw [h]
theorem tsOK_drop {ts : List Tst} {j : Nat} {t : Tst} (h : ts[j]? = some t) : tsOK (lastF ts j) (ts.drop j) = (decide (lastF ts j < t.1) && tOK t && tsOK (lastF ts (j + 1)) (ts.drop (j + 1))) := by
  obtain ⟨hl, e⟩ := List.getElem?_eq_some_iff.1 h
  rw [List.drop_eq_getElem_cons hl, e, lastF_succ h]
  rfl
def okK (n : Int) : Bool := decide (0 ≤ n ∧ n ≤ 4096)
def okK3 (a b c : Int) : Bool := okK a && (okK b && okK c)
def z3 (a b c : Int) : Bool := decide (a = 0 ∧ b = 0 ∧ c = 0)
mutual
/-- As the program asks: fewer than 16 in a list. -/
def St.pAt : St → Int → Bool
  | .mk h l, d => if 3 < d then false else if h.k = 3 then z3 h.k0 h.k1 h.k2 && (decide (h.ts.length = 0) && (decide (l.length ≠ 0 ∧ l.length < 16) && pLAt l (d + 1)))
    else if h.k = 1 ∨ h.k = 2 then okK3 h.k0 h.k1 h.k2 && (decide (l.length = 0) && tsOK (-1) h.ts) else false
def pLAt : List St → Int → Bool
  | [], _ => true
  | s :: r, d => s.pAt d && pLAt r d
end
mutual
/-- As the document says: 16 in all. -/
def St.rAt : St → Int → Bool
  | .mk h l, d => if 3 < d ∨ h.k < 1 ∨ 3 < h.k ∨ 16 < (St.mk h l).cnt then false else if h.k = 3 then z3 h.k0 h.k1 h.k2 && (decide (h.ts.length = 0) && (decide (l.length ≠ 0) && rLAt l (d + 1)))
    else okK3 h.k0 h.k1 h.k2 && (decide (l.length = 0) && tsOK (-1) h.ts)
def rLAt : List St → Int → Bool
  | [], _ => true
  | s :: r, d => s.rAt d && rLAt r d
end
theorem pLAt_all {l : List St} {d : Int} : pLAt l d = l.all (fun s => s.pAt d) := by
  induction l with
  | nil => rfl
  | cons a r ih => simp only [pLAt, List.all_cons, ih]
theorem rLAt_all {l : List St} {d : Int} : rLAt l d = l.all (fun s => s.rAt d) := by
  induction l with
  | nil => rfl
  | cons a r ih => simp only [rLAt, List.all_cons, ih]
theorem pLAt_drop {l : List St} {d : Int} {j : Nat} {x : St} (h : l[j]? = some x) : pLAt (l.drop j) d = (x.pAt d && pLAt (l.drop (j + 1)) d) := by
  obtain ⟨hl, e⟩ := List.getElem?_eq_some_iff.1 h
  rw [List.drop_eq_getElem_cons hl, e]
  rfl
theorem rLAt_drop {l : List St} {d : Int} {j : Nat} {x : St} (h : l[j]? = some x) : rLAt (l.drop j) d = (x.rAt d && rLAt (l.drop (j + 1)) d) := by
  obtain ⟨hl, e⟩ := List.getElem?_eq_some_iff.1 h
  rw [List.drop_eq_getElem_cons hl, e]
  rfl
theorem right_eq : (∀ (s : St) (d : Int), s.rAt d = (s.pAt d && decide (s.cnt ≤ 16))) ∧ ∀ (l : List St) (d : Int), cntL l ≤ 15 → rLAt l d = pLAt l d := by
  refine St.ind2 (fun hd subs ih d => ?_) (fun d _ => rfl) (fun a l ha hl d h => ?_)
  · have hc : (St.mk hd subs).cnt = 1 + cntL subs := by rw [St.cnt]
    have hlen := length_cntL subs
    simp only [St.rAt, St.pAt]
    by_cases h16 : 16 < (St.mk hd subs).cnt
    · rw [if_pos (.inr (.inr (.inr h16))), decide_eq_false (by omega : ¬ (St.mk hd subs).cnt ≤ 16), Bool.and_false]
    · rw [decide_eq_true (by omega : (St.mk hd subs).cnt ≤ 16), Bool.and_true]
      by_cases h3 : 3 < d
      · rw [if_pos (.inl h3), if_pos h3]
      · rw [if_neg h3]
        by_cases hk3 : hd.k = 3
        · rw [if_neg (by omega), if_pos hk3, if_pos hk3, ih (d + 1) (by omega)]
          congr 3
          rw [Bool.eq_iff_iff, decide_eq_true_iff, decide_eq_true_iff]
          exact ⟨fun h => ⟨h, by omega⟩, fun h => h.1⟩
        · rw [if_neg hk3]
          by_cases hk : hd.k = 1 ∨ hd.k = 2
          · rw [if_neg (by omega), if_neg hk3, if_pos hk]
          · rw [if_pos (by omega), if_neg hk3, if_neg hk]
  · rw [cntL] at h
    have := cnt_pos a
    simp only [rLAt, pLAt]
    rw [ha d, decide_eq_true (by omega : a.cnt ≤ 16), Bool.and_true, hl d (by omega)]
/-- A step may be. -/
def St.right (s : St) : Bool := s.pAt 1 && decide (s.cnt ≤ 16)
theorem rAt_right (s : St) : s.rAt 1 = s.right := right_eq.1 s 1

/-! ### What is alike -/
def SH.same (a b : SH) : Bool := decide (a.k = b.k) && (decide (a.k0 = b.k0 ∧ a.k1 = b.k1 ∧ a.k2 = b.k2) && decide (a.ts = b.ts))
mutual
def St.same : St → St → Bool
  | .mk h l, t => h.same t.hd && sameSL l t.subs
def sameSL : List St → List St → Bool
  | [], l => l.isEmpty
  | a :: r, l => match l with
    | [] => false
    | b :: q => a.same b && sameSL r q
end
theorem sameS_mk (h h' : SH) (l l' : List St) : (St.mk h l).same (.mk h' l') = (h.same h' && sameSL l l') := by
  rw [St.same]
  rfl
theorem sameSL_length : ∀ {l l' : List St}, sameSL l l' = true → l.length = l'.length
  | [], [], _ => rfl
  | [], b :: q, h => by simp [sameSL] at h
  | a :: r, [], h => by simp [sameSL] at h
  | a :: r, b :: q, h => by
    simp only [sameSL, Bool.and_eq_true] at h
    rw [List.length_cons, List.length_cons, sameSL_length h.2]
theorem sameSL_ne {l l' : List St} (h : l.length ≠ l'.length) : sameSL l l' = false := by
  cases hs : sameSL l l'
  · rfl
  · exact absurd (sameSL_length hs) h
theorem sameSL_drop {l l' : List St} {j : Nat} {x y : St} (h : l[j]? = some x) (h' : l'[j]? = some y) : sameSL (l.drop j) (l'.drop j) = (x.same y && sameSL (l.drop (j + 1)) (l'.drop (j + 1))) := by
  obtain ⟨hl, e⟩ := List.getElem?_eq_some_iff.1 h
  obtain ⟨hl', e'⟩ := List.getElem?_eq_some_iff.1 h'
  rw [List.drop_eq_getElem_cons hl, e, List.drop_eq_getElem_cons hl', e']
  rfl
theorem SH.same_refl (h : SH) : h.same h = true := by unfold SH.same; simp
theorem sameS_refl : (∀ s : St, s.same s = true) ∧ ∀ l, sameSL l l = true := by
  refine St.ind2 (fun hd subs ih => ?_) rfl (fun a l ha hl => ?_)
  · rw [sameS_mk, SH.same_refl, ih]; simp
  · show (a.same a && sameSL l l) = true
    rw [ha, hl]; rfl
/-- Lists of tests, held against each other. -/
def eqTs : List Tst → List Tst → Bool
  | [], l => l.isEmpty
  | a :: r, l => match l with
    | [] => false
    | b :: q => decide (a = b) && eqTs r q
theorem eqTs_iff : ∀ {a b : List Tst}, eqTs a b = true ↔ a = b
  | [], [] => by simp [eqTs]
  | [], b :: q => by simp [eqTs]
  | a :: r, [] => by simp [eqTs]
  | a :: r, b :: q => by
    simp only [eqTs, Bool.and_eq_true, decide_eq_true_iff, eqTs_iff, List.cons.injEq]
theorem eqTs_decide (a b : List Tst) : decide (a = b) = eqTs a b := by
  rw [Bool.eq_iff_iff, decide_eq_true_iff, eqTs_iff]
theorem eqTs_drop {l l' : List Tst} {j : Nat} {x y : Tst} (h : l[j]? = some x) (h' : l'[j]? = some y) : eqTs (l.drop j) (l'.drop j) = (decide (x = y) && eqTs (l.drop (j + 1)) (l'.drop (j + 1))) := by
  obtain ⟨hl, e⟩ := List.getElem?_eq_some_iff.1 h
  obtain ⟨hl', e'⟩ := List.getElem?_eq_some_iff.1 h'
  rw [List.drop_eq_getElem_cons hl, e, List.drop_eq_getElem_cons hl', e']
  rfl
theorem eqTs_ne {l l' : List Tst} (h : l.length ≠ l'.length) : eqTs l l' = false := by
  cases hs : eqTs l l'
  · rfl
  · exact absurd (congrArg List.length (eqTs_iff.1 hs)) h

/-! ### Chains -/
mutual
/-- The chains of a step, of steps, behind a beginning. -/
def St.chs : St → List St → List (List St)
  | .mk h subs, ab => (if h.k = 3 then chSL subs ab else []) ++ [ab ++ [.mk h subs]]
def chSL : List St → List St → List (List St)
  | [], _ => []
  | s :: r, ab => s.chs ab ++ chSL r (ab ++ [s])
end
theorem chsS_mk (h : SH) (subs ab : List St) : (St.mk h subs).chs ab = (if h.k = 3 then chSL subs ab else []) ++ [ab ++ [.mk h subs]] := by rw [St.chs]
theorem chSL_nil (ab : List St) : chSL [] ab = [] := by rw [chSL]
theorem chSL_cons (s : St) (r ab : List St) : chSL (s :: r) ab = s.chs ab ++ chSL r (ab ++ [s]) := by rw [chSL]
theorem chSL_append : ∀ a b ab : List St, chSL (a ++ b) ab = chSL a ab ++ chSL b (ab ++ a)
  | [], b, ab => by rw [List.nil_append, chSL_nil, List.nil_append, List.append_nil]
  | s :: a, b, ab => by rw [List.cons_append, chSL_cons, chSL_cons, chSL_append a b (ab ++ [s]), List.append_assoc, List.append_assoc]; rfl
theorem chSL_take_succ {l : List St} {j : Nat} {x : St} (h : l[j]? = some x) (ab : List St) : chSL (l.take (j + 1)) ab = chSL (l.take j) ab ++ x.chs (ab ++ l.take j) := by
  rw [List.take_add_one, h, chSL_append]
  congr 1
  show chSL [x] _ = _
  rw [chSL_cons, chSL_nil, List.append_nil]
theorem chSL_len_le : (∀ (s : St) (ab : List St), (s.chs ab).length ≤ s.cnt) ∧ ∀ (l ab : List St), (chSL l ab).length ≤ cntL l := by
  refine St.ind2 (fun hd subs ih ab => ?_) (fun ab => by simp [chSL_nil]) (fun a l ha hl ab => ?_)
  · have := ih ab
    rw [chsS_mk, St.cnt, List.length_append]
    split
    · simp; omega
    · simp
  · have h1 := ha ab
    have h2 := hl (ab ++ [a])
    rw [chSL_cons, List.length_append, cntL]
    omega
/-- What is in a chain weighs no more than all. -/
theorem chSL_mass : (∀ (s : St) (ab x : List St), x ∈ s.chs ab → massL x ≤ massL ab + s.mass) ∧ ∀ l ab x : List St, x ∈ chSL l ab → massL x ≤ massL ab + massL l := by
  refine St.ind2 (fun hd subs ih ab x hx => ?_) (fun ab x hx => by simp [chSL_nil] at hx) (fun a l ha hl ab x hx => ?_)
  · rw [chsS_mk] at hx
    rw [St.mass]
    rcases List.mem_append.1 hx with hx | hx
    · split at hx
      · have := ih ab x hx; omega
      · cases hx
    · rw [List.mem_singleton] at hx
      subst hx
      rw [massL_append]
      simp [massL, St.mass]
  · rw [chSL_cons] at hx
    rw [massL]
    rcases List.mem_append.1 hx with hx | hx
    · have := ha ab x hx; omega
    · have := hl (ab ++ [a]) x hx
      rw [massL_append] at this
      simp only [massL] at this
      omega
theorem chainS_mass {l x : List St} (h : x ∈ chSL l []) : massL x ≤ massL l := by have := chSL_mass.2 l [] x h; simpa [massL] using this
end
section
open Go.RowKit
set_option maxRecDepth 100000

/-- A kind of element: how many cells, which; what hangs on one in memory, at places that 'ok' names. -/
structure Kd (Q : Type) where
  sz : Nat
  F : Q → List Value
  K : World → (Nat → Nat → Prop) → Q → Prop
  pos : 0 < sz
  len : ∀ q, (F q).length = sz
  one : ∀ w ok q, K w ok q → ∀ u ∈ F q, u.oneCell' = true
  move : ∀ w w' ok ok' q, K w ok q → (∀ b o l, ok b o → ∀ i, w.rangeAt b (o + i) l → w'.rangeAt b (o + i) l) → (∀ b o, ok b o → ok' b o) → K w' ok' q
section
variable {Q : Type} {D : Kd Q} {e t : TypeId} {w w' : World} {B : Nat} {v u : Value} {ps qs : List Q} {ok ok' : Nat → Nat → Prop}
def flatD (D : Kd Q) (ps : List Q) : List Value := ps.flatMap D.F
theorem flatD_append (ps qs : List Q) : flatD D (ps ++ qs) = flatD D ps ++ flatD D qs := by unfold flatD; simp
theorem flatD_one (q : Q) : flatD D [q] = D.F q := by unfold flatD; simp
theorem flatD_len : ∀ ps : List Q, (flatD D ps).length = ps.length * D.sz
  | [] => by simp [flatD]
  | p :: r => by
    show (D.F p ++ flatD D r).length = _
    rw [List.length_append, flatD_len r, List.length_cons, D.len, Nat.add_mul]
    omega
theorem flatD_get : ∀ (ps : List Q) (i j : Nat) (p : Q), ps[i]? = some p → j < D.sz → (flatD D ps)[i * D.sz + j]? = (D.F p)[j]?
  | [], i, j, p, h, _ => by simp at h
  | x :: r, 0, j, p, h, hj => by
    simp only [List.getElem?_cons_zero, Option.some.injEq] at h
    subst h
    show (D.F x ++ flatD D r)[0 * D.sz + j]? = _
    rw [Nat.zero_mul, Nat.zero_add, List.getElem?_append_left (by rw [D.len]; exact hj)]
  | x :: r, i + 1, j, p, h, hj => by
    show (D.F x ++ flatD D r)[(i + 1) * D.sz + j]? = _
    have e : (i + 1) * D.sz + j - (D.F x).length = i * D.sz + j := by rw [D.len, Nat.add_mul]; omega
    rw [List.getElem?_append_right (by rw [D.len, Nat.add_mul]; omega), e]
    exact flatD_get r i j p (by simpa using h) hj
theorem flatD_split {j : Nat} {x : Value} (h : (flatD D ps)[j]? = some x) : ∃ i p, ps[i]? = some p ∧ i * D.sz ≤ j ∧ j - i * D.sz < D.sz ∧ (D.F p)[j - i * D.sz]? = some x := by
  have hj := (List.getElem?_eq_some_iff.1 h).1
  rw [flatD_len] at hj
  have hpos := D.pos
  have hi : j / D.sz < ps.length := Nat.div_lt_of_lt_mul (by rw [Nat.mul_comm]; exact hj)
  have hm := Nat.div_add_mod j D.sz
  have hlt := Nat.mod_lt j hpos
  rw [Nat.mul_comm] at hm
  have hsub : j - j / D.sz * D.sz = j % D.sz := by omega
  refine ⟨j / D.sz, ps[j / D.sz], List.getElem?_eq_getElem hi, by omega, by omega, ?_⟩
  rw [hsub, ← flatD_get ps (j / D.sz) (j % D.sz) _ (List.getElem?_eq_getElem hi) hlt, hm]
  exact h
theorem flatD_take (n : Nat) : flatD D (ps.take n) = (flatD D ps).take (n * D.sz) := by
  have e1 : flatD D ps = flatD D (ps.take n) ++ flatD D (ps.drop n) := by rw [← flatD_append, List.take_append_drop]
  by_cases hn : n ≤ ps.length
  · conv => rhs; rw [e1]
    rw [List.take_append_of_le_length (by rw [flatD_len, List.length_take, Nat.min_eq_left hn]; exact Nat.le_refl _)]
    exact (List.take_of_length_le (by rw [flatD_len, List.length_take, Nat.min_eq_left hn]; exact Nat.le_refl _)).symm
  · rw [List.take_of_length_le (by omega), List.take_of_length_le (by rw [flatD_len]; exact Nat.mul_le_mul_right _ (by omega))]

/-! ### What hangs on them; where they lie -/
def KidsD (D : Kd Q) (w : World) (ok : Nat → Nat → Prop) (ps : List Q) : Prop := ∀ p ∈ ps, D.K w ok p
abbrev LiesD (D : Kd Q) (w : World) (v : Value) (ps : List Q) : Prop := At w v ps.length (flatD D ps)
abbrev RowD (D : Kd Q) (e : TypeId) (w : World) (B : Nat) (v : Value) (ps : List Q) : Prop := w.ownsRow B e D.sz v ps.length (flatD D ps)
theorem Kd.kept (D : Kd Q) {F : Nat → Prop} {q : Q} (h : D.K w ok q) (k : Kept F w w') (hF : ∀ b o, ok b o → ¬ F b) : D.K w' ok q :=
  D.move w w' ok ok q h (fun b o _ hb _ hr => rangeAt_kept k (hF b o hb) hr) (fun _ _ h => h)
theorem Kd.keptN (D : Kd Q) {q : Q} (h : D.K w ok q) (k : Kept Nil w w') : D.K w' ok q := D.kept h k (fun _ _ _ g => g)
theorem Kd.mono (D : Kd Q) {q : Q} (h : D.K w ok q) (ho : ∀ b o, ok b o → ok' b o) : D.K w ok' q := D.move w w ok ok' q h (fun _ _ _ _ _ h => h) ho
theorem KidsD.kept {F : Nat → Prop} (h : KidsD D w ok ps) (k : Kept F w w') (hF : ∀ b o, ok b o → ¬ F b) : KidsD D w' ok ps := fun p hp => D.kept (h p hp) k hF
theorem KidsD.keptN (h : KidsD D w ok ps) (k : Kept Nil w w') : KidsD D w' ok ps := h.kept k (fun _ _ _ g => g)
theorem KidsD.mono (h : KidsD D w ok ps) (ho : ∀ b o, ok b o → ok' b o) : KidsD D w ok' ps := fun p hp => D.mono (h p hp) ho
theorem KidsD.append (h : KidsD D w ok ps) (h' : KidsD D w ok qs) : KidsD D w ok (ps ++ qs) := fun p hp => (List.mem_append.1 hp).elim (h p) (h' p)
theorem KidsD.nil : KidsD D w ok [] := fun p hp => by cases hp
theorem KidsD.single {q : Q} (h : D.K w ok q) : KidsD D w ok [q] := fun p hp => by rw [List.mem_singleton] at hp; subst hp; exact h
theorem KidsD.take (h : KidsD D w ok ps) (n : Nat) : KidsD D w ok (ps.take n) := fun p hp => h p (List.mem_of_mem_take hp)
theorem KidsD.one (h : KidsD D w ok ps) : ∀ y ∈ flatD D ps, y.oneCell' = true := by
  intro y hy
  obtain ⟨p, hp, hy⟩ := List.mem_flatMap.1 hy
  exact D.one _ _ p (h p hp) y hy
theorem LiesD.at_ {a : Option Addr} {n cap : Nat} (h : LiesD D w (.slice a n cap) ps) {j : Nat} {q : Q} (hq : ps[j]? = some q) : ∃ b o, a = some ⟨b, o, none⟩ ∧ w.rangeAt b (o + j * D.sz) (D.F q) := by
  obtain ⟨a', c', e1, h⟩ := h
  cases e1
  have hj := (List.getElem?_eq_some_iff.1 hq).1
  have hpos := D.pos
  rcases h with h | ⟨b, o, e, h⟩
  · have := congrArg List.length h
    rw [flatD_len] at this
    have := Nat.mul_pos (show 0 < ps.length by omega) hpos
    simp at *; omega
  · refine ⟨b, o, e, fun i x hi => ?_⟩
    have hi8 : i < D.sz := by have := (List.getElem?_eq_some_iff.1 hi).1; rwa [D.len] at this
    have := h (j * D.sz + i) x (by rw [flatD_get ps j i q hq hi8]; exact hi)
    rwa [show o + (j * D.sz + i) = o + j * D.sz + i by omega] at this
/-- Cells that lie element by element. -/
theorem LiesD.of {b o cap : Nat} (h : ∀ (j : Nat) q, ps[j]? = some q → w.rangeAt b (o + j * D.sz) (D.F q)) : LiesD D w (.slice (some ⟨b, o, none⟩) ps.length cap) ps :=
  ⟨_, cap, rfl, .inr ⟨b, o, rfl, fun j x hj => by
    obtain ⟨i, p, hp, e, _, hx⟩ := flatD_split hj
    have := h i p hp _ x hx
    rwa [show o + i * D.sz + (j - i * D.sz) = o + j by omega] at this⟩⟩
/-- The first of them. -/
theorem LiesD.first {a : Option Addr} {n cap : Nat} (h : LiesD D w (.slice a n cap) ps) {k : Nat} (hk : k ≤ n) : LiesD D w (.slice a k cap) (ps.take k) := by
  obtain ⟨a', c', e1, h⟩ := h
  cases e1
  refine ⟨a, cap, by rw [List.length_take, Nat.min_eq_left hk], ?_⟩
  rcases h with h | ⟨b, o, e, h⟩
  · left
    rw [flatD_take, h]; simp
  · refine .inr ⟨b, o, e, fun j x hj => h j x ?_⟩
    rw [flatD_take, List.getElem?_take] at hj
    split at hj
    · exact hj
    · cases hj
theorem RowD.nil (w : World) : RowD D e w B (.slice none 0 0) [] := by
  have := World.ownsRow_nil (w := w) B e D.sz
  simpa [RowD, flatD] using this
theorem RowD.append {P : Program} (T : Els P t e D.sz) (ty : TypeId) (h : RowD D e w B v ps) (hu : LiesD D w u qs) (hk : KidsD D w ok qs) (hl : ps.length + qs.length ≤ 20000) (hB : B ≤ w.heap.size) :
    ∃ v' w', (Builtin.append_ #[t, t] ty #[v, u]).run P w = .ok v' w' ∧ RowD D e w' B v' (ps ++ qs) ∧ Kept (fun k => v.ownBlock = some k) w w' ∧ (v'.ownBlock = v.ownBlock ∨ v'.ownBlock = some w.heap.size) := by
  obtain ⟨v', w', r, o, k, h5⟩ := append_any T ty h hu (flatD_len qs) hk.one hl hB
  exact ⟨v', w', r, by show World.ownsRow _ _ _ _ _ _ _; rw [flatD_append, List.length_append]; exact o, k, h5⟩
theorem RowD.shape (h : RowD D e w B v ps) : ∃ a cap, v = .slice a ps.length cap ∧ ps.length ≤ cap := by
  rcases h.2 with ⟨e, e0⟩ | ⟨g, cap, cur, e, _, _, hn, _⟩
  · exact ⟨none, 0, by rw [e, e0], by omega⟩
  · exact ⟨_, cap, e, hn⟩
theorem RowD.base (h : RowD D e w B v ps) : ∀ k, v.ownBlock = some k → B ≤ k ∧ k < w.heap.size ∧ ∃ cs, Blk w k e cs := by
  intro k hk
  obtain ⟨h1, cur, h2⟩ := ownsBlk h k hk
  exact ⟨h1, h2.lt, cur, h2⟩
/-- A slice that lies there, as one with a block of its own, or with none. -/
theorem RowD.lies (h : RowD D e w B v ps) : LiesD D w v ps := At.own h

/-! ### A row that a call builds: what hangs on it lies behind B, in other blocks -/
structure GB (D : Kd Q) (e : TypeId) (w : World) (B : Nat) (v : Value) (ps : List Q) : Prop where
  own : RowD D e w B v ps
  kids : KidsD D w (okN B w v) ps
theorem GB.nil (w : World) : GB D e w B (.slice none 0 0) [] := ⟨RowD.nil w, KidsD.nil⟩
theorem GB.base (h : GB D e w B v ps) : ∀ k, v.ownBlock = some k → B ≤ k := fun k hk => (h.own.base k hk).1
theorem GB.lt (h : GB D e w B v ps) : ∀ k, v.ownBlock = some k → k < w.heap.size := fun k hk => (h.own.base k hk).2.1
theorem GB.shape (h : GB D e w B v ps) : ∃ a cap, v = .slice a ps.length cap ∧ ps.length ≤ cap := h.own.shape
theorem okN.kept {F : Nat → Prop} {b o : Nat} (h : okN B w v b o) (k : Kept F w w') (hF : ¬ F b) : okN B w' v b o := ⟨h.1.kept k hF, h.2⟩
theorem GB.keptF {F : Nat → Prop} (h : GB D e w B v ps) (k : Kept F w w') (hF : ∀ i, F i → i < B) : GB D e w' B v ps :=
  ⟨Kept.row k h.own (fun i hi hf => by have := h.base i hi; have := hF i hf; omega), fun p hp => D.move _ _ _ _ p (h.kids p hp) (fun b _ _ hb _ hr => rangeAt_kept k (fun hf => by have := hF b hf; have := hb.1.1; omega) hr) (fun b _ hb => hb.kept k (fun hf => by have := hF b hf; have := hb.1.1; omega))⟩
theorem GB.kept (h : GB D e w B v ps) (k : Kept Nil w w') : GB D e w' B v ps := h.keptF k (fun _ g => g.elim)
/-- A row, where other blocks than its own, and than what hangs on it, are written. -/
theorem GB.keptO {F : Nat → Prop} (h : GB D e w B v ps) (k : Kept F w w') (hv : ∀ i, v.ownBlock = some i → ¬ F i) (hF : ∀ b o, okN B w v b o → ¬ F b) : GB D e w' B v ps :=
  ⟨Kept.row k h.own hv, fun p hp => D.move _ _ _ _ p (h.kids p hp) (fun b o _ hb _ hr => rangeAt_kept k (hF b o hb) hr) (fun b o hb => hb.kept k (hF b o hb))⟩
theorem GB.less {B' : Nat} (h : GB D e w B v ps) (hB : B' ≤ B) : GB D e w B' v ps := by
  refine ⟨⟨h.own.1, h.own.2.imp id ?_⟩, h.kids.mono fun b o hb => ⟨hb.1.less hB, hb.2⟩⟩
  rintro ⟨g, cap, cur, e1, hb, r⟩
  exact ⟨g, cap, cur, e1, Nat.le_trans hB hb, r⟩
theorem GB.append {P : Program} (T : Els P t e D.sz) (ty : TypeId) (h : GB D e w B v ps) {us : List Q} (hu : LiesD D w u us) (hk : KidsD D w (okN B w v) us) (hl : ps.length + us.length ≤ 20000) (hB : B ≤ w.heap.size) :
    ∃ a n c w', (Builtin.append_ #[t, t] ty #[v, u]).run P w = .ok (.slice a n c) w' ∧ GB D e w' B (.slice a n c) (ps ++ us) ∧ Kept (fun k => v.ownBlock = some k) w w' := by
  obtain ⟨v', w', r, o, k, h5⟩ := RowD.append T ty h.own hu hk hl hB
  have hmv : ∀ q, D.K w (okN B w v) q → D.K w' (okN B w' v') q := fun q hq => D.move _ _ _ _ q hq (fun b _ _ hb _ hr => rangeAt_kept k hb.2 hr) (fun b _ hb => ⟨hb.1.kept k hb.2, fun e => by
    rcases h5 with h5 | h5
    · rw [h5] at e; exact hb.2 e
    · rw [h5] at e; cases e; have := hb.1.2.1; omega⟩)
  obtain ⟨a, n, c, rfl⟩ : ∃ a n c, v' = .slice a n c := by obtain ⟨x, y, e, _⟩ := RowD.shape o; exact ⟨x, _, y, e⟩
  exact ⟨a, n, c, w', r, ⟨o, fun p hp => (List.mem_append.1 hp).elim (fun h1 => hmv p (h.kids p h1)) (fun h1 => hmv p (hk p h1))⟩, k⟩
/-- One element more, out of a literal in new memory. -/
theorem GB.append_one {P : Program} (T : Els P t e D.sz) (ty : TypeId) (h : GB D e w B v ps) (q : Q) (arr : Array Value) (ha : arr.toList = D.F q) (nt : TypeId) (hk : D.K w (okN B w v) q) (hl : ps.length ≤ 10000) (hB : B ≤ w.heap.size) :
    ∃ a n c w', (Builtin.append_ #[t, t] ty #[v, .slice (some ⟨w.heap.size, 0, none⟩) 1 1]).run P (w.alloc (.cells arr nt)) = .ok (.slice a n c) w' ∧ GB D e w' B (.slice a n c) (ps ++ [q]) ∧ Kept (fun k => v.ownBlock = some k) w w' := by
  have ka := (Kept.refl Nil w).alloc (.cells arr nt)
  obtain ⟨a, n, c, w', r, o, k⟩ := GB.append (us := [q]) T ty (h.kept ka) (At.lit w nt arr _ (by rw [flatD_one]; exact ha)) (KidsD.single (D.move _ _ _ _ q hk (fun b _ _ _ _ hr => rangeAt_kept ka id hr) (fun b _ hb => hb.kept ka id))) (by simp; omega) (by simp; omega)
  exact ⟨a, n, c, w', r, o, (ka.mono (fun _ _ g => g.elim)).trans k (fun _ _ g => g)⟩
/-- What is built, as it is seen: places in new memory. -/
theorem GB.seen (h : GB D e w B v ps) : LiesD D w v ps ∧ KidsD D w (okM B w) ps ∧ ∃ a cap, v = .slice a ps.length cap ∧ ps.length ≤ cap ∧ ∀ b o, a = some ⟨b, o, none⟩ → okM B w b o := by
  refine ⟨h.own.lies, h.kids.mono (fun b o hb => hb.1), ?_⟩
  rcases h.own.2 with ⟨e1, e0⟩ | ⟨g, cap, cur, e1, hb, hg, hn, _⟩
  · exact ⟨none, 0, by rw [e1, e0], by omega, fun b o e => by cases e⟩
  · exact ⟨_, cap, e1, hn, fun b o e => by cases e; exact ⟨hb, (Array.getElem?_eq_some_iff.1 hg).1, rfl, fun i => by simp [World.frozen?, hg]⟩⟩
end

/-! ### Lists of slices of elements -/
section
variable {Q : Type} {D : Kd Q} {e t : TypeId} {w w' : World} {B : Nat} {v u : Value} {ps qs : List Q} {ok ok' : Nat → Nat → Prop} {p : Nat → Prop} {ws vs : List (List Q)}
/-- A slice of elements in a block of its own; what hangs on them lies elsewhere. -/
def KidD (D : Kd Q) (e : TypeId) (w : World) (ok : Nat → Nat → Prop) (p : Nat → Prop) (u : Value) (ps : List Q) : Prop :=
  ∃ g c cs, u = .slice (some ⟨g, 0, none⟩) ps.length c ∧ ps.length ≤ c ∧ p g ∧ Blk w g e cs ∧ (∀ (j : Nat) x, (flatD D ps)[j]? = some x → cs[j]? = some x) ∧ KidsD D w ok ps
theorem KidD.kept {F : Nat → Prop} (h : KidD D e w ok p u ps) (k : Kept F w w') (hF : ∀ g cs, Blk w g e cs → p g → ¬ F g) (ho : ∀ b o, ok b o → ¬ F b) : KidD D e w' ok p u ps := by
  obtain ⟨g, c, cs, e1, hc, hp, hb, hx, hk⟩ := h
  exact ⟨g, c, cs, e1, hc, hp, hb.kept k (hF g cs hb hp), hx, hk.kept k ho⟩
theorem KidD.mono {q : Nat → Prop} (h : KidD D e w ok p u ps) (hq : ∀ g cs, Blk w g e cs → p g → q g) : KidD D e w ok q u ps := by
  obtain ⟨g, c, cs, e1, hc, hp, hb, r⟩ := h
  exact ⟨g, c, cs, e1, hc, hq g cs hb hp, hb, r⟩
theorem KidD.shape (h : KidD D e w ok p u ps) : ∃ g c, u = .slice (some ⟨g, 0, none⟩) ps.length c ∧ ps.length ≤ c ∧ p g := by
  obtain ⟨g, c, cs, e1, hc, hp, _⟩ := h
  exact ⟨g, c, e1, hc, hp⟩
theorem KidD.lies (h : KidD D e w ok p u ps) : LiesD D w u ps := by
  obtain ⟨g, c, cs, e1, hc, hp, hb, hx, _⟩ := h
  exact ⟨_, c, e1, .inr ⟨g, 0, rfl, fun j x hj => by rw [hb.cell, Nat.zero_add]; exact hx j x hj⟩⟩
theorem KidD.lt (h : KidD D e w ok p u ps) : ∀ k, u.ownBlock = some k → k < w.heap.size ∧ p k := by
  obtain ⟨g, c, cs, e1, hc, hp, hb, _⟩ := h
  intro k hk
  rw [e1] at hk
  cases hk
  exact ⟨hb.lt, hp⟩
theorem RowD.kid (h : RowD D e w B v ps) (h0 : 0 < ps.length) (hk : KidsD D w ok ps) (hp : ∀ g, v.ownBlock = some g → B ≤ g → p g) : KidD D e w ok p v ps := by
  rcases h.2 with ⟨_, e0⟩ | ⟨g, cap, cur, e1, hb, hg, hn, hm, hc, ht⟩
  · omega
  · refine ⟨g, cap, cur, e1, hn, hp g (by rw [e1]; rfl) hb, hg, fun j x hj => ?_, hk⟩
    have := congrArg (fun l => l[j]?) ht
    simp only [hj] at this
    rw [List.getElem?_take] at this
    split at this
    · simpa using this
    · cases this
/-- A row of the call's own that holds slices of elements. -/
def LRowD (D : Kd Q) (e t : TypeId) (w : World) (ok : Nat → Nat → Prop) (B : Nat) (p : Nat → Prop) (v : Value) (ws : List (List Q)) : Prop :=
  ∃ vals : List Value, w.ownsRow B t 1 v ws.length vals ∧ ∀ (i : Nat) ps u, ws[i]? = some ps → vals[i]? = some u → KidD D e w ok p u ps
theorem LRowD.nil (w : World) : LRowD D e t w ok B p (.slice none 0 0) [] := ⟨[], World.ownsRow_nil _ _ _ _, fun i ps u h => by simp at h⟩
theorem LRowD.own (h : LRowD D e t w ok B p v ws) : ∀ k, v.ownBlock = some k → B ≤ k ∧ k < w.heap.size ∧ ∃ cs, Blk w k t cs := by
  obtain ⟨vals, ho, _⟩ := h
  intro k hk
  obtain ⟨h1, cur, h2⟩ := ownsBlk ho k hk
  exact ⟨h1, h2.lt, cur, h2⟩
theorem LRowD.shape (h : LRowD D e t w ok B p v ws) : ∃ a cap, v = .slice a ws.length cap := by
  obtain ⟨vals, ho, _⟩ := h
  rcases ho.2 with ⟨e, e0⟩ | ⟨g, cap, cur, e, _⟩
  · exact ⟨none, 0, by rw [e, e0]⟩
  · exact ⟨_, cap, e⟩
theorem LRowD.kept {F : Nat → Prop} (h : LRowD D e t w ok B p v ws) (k : Kept F w w') (hv : ∀ g, v.ownBlock = some g → ¬ F g) (hF : ∀ g cs, Blk w g e cs → p g → ¬ F g) (ho : ∀ b o, ok b o → ¬ F b) : LRowD D e t w' ok B p v ws := by
  obtain ⟨vals, hr, hk⟩ := h
  exact ⟨vals, Kept.row k hr hv, fun i ps u h1 h2 => (hk i ps u h1 h2).kept k hF ho⟩
theorem LRowD.keptN (h : LRowD D e t w ok B p v ws) (k : Kept Nil w w') : LRowD D e t w' ok B p v ws := h.kept k (fun _ _ g => g) (fun _ _ _ _ g => g) (fun _ _ _ g => g)
theorem LRowD.mono {q : Nat → Prop} (h : LRowD D e t w ok B p v ws) (hq : ∀ g cs, Blk w g e cs → p g → q g) : LRowD D e t w ok B q v ws := by
  obtain ⟨vals, hr, hk⟩ := h
  exact ⟨vals, hr, fun i ps u h1 h2 => (hk i ps u h1 h2).mono hq⟩
theorem LRowD.append {P : Program} {tt : TypeId} (T : Els P tt t 1) (hte : t ≠ e) (ty : TypeId) (h : LRowD D e t w ok B p v ws) {us : List Value} (hu : At w u vs.length us) (hul : us.length = vs.length) (hus : ∀ (i : Nat) ps x, vs[i]? = some ps → us[i]? = some x → KidD D e w ok p x ps) (hl : ws.length + vs.length ≤ 20000) (hB : B ≤ w.heap.size) (hok : ∀ b o, ok b o → b < B) :
    ∃ v' w', (Builtin.append_ #[tt, tt] ty #[v, u]).run P w = .ok v' w' ∧ LRowD D e t w' ok B p v' (ws ++ vs) ∧ Kept (fun k => v.ownBlock = some k) w w' ∧ (v'.ownBlock = v.ownBlock ∨ v'.ownBlock = some w.heap.size) := by
  obtain ⟨vals, ho, hk⟩ := h
  have hlen : vals.length = ws.length := by have := ho.1; omega
  obtain ⟨v', w', r, o, k, h5⟩ := append_any T ty ho hu (by omega) (fun y hy => by
    obtain ⟨j, hj⟩ := List.getElem?_of_mem hy
    have hjl := (List.getElem?_eq_some_iff.1 hj).1
    obtain ⟨g, c, e1, _⟩ := (hus j vs[j] y (List.getElem?_eq_getElem (by omega)) hj).shape
    rw [e1]; rfl) hl hB
  have keep : ∀ x y, KidD D e w ok p x y → KidD D e w' ok p x y := fun x y hx => hx.kept k (fun g cs hb _ hf => by
    obtain ⟨_, cur, hc⟩ := ownsBlk ho g hf
    exact hte (blk_type hc hb)) (fun b o hb hf => by have := (ownsBlk ho b hf).1; have := hok b o hb; omega)
  refine ⟨v', w', r, ⟨vals ++ us, by rw [List.length_append]; exact o, fun i ps x h1 h2 => ?_⟩, k, h5⟩
  by_cases hil : i < ws.length
  · rw [List.getElem?_append_left hil] at h1
    rw [List.getElem?_append_left (by omega)] at h2
    exact keep _ _ (hk i ps x h1 h2)
  · rw [List.getElem?_append_right (by omega)] at h1 h2
    rw [hlen] at h2
    exact keep _ _ (hus _ ps x h1 h2)
/-- One slice more. -/
theorem LRowD.append_one {P : Program} {tt : TypeId} (T : Els P tt t 1) (hte : t ≠ e) (ty : TypeId) (h : LRowD D e t w ok B p v ws) (hu : KidD D e w ok p u ps) (hl : ws.length ≤ 10000) (hB : B ≤ w.heap.size) (hok : ∀ b o, ok b o → b < B) :
    ∃ v' w', (Builtin.append_ #[tt, tt] ty #[v, .slice (some ⟨w.heap.size, 0, none⟩) 1 1]).run P (w.alloc (.cells #[u] t)) = .ok v' w' ∧ LRowD D e t w' ok B p v' (ws ++ [ps]) ∧ Kept (fun k => v.ownBlock = some k) w w' ∧ (v'.ownBlock = v.ownBlock ∨ v'.ownBlock = some (w.heap.size + 1)) := by
  have ka := (Kept.refl Nil w).alloc (.cells #[u] t)
  obtain ⟨v', w', r, o, k, h5⟩ := LRowD.append (vs := [ps]) T hte ty (h.keptN ka) (At.lit w t #[u] [u] rfl) rfl (fun i qs x h1 h2 => by
    have : i = 0 := by have := (List.getElem?_eq_some_iff.1 h1).1; simp at this; omega
    subst this
    simp at h1 h2
    subst h1 h2
    exact hu.kept ka (fun _ _ _ _ g => g) (fun _ _ _ g => g)) (by simp; omega) (by simp; omega) hok
  exact ⟨v', w', r, o, (ka.mono (fun _ _ g => g.elim)).trans k (fun _ _ g => g), by simpa using h5⟩
/-- All slices of another list. -/
theorem LRowD.append_all {P : Program} {tt : TypeId} (T : Els P tt t 1) (hte : t ≠ e) (ty : TypeId) {B2 : Nat} {q : Nat → Prop} (h : LRowD D e t w ok B p v ws) (h2 : LRowD D e t w ok B2 q u vs) (hq : ∀ g cs, Blk w g e cs → q g → p g) (hl : ws.length + vs.length ≤ 20000) (hB : B ≤ w.heap.size) (hok : ∀ b o, ok b o → b < B) :
    ∃ v' w', (Builtin.append_ #[tt, tt] ty #[v, u]).run P w = .ok v' w' ∧ LRowD D e t w' ok B p v' (ws ++ vs) ∧ Kept (fun k => v.ownBlock = some k) w w' ∧ (v'.ownBlock = v.ownBlock ∨ v'.ownBlock = some w.heap.size) := by
  obtain ⟨vals, ho, hk⟩ := h2
  exact LRowD.append T hte ty h (At.own ho) (by have := ho.1; omega) (fun i ps x h1 h2 => (hk i ps x h1 h2).mono hq) hl hB hok
end
end
section
open Go.RowKit
set_option maxRecDepth 100000

abbrev cT (t : Tst) : List Value := [.int .i64 t.1, .int .i64 t.2.1, .int .i64 t.2.2]
/-- The cells of a step. -/
abbrev cS (h : SH) (t u : Value) : List Value := [.int .i64 h.k, .int .i64 h.k0, .int .i64 h.k1, .int .i64 h.k2, t, u]
abbrev arrS (h : SH) (t u : Value) : Array Value := #[.int .i64 h.k, .int .i64 h.k0, .int .i64 h.k1, .int .i64 h.k2, t, u]
abbrev vS (h : SH) (t u : Value) : Value := .agg #[.int .i64 h.k, .int .i64 h.k0, .int .i64 h.k1, .int .i64 h.k2, t, u]
/-- A slice in memory that holds tests. -/
inductive TsAt (w : World) (ok : Nat → Nat → Prop) : Value → List Tst → Prop
  | nil (a : Option Addr) (cap : Nat) : TsAt w ok (.slice a 0 cap) []
  | row (b o cap : Nat) (ts : List Tst) (hn : ts.length ≤ cap) (hok : ok b o) (hr : ∀ i t, ts[i]? = some t → w.rangeAt b (o + i * 3) (cT t)) : TsAt w ok (.slice (some ⟨b, o, none⟩) ts.length cap) ts
/-- A slice in memory that holds steps; 'ok' names the places where rows begin. -/
inductive SHolds (w : World) (ok : Nat → Nat → Prop) : Value → List St → Prop
  | nil (a : Option Addr) (cap : Nat) : SHolds w ok (.slice a 0 cap) []
  | row (b o cap : Nat) (subs : List St) (t u : Nat → Value) (hn : subs.length ≤ cap) (hok : ok b o)
      (hr : ∀ i x, subs[i]? = some x → w.rangeAt b (o + i * 6) (cS x.hd (t i) (u i)))
      (ht : ∀ i x, subs[i]? = some x → TsAt w ok (t i) x.hd.ts)
      (hs : ∀ i x, subs[i]? = some x → SHolds w ok (u i) x.subs) : SHolds w ok (.slice (some ⟨b, o, none⟩) subs.length cap) subs
section
variable {w w' : World} {ok ok' : Nat → Nat → Prop} {v : Value} {ts : List Tst} {l : List St}
theorem TsAt.shape (h : TsAt w ok v ts) : ∃ a cap, v = .slice a ts.length cap ∧ ts.length ≤ cap := by
  cases h with
  | nil a cap => exact ⟨a, cap, rfl, Nat.zero_le _⟩
  | row b o cap _ hn => exact ⟨_, cap, rfl, hn⟩
theorem TsAt.fits {a : Option Addr} {n cap : Nat} (h : TsAt w ok (.slice a n cap) ts) : n = ts.length ∧ n ≤ cap := by
  obtain ⟨a', c', e, hc⟩ := h.shape
  cases e
  exact ⟨rfl, hc⟩
theorem TsAt.at_ {a : Option Addr} {n cap : Nat} (h : TsAt w ok (.slice a n cap) ts) {i : Nat} {t : Tst} (hi : ts[i]? = some t) : ∃ b o, a = some ⟨b, o, none⟩ ∧ ok b o ∧ w.rangeAt b (o + i * 3) (cT t) := by
  generalize e : Value.slice a n cap = v at h
  cases h with
  | nil a' cap' => simp at hi
  | row b o cap' _ hn hok hr => cases e; exact ⟨b, o, rfl, hok, hr i t hi⟩
theorem TsAt.move (h : TsAt w ok v ts) (hr : ∀ b o l, ok b o → ∀ i, w.rangeAt b (o + i) l → w'.rangeAt b (o + i) l) (ho : ∀ b o, ok b o → ok' b o) : TsAt w' ok' v ts := by
  cases h with
  | nil a cap => exact .nil a cap
  | row b o cap _ hn hok h => exact .row b o cap ts hn (ho b o hok) (fun i t hi => hr b o _ hok _ (h i t hi))
theorem TsAt.mono (h : TsAt w ok v ts) (ho : ∀ b o, ok b o → ok' b o) : TsAt w ok' v ts := h.move (fun _ _ _ _ _ h => h) ho
theorem TsAt.kept {F : Nat → Prop} (h : TsAt w ok v ts) (k : Kept F w w') (hF : ∀ b o, ok b o → ¬ F b) : TsAt w' ok v ts := h.move (fun b o _ hb _ hr => rangeAt_kept k (hF b o hb) hr) (fun _ _ h => h)
theorem TsAt.keptN (h : TsAt w ok v ts) (k : Kept Nil w w') : TsAt w' ok v ts := h.kept k (fun _ _ _ g => g)
theorem TsAt.one (h : TsAt w ok v ts) : v.oneCell' = true := by obtain ⟨a, c, rfl, _⟩ := h.shape; rfl
theorem SHolds.shape (h : SHolds w ok v l) : ∃ a cap, v = .slice a l.length cap ∧ l.length ≤ cap := by
  cases h with
  | nil a cap => exact ⟨a, cap, rfl, Nat.zero_le _⟩
  | row b o cap _ t u hn => exact ⟨_, cap, rfl, hn⟩
theorem SHolds.fits {a : Option Addr} {n cap : Nat} (h : SHolds w ok (.slice a n cap) l) : n = l.length ∧ n ≤ cap := by
  obtain ⟨a', c', e, hc⟩ := h.shape
  cases e
  exact ⟨rfl, hc⟩
theorem SHolds.at_ {a : Option Addr} {n cap : Nat} (h : SHolds w ok (.slice a n cap) l) {i : Nat} {hd : SH} {sb : List St} (hi : l[i]? = some (.mk hd sb)) :
    ∃ b o at' ct as' cs, a = some ⟨b, o, none⟩ ∧ ok b o ∧ w.rangeAt b (o + i * 6) (cS hd (.slice at' hd.ts.length ct) (.slice as' sb.length cs)) ∧ TsAt w ok (.slice at' hd.ts.length ct) hd.ts ∧ SHolds w ok (.slice as' sb.length cs) sb := by
  generalize e : Value.slice a n cap = v at h
  cases h with
  | nil a' cap' => simp at hi
  | row b o cap' _ t u hn hok hr ht hs =>
    cases e
    have h1 := hr i _ hi
    have h2 := ht i _ hi
    have h3 := hs i _ hi
    obtain ⟨at', ct, e2, _⟩ := h2.shape
    obtain ⟨as', cs, e3, _⟩ := h3.shape
    rw [e2, e3] at h1
    rw [e2] at h2
    rw [e3] at h3
    exact ⟨b, o, at', ct, as', cs, rfl, hok, h1, h2, h3⟩
theorem SHolds.move (h : SHolds w ok v l) (hr : ∀ b o l, ok b o → ∀ i, w.rangeAt b (o + i) l → w'.rangeAt b (o + i) l) (ho : ∀ b o, ok b o → ok' b o) : SHolds w' ok' v l := by
  induction h with
  | nil a cap => exact .nil a cap
  | row b o cap subs t u hn hok hr' ht _ ih => exact .row b o cap subs t u hn (ho b o hok) (fun i x hi => hr b o _ hok _ (hr' i x hi)) (fun i x hi => (ht i x hi).move hr ho) ih
theorem SHolds.mono (h : SHolds w ok v l) (ho : ∀ b o, ok b o → ok' b o) : SHolds w ok' v l := h.move (fun _ _ _ _ _ h => h) ho
theorem SHolds.kept {F : Nat → Prop} (h : SHolds w ok v l) (k : Kept F w w') (hF : ∀ b o, ok b o → ¬ F b) : SHolds w' ok v l := h.move (fun b o _ hb _ hr => rangeAt_kept k (hF b o hb) hr) (fun _ _ h => h)
theorem SHolds.keptN (h : SHolds w ok v l) (k : Kept Nil w w') : SHolds w' ok v l := h.kept k (fun _ _ _ g => g)
theorem SHolds.one (h : SHolds w ok v l) : v.oneCell' = true := by obtain ⟨a, c, rfl, _⟩ := h.shape; rfl
/-- Where what is there lies: in blocks that there are. -/
theorem TsAt.inb (h : TsAt w ok v ts) : TsAt w (fun b _ => b < w.heap.size) v ts := by
  cases h with
  | nil a cap => exact .nil a cap
  | row b o cap _ hn hok hr =>
    rcases Nat.eq_zero_or_pos ts.length with h0 | hpos
    · obtain rfl := List.length_eq_zero_iff.1 h0
      exact .nil _ _
    · exact .row b o cap ts hn (World.block_lt_of_cell? w _ (hr 0 _ (List.getElem?_eq_getElem hpos) 0 _ rfl)) hr
theorem SHolds.inb (h : SHolds w ok v l) : SHolds w (fun b _ => b < w.heap.size) v l := by
  induction h with
  | nil a cap => exact .nil a cap
  | row b o cap subs t u hn hok hr ht _ ih =>
    rcases Nat.eq_zero_or_pos subs.length with h0 | hpos
    · obtain rfl := List.length_eq_zero_iff.1 h0
      exact .nil _ _
    · exact .row b o cap subs t u hn (World.block_lt_of_cell? w _ (hr 0 _ (List.getElem?_eq_getElem hpos) 0 _ rfl)) hr (fun i x hi => (ht i x hi).inb) ih
end

/-! ### Tests and steps as elements -/
def kT : Kd Tst where
  sz := 3
  F := cT
  K := fun _ _ _ => True
  pos := by decide
  len := fun _ => rfl
  one := fun _ _ q _ u hu => by simp only [cT, List.mem_cons, List.not_mem_nil, or_false] at hu; rcases hu with rfl | rfl | rfl <;> rfl
  move := fun _ _ _ _ _ _ _ _ => trivial
/-- A step, the slice of its tests, that of its Subs. -/
abbrev SQ := St × Value × Value
def kS : Kd SQ where
  sz := 6
  F := fun q => cS q.1.hd q.2.1 q.2.2
  K := fun w ok q => TsAt w ok q.2.1 q.1.hd.ts ∧ SHolds w ok q.2.2 q.1.subs
  pos := by decide
  len := fun _ => rfl
  one := fun _ _ q h u hu => by
    simp only [cS, List.mem_cons, List.not_mem_nil, or_false] at hu
    rcases hu with rfl | rfl | rfl | rfl | rfl | rfl
    · rfl
    · rfl
    · rfl
    · rfl
    · exact h.1.one
    · exact h.2.one
  move := fun _ _ _ _ _ h hr ho => ⟨h.1.move hr ho, h.2.move hr ho⟩
/-- The steps of such elements. -/
def trS (ps : List SQ) : List St := ps.map (·.1)
theorem trS_len (ps : List SQ) : (trS ps).length = ps.length := by unfold trS; simp
theorem trS_append (a b : List SQ) : trS (a ++ b) = trS a ++ trS b := by unfold trS; simp
section
variable {w w' : World} {ok ok' : Nat → Nat → Prop} {v : Value} {l : List St} {e : TypeId} {B : Nat} {ps : List SQ} {ts : List Tst}
theorem SHolds.pairs (h : SHolds w ok v l) : ∃ ps : List SQ, trS ps = l ∧ LiesD kS w v ps ∧ KidsD kS w ok ps := by
  cases h with
  | nil a cap => exact ⟨[], rfl, ⟨a, cap, rfl, .inl rfl⟩, KidsD.nil⟩
  | row b o cap _ t u hn hok hr ht hs =>
    have hg : ∀ i, (l.zipIdx.map fun q => ((q.1, t q.2, u q.2) : SQ))[i]? = (l[i]?).map fun x => (x, t i, u i) := fun i => by simp only [List.getElem?_map, List.getElem?_zipIdx, Nat.zero_add, Option.map_map]; rfl
    have hl : (l.zipIdx.map fun q => ((q.1, t q.2, u q.2) : SQ)).length = l.length := by simp
    refine ⟨l.zipIdx.map fun q => (q.1, t q.2, u q.2), ?_, ?_, fun p hp => ?_⟩
    · apply List.ext_getElem?
      intro i
      unfold trS
      rw [List.getElem?_map, hg]
      cases l[i]? <;> rfl
    · have := LiesD.of (D := kS) (w := w) (b := b) (o := o) (cap := cap) (ps := l.zipIdx.map fun q => (q.1, t q.2, u q.2)) (fun i p hp => by
        rw [hg] at hp
        obtain ⟨s, hs', rfl⟩ := Option.map_eq_some_iff.1 hp
        exact hr i s hs')
      rw [hl] at this
      obtain ⟨a, c, e1, h1⟩ := this
      exact ⟨a, c, by rw [hl]; rw [hl] at e1; exact e1, h1⟩
    · obtain ⟨i, hi⟩ := List.getElem?_of_mem hp
      rw [hg] at hi
      obtain ⟨s, hs', rfl⟩ := Option.map_eq_some_iff.1 hi
      exact ⟨ht i s hs', hs i s hs'⟩
/-- Elements that lie at a slice are what it holds. -/
theorem LiesD.sholds {a : Option Addr} {n cap : Nat} (h : LiesD kS w (.slice a n cap) ps) (hk : KidsD kS w ok ps) (hc : n ≤ cap) (hok : ∀ b o, a = some ⟨b, o, none⟩ → ok b o) : SHolds w ok (.slice a n cap) (trS ps) := by
  have hn : n = ps.length := by obtain ⟨_, _, e, _⟩ := h; cases e; rfl
  subst hn
  rcases Nat.eq_zero_or_pos ps.length with h0 | hpos
  · obtain rfl := List.length_eq_zero_iff.1 h0
    exact .nil _ _
  · obtain ⟨b, o, rfl, _⟩ := LiesD.at_ h (List.getElem?_eq_getElem hpos)
    have key := SHolds.row (w := w) (ok := ok) b o cap (trS ps) (fun i => match ps[i]? with | some p => p.2.1 | none => undef) (fun i => match ps[i]? with | some p => p.2.2 | none => undef) (by rw [trS_len]; exact hc) (hok b o rfl)
    rw [trS_len] at key
    refine key (fun i x hi => ?_) (fun i x hi => ?_) (fun i x hi => ?_)
    all_goals
      unfold trS at hi
      rw [List.getElem?_map] at hi
      obtain ⟨p, hp, rfl⟩ := Option.map_eq_some_iff.1 hi
      simp only [hp]
    · obtain ⟨b', o', e', hr⟩ := LiesD.at_ h hp
      cases e'
      exact hr
    · exact (hk p (List.mem_of_getElem? hp)).1
    · exact (hk p (List.mem_of_getElem? hp)).2
theorem LiesD.tsAt {a : Option Addr} {n cap : Nat} (h : LiesD kT w (.slice a n cap) ts) (hc : n ≤ cap) (hok : ∀ b o, a = some ⟨b, o, none⟩ → ok b o) : TsAt w ok (.slice a n cap) ts := by
  have hn : n = ts.length := by obtain ⟨_, _, e, _⟩ := h; cases e; rfl
  subst hn
  rcases Nat.eq_zero_or_pos ts.length with h0 | hpos
  · obtain rfl := List.length_eq_zero_iff.1 h0
    exact .nil _ _
  · obtain ⟨b, o, rfl, _⟩ := LiesD.at_ h (List.getElem?_eq_getElem hpos)
    refine .row b o cap ts hc (hok b o rfl) (fun i t hi => ?_)
    obtain ⟨b', o', e', hr⟩ := LiesD.at_ h hi
    cases e'
    exact hr
theorem GB.sholds (h : GB kS e w B v ps) : SHolds w (okM B w) v (trS ps) := by
  obtain ⟨h1, h2, a, cap, rfl, hc, hok⟩ := h.seen
  exact LiesD.sholds h1 h2 hc hok
theorem GB.tsAt (h : GB kT e w B v ts) : TsAt w (okM B w) v ts := by
  obtain ⟨h1, _, a, cap, rfl, hc, hok⟩ := h.seen
  exact LiesD.tsAt h1 hc hok
theorem SHolds.first {a : Option Addr} {n cap : Nat} (h : SHolds w ok (.slice a n cap) l) {k : Nat} (hk : k ≤ n) : SHolds w ok (.slice a k cap) (l.take k) := by
  obtain ⟨hn, hc⟩ := h.fits
  generalize e : Value.slice a n cap = v at h
  cases h with
  | nil a' cap' =>
    cases e
    have : k = 0 := by simpa using hk
    subst this
    exact .nil _ _
  | row b o cap' _ t u hn' hok hr ht hs =>
    cases e
    have hl : (l.take k).length = k := by rw [List.length_take]; omega
    have lt : ∀ i x, (l.take k)[i]? = some x → l[i]? = some x := fun i x hi => by
      rw [List.getElem?_take] at hi
      split at hi
      · exact hi
      · cases hi
    have := SHolds.row (w := w) (ok := ok) b o cap (l.take k) t u (by omega) hok (fun i x hi => hr i x (lt i x hi)) (fun i x hi => ht i x (lt i x hi)) (fun i x hi => hs i x (lt i x hi))
    rwa [hl] at this
end

/-! ### The types of this program -/
theorem infoS6 : (Tryz.prog.info? 65).map (·.size) = some 6 := by kernel_rfl
theorem infoQ6 : (Tryz.prog.info? 82).map (·.size) = some 6 := by kernel_rfl
theorem infoT3 : (Tryz.prog.info? 59).map (·.size) = some 3 := by kernel_rfl
theorem infoU3 : (Tryz.prog.info? 99).map (·.size) = some 3 := by kernel_rfl
/-- A step of the program loaded out of a row; one of the reference; a test of each. -/
theorem wpList_load_S {ops : Array Oper} {rest : List Oper} {o : Oper} {a : Act} {w : World} {Q : Exit → Act → World → Prop} (hgd : o.guard = none) (x : Operand) (ho : o.op = .load 65 x)
    (b p : Nat) (hx : a.eval x = .pointer (some ⟨b, p, none⟩)) (h : SH) (t u : Value) (hr : w.rangeAt b p (cS h t u))
    (hn : wpList Tryz.prog ops Q rest (a.put o.dst (.agg #[.int .i64 h.k, .int .i64 h.k0, .int .i64 h.k1, .int .i64 h.k2, t, u])) w) : wpList Tryz.prog ops Q (o :: rest) a w :=
  wpList_load_mid hgd _ x ho b p hx (cS h t u) _ hr Tryz.underlying65 rfl infoS6 hn
theorem wpList_load_SG {ops : Array Oper} {rest : List Oper} {o : Oper} {a : Act} {w : World} {Q : Exit → Act → World → Prop} (hw : Region.wanted o (yielded ops a.tmps) = true) (x : Operand) (ho : o.op = .load 65 x)
    (b p : Nat) (hx : a.eval x = .pointer (some ⟨b, p, none⟩)) (h : SH) (t u : Value) (hr : w.rangeAt b p (cS h t u))
    (hn : wpList Tryz.prog ops Q rest (a.put o.dst (.agg #[.int .i64 h.k, .int .i64 h.k0, .int .i64 h.k1, .int .i64 h.k2, t, u])) w) : wpList Tryz.prog ops Q (o :: rest) a w :=
  BigFrame.wpList_want hw fun _ hK => wp_load_mid _ x ho b p hx (cS h t u) _ hr Tryz.underlying65 rfl infoS6 (hK _ _ hn)
theorem wpList_load_Q {ops : Array Oper} {rest : List Oper} {o : Oper} {a : Act} {w : World} {Q : Exit → Act → World → Prop} (hgd : o.guard = none) (x : Operand) (ho : o.op = .load 82 x)
    (b p : Nat) (hx : a.eval x = .pointer (some ⟨b, p, none⟩)) (h : SH) (t u : Value) (hr : w.rangeAt b p (cS h t u))
    (hn : wpList Tryz.prog ops Q rest (a.put o.dst (.agg #[.int .i64 h.k, .int .i64 h.k0, .int .i64 h.k1, .int .i64 h.k2, t, u])) w) : wpList Tryz.prog ops Q (o :: rest) a w :=
  wpList_load_mid hgd _ x ho b p hx (cS h t u) _ hr Tryz.underlying82 rfl infoQ6 hn
theorem wpList_load_QG {ops : Array Oper} {rest : List Oper} {o : Oper} {a : Act} {w : World} {Q : Exit → Act → World → Prop} (hw : Region.wanted o (yielded ops a.tmps) = true) (x : Operand) (ho : o.op = .load 82 x)
    (b p : Nat) (hx : a.eval x = .pointer (some ⟨b, p, none⟩)) (h : SH) (t u : Value) (hr : w.rangeAt b p (cS h t u))
    (hn : wpList Tryz.prog ops Q rest (a.put o.dst (.agg #[.int .i64 h.k, .int .i64 h.k0, .int .i64 h.k1, .int .i64 h.k2, t, u])) w) : wpList Tryz.prog ops Q (o :: rest) a w :=
  BigFrame.wpList_want hw fun _ hK => wp_load_mid _ x ho b p hx (cS h t u) _ hr Tryz.underlying82 rfl infoQ6 (hK _ _ hn)
theorem wpList_load_T {ops : Array Oper} {rest : List Oper} {o : Oper} {a : Act} {w : World} {Q : Exit → Act → World → Prop} (hgd : o.guard = none) (x : Operand) (ho : o.op = .load 59 x)
    (b p : Nat) (hx : a.eval x = .pointer (some ⟨b, p, none⟩)) (t0 t1 t2 : Int) (hr : w.rangeAt b p (cT (t0, t1, t2)))
    (hn : wpList Tryz.prog ops Q rest (a.put o.dst (.agg #[.int .i64 t0, .int .i64 t1, .int .i64 t2])) w) : wpList Tryz.prog ops Q (o :: rest) a w :=
  wpList_load_mid hgd _ x ho b p hx (cT (t0, t1, t2)) _ hr Tryz.underlying59 rfl infoT3 hn
theorem wpList_load_U {ops : Array Oper} {rest : List Oper} {o : Oper} {a : Act} {w : World} {Q : Exit → Act → World → Prop} (hgd : o.guard = none) (x : Operand) (ho : o.op = .load 99 x)
    (b p : Nat) (hx : a.eval x = .pointer (some ⟨b, p, none⟩)) (t0 t1 t2 : Int) (hr : w.rangeAt b p (cT (t0, t1, t2)))
    (hn : wpList Tryz.prog ops Q rest (a.put o.dst (.agg #[.int .i64 t0, .int .i64 t1, .int .i64 t2])) w) : wpList Tryz.prog ops Q (o :: rest) a w :=
  wpList_load_mid hgd _ x ho b p hx (cT (t0, t1, t2)) _ hr Tryz.underlying99 rfl infoU3 hn
theorem infoVS : (Tryz.prog.info? 65).map (fun i => (i.zero, i.size, i.bytes)) = some (some (.agg #[.int .i64 0, .int .i64 0, .int .i64 0, .int .i64 0, .slice none 0 0, .slice none 0 0]), 6, 80) := by kernel_rfl
theorem infoVQ : (Tryz.prog.info? 82).map (fun i => (i.zero, i.size, i.bytes)) = some (some (.agg #[.int .i64 0, .int .i64 0, .int .i64 0, .int .i64 0, .slice none 0 0, .slice none 0 0]), 6, 80) := by kernel_rfl
theorem infoVT : (Tryz.prog.info? 59).map (fun i => (i.zero, i.size, i.bytes)) = some (some (.agg #[.int .i64 0, .int .i64 0, .int .i64 0]), 3, 24) := by kernel_rfl
theorem infoVU : (Tryz.prog.info? 99).map (fun i => (i.zero, i.size, i.bytes)) = some (some (.agg #[.int .i64 0, .int .i64 0, .int .i64 0]), 3, 24) := by kernel_rfl
theorem elsS : Els Tryz.prog 44 65 6 := Els.of Tryz.underlying44 infoVS rfl (by decide) (by decide)
theorem elsQ : Els Tryz.prog 35 82 6 := Els.of Tryz.underlying35 infoVQ rfl (by decide) (by decide)
theorem elsT : Els Tryz.prog 63 59 3 := Els.of Tryz.underlying63 infoVT rfl (by decide) (by decide)
theorem elsU : Els Tryz.prog 80 99 3 := Els.of Tryz.underlying80 infoVU rfl (by decide) (by decide)
theorem neqTS : 59 ≠ 65 := by decide
theorem neqUQ : 99 ≠ 82 := by decide
end
end
end Go.Proofs.YtljefbfjehblpaaGreat
