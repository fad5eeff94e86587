/- Layer rule: plain mathematics of the ways to where a variable stands, as the program walks them: the scope of the first of them, which of them lie outside of it. No program. – Layer rule: whether a variable is one of a condition's three terms, by slices.Contains, and by the program's closure over it. – Layer rule: rows of numbers, rows of ways, the buffer in which a way is written: their appends; slices.Clone of a way. – Layer rule: the contract of the program's ways: a walk over conditions, the way written in one buffer. – Layer rule: the contract of the program's places: the ways to where a variable stands, from the rule's own conditions on. – Layer rule: slices.Equal of two rows of numbers; the program's within: whether a way goes to something in a scope. -/
import Derived.Test.YtoceogbanlmnoaaDRuleM
import Derived.Test.YtoceogbanlmnoaaEIndex
import Derived.Lib.SliceRun
namespace Go.Proofs.Ytoceogbanlmnoaa
section
open Go.RowKit
set_option maxRecDepth 100000

def Hd.own (h : Hd) (v : Int) : Bool := ownN h.x0 h.x1 h.x2 h.n0 h.n1 h.n2 v
mutual
/-- The ways with the kinds of what they go to, from a beginning on. -/
def Sh.wyk : Sh → Int → List Nat → List (List Nat × Int)
  | .mk _ l, v, ab => wayK l 0 v ab
def wayK : List Sh → Nat → Int → List Nat → List (List Nat × Int)
  | [], _, _, _ => []
  | s :: r, i, v, ab => (if s.hd.k = 3 then s.wyk v (ab ++ [i]) else if s.hd.own v = true then [(ab ++ [i], s.hd.k)] else []) ++ wayK r (i + 1) v ab
end
theorem wyk_eq (s : Sh) (v : Int) (ab : List Nat) : s.wyk v ab = wayK s.subs 0 v ab := by cases s; rw [Sh.wyk]; rfl
theorem wayK_nil (i : Nat) (v : Int) (ab : List Nat) : wayK [] i v ab = [] := by rw [wayK]
theorem wayK_cons (s : Sh) (r : List Sh) (i : Nat) (v : Int) (ab : List Nat) : wayK (s :: r) i v ab = (if s.hd.k = 3 then wayK s.subs 0 v (ab ++ [i]) else if s.hd.own v = true then [(ab ++ [i], s.hd.k)] else []) ++ wayK r (i + 1) v ab := by
  rw [wayK, wyk_eq]
/-- The ways alone. -/
def wayL (l : List Sh) (i : Nat) (v : Int) (ab : List Nat) : List (List Nat) := (wayK l i v ab).map (·.1)
theorem wayL_nil (i : Nat) (v : Int) (ab : List Nat) : wayL [] i v ab = [] := by unfold wayL; rw [wayK_nil]; rfl
theorem wayL_cons (s : Sh) (r : List Sh) (i : Nat) (v : Int) (ab : List Nat) : wayL (s :: r) i v ab = (if s.hd.k = 3 then wayL s.subs 0 v (ab ++ [i]) else if s.hd.own v = true then [ab ++ [i]] else []) ++ wayL r (i + 1) v ab := by
  unfold wayL
  rw [wayK_cons, List.map_append]
  congr 1
  split
  · rfl
  · split <;> rfl
theorem wayL_take_succ {v : Int} {ab : List Nat} {x : Sh} : ∀ (l : List Sh) (i j : Nat), l[j]? = some x → wayL (l.take (j + 1)) i v ab = wayL (l.take j) i v ab ++ (if x.hd.k = 3 then wayL x.subs 0 v (ab ++ [i + j]) else if x.hd.own v = true then [ab ++ [i + j]] else [])
  | [], _, _, h => by simp at h
  | s :: r, i, 0, h => by
    simp only [List.getElem?_cons_zero, Option.some.injEq] at h
    subst h
    rw [List.take_succ_cons, List.take_zero, List.take_zero, wayL_cons, wayL_nil, wayL_nil]
    simp
  | s :: r, i, j + 1, h => by
    rw [List.take_succ_cons, List.take_succ_cons, wayL_cons, wayL_cons, wayL_take_succ r (i + 1) j (by simpa using h), show i + 1 + j = i + (j + 1) by omega]
    simp only [List.append_assoc]

/-! ### What is right -/
theorem chk_zeroR {s : Sh} {d : Int} (h : s.chk d = 0) : d ≤ 3 ∧ ((s.hd.k = 3 ∧ s.subs ≠ [] ∧ chkL s.subs (d + 1) = 0) ∨ ((s.hd.k = 1 ∨ s.hd.k = 2) ∧ s.subs = [])) := by
  cases s with
  | mk hd subs =>
    simp only [Sh.chk] at h
    show d ≤ 3 ∧ ((hd.k = 3 ∧ subs ≠ [] ∧ chkL subs (d + 1) = 0) ∨ ((hd.k = 1 ∨ hd.k = 2) ∧ subs = []))
    by_cases h3 : 3 < d
    · rw [if_pos h3] at h; omega
    · rw [if_neg h3] at h
      refine ⟨by omega, ?_⟩
      by_cases hk : hd.k = 3
      · rw [if_pos hk] at h
        refine .inl ⟨hk, ?_⟩
        by_cases hz : hd.sameT zeroH = false
        · rw [if_pos hz] at h; omega
        · rw [if_neg hz] at h
          by_cases hl : subs.length = 0
          · rw [if_pos hl] at h; omega
          · rw [if_neg hl] at h
            exact ⟨fun e => hl (by rw [e]; rfl), h⟩
      · rw [if_neg hk] at h
        by_cases hk2 : hd.k = 1 ∨ hd.k = 2
        · rw [if_pos hk2] at h
          refine .inr ⟨hk2, ?_⟩
          by_cases hf : hd.fine = false
          · rw [if_pos hf] at h; omega
          · rw [if_neg hf] at h
            by_cases hl : 0 < subs.length
            · rw [if_pos hl] at h; omega
            · exact List.length_eq_zero_iff.1 (by omega)
        · rw [if_neg hk2] at h; omega
theorem chkL_at {l : List Sh} {d : Int} (h : chkL l d = 0) {j : Nat} {x : Sh} (hx : l[j]? = some x) : x.chk d = 0 := by
  induction l generalizing j with
  | nil => simp at hx
  | cons a r ih =>
    obtain ⟨h1, h2⟩ := (chkL_cons a r d).1 h
    cases j with
    | zero => simp only [List.getElem?_cons_zero, Option.some.injEq] at hx; subst hx; exact h1
    | succ j => exact ih h2 (by simpa using hx)
theorem has_eq (s : Sh) (v : Int) : s.has v = ((decide (s.hd.k < 3) && s.hd.own v) || hasL s.subs v) := by cases s; rw [has_mk]; rfl
/-- A condition that is right has a variable as it stands: by its own terms, or in its Subs. -/
theorem has_three {s : Sh} (h : s.hd.k = 3) (v : Int) : s.has v = hasL s.subs v := by rw [has_eq, h]; rfl
theorem has_two {s : Sh} (h : s.hd.k = 1 ∨ s.hd.k = 2) (hs : s.subs = []) (v : Int) : s.has v = s.hd.own v := by
  have : decide (s.hd.k < 3) = true := by rcases h with h | h <;> rw [h] <;> rfl
  rw [has_eq, this, hs]
  simp [hasL]
/-- How many, how long, which numbers. -/
theorem wayL_len (v : Int) : (∀ s : Sh, ∀ i ab, (wayL s.subs i v ab).length ≤ countL s.subs) ∧ ∀ l : List Sh, ∀ i ab, (wayL l i v ab).length ≤ countL l := by
  refine Sh.ind2 (fun hd subs ih i ab => ih i ab) (fun i ab => by rw [wayL_nil]; simp) (fun a l ha hl i ab => ?_)
  rw [wayL_cons, List.length_append]
  have h1 := ha 0 (ab ++ [i])
  have h2 := hl (i + 1) ab
  have h3 : a.count = 1 + countL a.subs := by cases a; simp [Sh.count, Sh.subs]
  simp only [countL]
  split
  · omega
  · split <;> simp <;> omega
theorem wayL_deep (v : Int) : (∀ s : Sh, ∀ d : Int, s.chk d = 0 → ∀ ab : List Nat, ∀ i, (ab.length : Int) = d → ∀ way ∈ wayL s.subs i v ab, way.length ≤ 3) ∧ ∀ l : List Sh, ∀ d : Int, chkL l d = 0 → ∀ ab : List Nat, ∀ i, (ab.length : Int) + 1 = d → ∀ way ∈ wayL l i v ab, way.length ≤ 3 := by
  refine Sh.ind2 (fun hd subs ih d hc ab i hd' way hw => ?_) (fun d _ ab i _ way hw => by rw [wayL_nil] at hw; cases hw) (fun a l ha hl d hc ab i hd' way hw => ?_)
  · rcases (chk_zeroR hc).2 with ⟨_, _, h⟩ | ⟨_, h⟩
    · exact ih _ h ab i (by omega) way hw
    · rw [show (Sh.mk hd subs).subs = [] from h, wayL_nil] at hw; cases hw
  · obtain ⟨h1, h2⟩ := (chkL_cons a l d).1 hc
    have h3 := (chk_zeroR h1).1
    rw [wayL_cons, List.mem_append] at hw
    rcases hw with hw | hw
    · split at hw
      · exact ha d h1 (ab ++ [i]) 0 (by rw [List.length_append, List.length_singleton]; omega) way hw
      · split at hw
        · rw [List.mem_singleton] at hw
          subst hw
          rw [List.length_append, List.length_singleton]; omega
        · cases hw
    · exact hl d h2 ab (i + 1) hd' way hw
theorem wayL_small (v : Int) : (∀ s : Sh, ∀ m, ∀ ab : List Nat, (∀ x ∈ ab, x ≤ m) → ∀ i, i + countL s.subs ≤ m + 1 → ∀ way ∈ wayL s.subs i v ab, ∀ x ∈ way, x ≤ m) ∧ ∀ l : List Sh, ∀ m, ∀ ab : List Nat, (∀ x ∈ ab, x ≤ m) → ∀ i, i + countL l ≤ m + 1 → ∀ way ∈ wayL l i v ab, ∀ x ∈ way, x ≤ m := by
  refine Sh.ind2 (fun hd subs ih m ab ha i hi way hw => ih m ab ha i hi way hw) (fun m ab _ i _ way hw => by rw [wayL_nil] at hw; cases hw) (fun a l ha hl m ab hab i hi way hw x hx => ?_)
  have h3 : a.count = 1 + countL a.subs := by cases a; simp [Sh.count, Sh.subs]
  simp only [countL] at hi
  have hab' : ∀ y ∈ ab ++ [i], y ≤ m := fun y hy => by
    rcases List.mem_append.1 hy with h | h
    · exact hab y h
    · rw [List.mem_singleton] at h; omega
  rw [wayL_cons, List.mem_append] at hw
  rcases hw with hw | hw
  · split at hw
    · exact ha m (ab ++ [i]) hab' 0 (by omega) way hw x hx
    · split at hw
      · rw [List.mem_singleton] at hw
        subst hw
        exact hab' x hx
      · cases hw
  · exact hl m ab hab (i + 1) (by omega) way hw x hx
theorem wayL_ne (v : Int) : (∀ s : Sh, ∀ d, s.chk d = 0 → ∀ ab, (wayL s.subs 0 v ab = [] ↔ hasL s.subs v = false)) ∧ ∀ l : List Sh, ∀ d, chkL l d = 0 → ∀ i ab, (wayL l i v ab = [] ↔ hasL l v = false) := by
  refine Sh.ind2 (fun hd subs ih d hc ab => ?_) (fun d _ i ab => by rw [wayL_nil]; simp [hasL]) (fun a l ha hl d hc i ab => ?_)
  · rcases (chk_zeroR hc).2 with ⟨_, _, h⟩ | ⟨_, h⟩
    · exact ih _ h 0 ab
    · rw [show (Sh.mk hd subs).subs = [] from h, wayL_nil]; simp [hasL]
  · obtain ⟨h1, h2⟩ := (chkL_cons a l d).1 hc
    rw [wayL_cons, List.append_eq_nil_iff, hl d h2, hasL, Bool.or_eq_false_iff]
    refine and_congr_left fun _ => ?_
    rcases (chk_zeroR h1).2 with ⟨hk, _, _⟩ | ⟨hk, hs⟩
    · rw [if_pos hk, ha d h1, has_three hk]
    · rw [if_neg (by omega), has_two hk hs]
      cases a.hd.own v <;> simp

/-! ### The scope -/
/-- The way to the scope of a variable that stands somewhere in these. -/
def scopeW (k : Int) (way : List Nat) : List Nat := if k = 2 then way else way.dropLast
/-- Of ways: is one not within the scope of the first? -/
def outW (ws : List (List Nat × Int)) : Bool := match ws with
  | [] => false
  | p :: r => (p :: r).any fun q => !decide (scopeW p.2 p.1 <+: q.1)
theorem outW_cons (p : List Nat × Int) (r : List (List Nat × Int)) : outW (p :: r) = (p :: r).any fun q => !decide (scopeW p.2 p.1 <+: q.1) := rfl
theorem wayK_ne {v : Int} {l : List Sh} {d : Int} (h : chkL l d = 0) (i : Nat) (ab : List Nat) : wayK l i v ab = [] ↔ hasL l v = false := by
  rw [← (wayL_ne v).2 l d h i ab]
  unfold wayL
  rw [List.map_eq_nil_iff]
/-- All ways go through the beginning, and on at i or behind it. -/
theorem wayK_begin (v : Int) : (∀ s : Sh, ∀ i ab, ∀ p ∈ wayK s.subs i v ab, ∃ j r, i ≤ j ∧ p.1 = ab ++ j :: r) ∧ ∀ l : List Sh, ∀ i ab, ∀ p ∈ wayK l i v ab, ∃ j r, i ≤ j ∧ p.1 = ab ++ j :: r := by
  refine Sh.ind2 (fun hd subs ih i ab => ih i ab) (fun i ab p hp => by rw [wayK_nil] at hp; cases hp) (fun a l ha hl i ab p hp => ?_)
  rw [wayK_cons, List.mem_append] at hp
  rcases hp with hp | hp
  · split at hp
    · obtain ⟨j, r, _, e⟩ := ha 0 (ab ++ [i]) p hp
      exact ⟨i, j :: r, Nat.le_refl _, by rw [e, List.append_assoc]; rfl⟩
    · split at hp
      · rw [List.mem_singleton] at hp
        exact ⟨i, [], Nat.le_refl _, by rw [hp]⟩
      · cases hp
  · obtain ⟨j, r, hj, e⟩ := hl (i + 1) ab p hp
    exact ⟨j, r, by omega, e⟩
theorem not_prefix {ab sc r' : List Nat} {i j : Nat} (hsc : ab ++ [i] <+: sc) (hij : i < j) : ¬ sc <+: ab ++ j :: r' := fun h => by
  have h1 := hsc.trans h
  rw [List.prefix_append_right_inj, List.singleton_prefix_cons_iff] at h1 <;> omega
theorem any_true_of_all {α : Type} {p : α → Bool} {l : List α} (h : ∀ x ∈ l, p x = true) : l.any p = !l.isEmpty := by
  cases l with
  | nil => rfl
  | cons a r => simp [h a (List.mem_cons_self)]
theorem any_false_of_all {α : Type} {p : α → Bool} {l : List α} (h : ∀ x ∈ l, p x = false) : l.any p = false := by
  rw [List.any_eq_false]
  intro x hx
  rw [h x hx]; simp
/-- The first way's scope has the beginning in it; whether a variable is out of place hangs on the ways alone. -/
theorem out_ways (v : Int) : (∀ s : Sh, ∀ d, s.chk d = 0 → ∀ ab, (outW (wayK s.subs 0 v ab) = decide (outL s.subs v = 1)) ∧ ∀ p r, wayK s.subs 0 v ab = p :: r → ab <+: scopeW p.2 p.1) ∧ ∀ l : List Sh, ∀ d, chkL l d = 0 → ∀ i ab, (outW (wayK l i v ab) = decide (outL l v = 1)) ∧ ∀ p r, wayK l i v ab = p :: r → ab <+: scopeW p.2 p.1 := by
  refine Sh.ind2 (fun hd subs ih d hc ab => ?_) (fun d _ i ab => ?_) (fun a l ha hl d hc i ab => ?_)
  · rcases (chk_zeroR hc).2 with ⟨_, _, h⟩ | ⟨_, h⟩
    · exact ih _ h 0 ab
    · rw [show (Sh.mk hd subs).subs = [] from h, wayK_nil, outL_nil]
      exact ⟨rfl, fun p r e => by cases e⟩
  · rw [wayK_nil, outL_nil]
    exact ⟨rfl, fun p r e => by cases e⟩
  · obtain ⟨h1, h2⟩ := (chkL_cons a l d).1 hc
    have IHa := ha d h1 (ab ++ [i])
    have IHl := hl d h2 (i + 1) ab
    have HB := (wayK_begin v).2 l (i + 1) ab
    have HN := wayK_ne (v := v) h2 (i + 1) ab
    have HR : (!(wayK l (i + 1) v ab).isEmpty) = hasL l v := by
      cases hh : hasL l v
      · rw [HN.2 hh]; rfl
      · cases hw : wayK l (i + 1) v ab with
        | nil => rw [HN.1 hw] at hh; cases hh
        | cons p r => rfl
    rw [wayK_cons, outL_cons]
    rcases (chk_zeroR h1).2 with ⟨hk, _, hsub⟩ | ⟨hk, hs⟩
    · rw [if_pos hk, has_three hk]
      have HNa := wayK_ne (v := v) hsub 0 (ab ++ [i])
      by_cases hh : hasL a.subs v = false
      · rw [HNa.2 hh, List.nil_append, if_pos hh]
        exact IHl
      · rw [if_neg hh, if_neg (by omega)]
        cases hw : wayK a.subs 0 v (ab ++ [i]) with
        | nil => exact absurd (HNa.1 hw) hh
        | cons p r =>
          rw [hw] at IHa
          obtain ⟨A1, A2⟩ := IHa
          have A3 := A2 p r rfl
          have hrest : (wayK l (i + 1) v ab).any (fun q => !decide (scopeW p.2 p.1 <+: q.1)) = hasL l v := by
            rw [any_true_of_all, HR]
            intro q hq
            obtain ⟨j, r', hj, e⟩ := HB q hq
            have := not_prefix (r' := r') A3 (show i < j by omega)
            rw [← e] at this
            simp [this]
          refine ⟨?_, fun p' r' e => ?_⟩
          · rw [List.cons_append, outW_cons, ← List.cons_append, List.any_append, hrest, ← outW_cons, A1]
            cases hasL l v
            · simp [hk]
            · simp
          · rw [List.cons_append, List.cons.injEq] at e
            obtain ⟨rfl, _⟩ := e
            exact (List.prefix_append ab [i]).trans A3
    · rw [if_neg (by omega), has_two hk hs]
      by_cases ho : a.hd.own v = true
      · rw [if_pos ho, if_neg (by rw [ho]; simp), List.singleton_append]
        rcases hk with hk | hk
        · have hsw : scopeW a.hd.k (ab ++ [i]) = ab := by unfold scopeW; rw [if_neg (by omega)]; simp
          refine ⟨?_, fun p' r' e => ?_⟩
          · rw [if_pos hk]
            rw [outW_cons, hsw]
            refine any_false_of_all fun q hq => ?_
            have hp : ab <+: q.1 := by
              rcases List.mem_cons.1 hq with rfl | hq
              · exact List.prefix_append _ _
              · obtain ⟨j, r', _, e⟩ := HB q hq
                rw [e]; exact List.prefix_append _ _
            simp [hp]
          · rw [List.cons.injEq] at e
            obtain ⟨rfl, _⟩ := e
            rw [hsw]; exact List.prefix_refl _
        · have hsw : scopeW a.hd.k (ab ++ [i]) = ab ++ [i] := by unfold scopeW; rw [if_pos hk]
          refine ⟨?_, fun p' r' e => ?_⟩
          · rw [if_neg (by omega)]
            rw [outW_cons, hsw, List.any_cons]
            have hrest : (wayK l (i + 1) v ab).any (fun q => !decide (ab ++ [i] <+: q.1)) = hasL l v := by
              rw [any_true_of_all, HR]
              intro q hq
              obtain ⟨j, r', hj, e⟩ := HB q hq
              have := not_prefix (r' := r') (List.prefix_refl (ab ++ [i])) (show i < j by omega)
              rw [← e] at this
              simp [this]
            rw [hrest]
            cases hasL l v
            · simp [hk]
            · simp
          · rw [List.cons.injEq] at e
            obtain ⟨rfl, _⟩ := e
            rw [hsw]; exact List.prefix_append _ _
      · rw [if_neg ho, List.nil_append, if_pos (by simpa using ho)]
        exact IHl

/-! ### Where a way goes -/
/-- What a way goes through, from a list on. -/
def subW (L : List Sh) (way : List Nat) : Option (List Sh) := way.foldl (fun o i => o.bind fun l => l[i]?.map Sh.subs) (some L)
theorem subW_snoc (L : List Sh) (way : List Nat) (i : Nat) : subW L (way ++ [i]) = (subW L way).bind fun l => l[i]?.map Sh.subs := by unfold subW; rw [List.foldl_append]; rfl
/-- Each way goes to a condition of its kind. -/
theorem wayK_at (v : Int) (L : List Sh) : (∀ s : Sh, ∀ ab, subW L ab = some s.subs → ∀ p ∈ wayK s.subs 0 v ab, ∃ w M j x, p.1 = w ++ [j] ∧ subW L w = some M ∧ M[j]? = some x ∧ x.hd.k = p.2) ∧ ∀ l : List Sh, ∀ M i ab, l = M.drop i → subW L ab = some M → ∀ p ∈ wayK l i v ab, ∃ w M j x, p.1 = w ++ [j] ∧ subW L w = some M ∧ M[j]? = some x ∧ x.hd.k = p.2 := by
  refine Sh.ind2 (fun hd subs ih ab hs p hp => ih subs 0 ab (by simp) hs p hp) (fun M i ab _ _ p hp => by rw [wayK_nil] at hp; cases hp) (fun a l ha hl M i ab hM hs p hp => ?_)
  have hi : M[i]? = some a := by
    have := congrArg (fun l => l[0]?) hM
    simpa using this.symm
  have hr : l = M.drop (i + 1) := by
    have := congrArg (fun l => l.drop 1) hM
    simpa using this
  rw [wayK_cons, List.mem_append] at hp
  rcases hp with hp | hp
  · split at hp
    · exact ha (ab ++ [i]) (by rw [subW_snoc, hs]; simp [hi]) p hp
    · split at hp
      · rw [List.mem_singleton] at hp
        subst hp
        exact ⟨ab, M, i, a, rfl, hs, hi, rfl⟩
      · cases hp
  · exact hl M (i + 1) ab hr hs p hp
end
section
open Go.RowKit
set_option maxRecDepth 100000

theorem ownN_three (x0 x1 x2 : Bool) (n0 n1 n2 v : Int) : ownN x0 x1 x2 n0 n1 n2 v = (decide (true = x0 ∧ v = n0) || (decide (true = x1 ∧ v = n1) || decide (true = x2 ∧ v = n2))) := by
  have key : ∀ (x : Bool) (n : Int), (x && n == v) = decide (true = x ∧ v = n) := fun x n => by
    rw [Bool.eq_iff_iff]
    cases x
    · simp
    · simp only [Bool.true_and, beq_iff_eq, true_and, decide_eq_true_eq]; exact ⟨Eq.symm, Eq.symm⟩
  unfold ownN
  rw [key, key, key]
theorem first3_ge (b0 b1 b2 : Bool) : decide (0 ≤ first3 b0 b1 b2) = (b0 || (b1 || b2)) := by cases b0 <;> cases b1 <;> cases b2 <;> rfl
set_option maxHeartbeats 1000000 in
theorem contains3_any (k : Int) (x0 x1 x2 : Bool) (n0 n1 n2 : Int) (u : Value) (v : Int) (G : Nat) (w : World) (h : Blk w G 27 (arr8 ⟨k, x0, x1, x2, n0, n1, n2⟩ u)) :
    Calls Try.prog 87 #[.slice (some ⟨G, 1, none⟩) 3 3, .agg #[.bool true, .int .i64 v]] w fun e w' => e = .returned (.bool (ownN x0 x1 x2 n0 n1 n2 v)) ∧ Kept Nil w w' := by
  have HE := Lib.hid (ownN_three x0 x1 x2 n0 n1 n2 v)
  have C := Lib.hid (index3_any k x0 x1 x2 n0 n1 n2 u v G _ (h.alloc (.cells #[.bool true, .int .i64 v] 24)))
  have HG := Lib.hid (first3_ge (decide (true = x0 ∧ v = n0)) (decide (true = x1 ∧ v = n1)) (decide (true = x2 ∧ v = n2)))
  generalize first3 (decide (true = x0 ∧ v = n0)) (decide (true = x1 ∧ v = n1)) (decide (true = x2 ∧ v = n2)) = r at C HG
  have K0 := Lib.hid ((Kept.refl Nil w).alloc (.cells #[.bool true, .int .i64 v] 24))
  clear h
  go_enter Try.func87, Try.ntmps87
  go_wp2_with fail
  refine C.out.mono ?_
  rintro e w2 ⟨rfl, k2⟩
  go_wp2_with fail
  go_ret
  exact ⟨ret_bool (by rw [HE.out, ← HG.out]), K0.out.trans k2 (fun _ _ g => g)⟩
/-- The class of worlds in which a condition's block and a term's are as they were laid. -/
def CS2 (w : World) (G : Nat) (cs : Array Value) (S : Nat) (v : Int) (W : World) : Prop := Blk W G 27 cs ∧ Blk W S 24 #[.bool true, .int .i64 v] ∧ Kept Nil w W
theorem CS2.step {w : World} {G S : Nat} {cs : Array Value} {v : Int} (W W' : World) (h : CS2 w G cs S v W) (k : Kept Nil W W') : CS2 w G cs S v W' := ⟨h.1.kept k id, h.2.1.kept k id, h.2.2.trans k (fun _ _ g => g)⟩
set_option maxHeartbeats 1000000 in
/-- The closure over the term. -/
theorem stands_any (k : Int) (x0 x1 x2 : Bool) (n0 n1 n2 : Int) (u : Value) (v : Int) (S : Nat) (w : World) (h : Blk w S 24 #[.bool true, .int .i64 v]) :
    Calls Try.prog 86 #[vA ⟨k, x0, x1, x2, n0, n1, n2⟩ u, .pointer (some ⟨S, 0, none⟩)] w fun e w' => e = .returned (.bool (ownN x0 x1 x2 n0 n1 n2 v)) ∧ Kept Nil w w' := by
  have B0 := Lib.hid (h.alloc (.cells (arr8 ⟨k, x0, x1, x2, n0, n1, n2⟩ u) 27))
  have K0 := Lib.hid ((Kept.refl Nil w).alloc (.cells (arr8 ⟨k, x0, x1, x2, n0, n1, n2⟩ u) 27))
  have C := Lib.hid (fun W (b : Blk W w.heap.size 27 (arr8 ⟨k, x0, x1, x2, n0, n1, n2⟩ u)) => contains3_any k x0 x1 x2 n0 n1 n2 u v w.heap.size W b)
  have O := Lib.hid (show CS2 w w.heap.size (arr8 ⟨k, x0, x1, x2, n0, n1, n2⟩ u) S v ((w.alloc (.cells (arr8 ⟨k, x0, x1, x2, n0, n1, n2⟩ u) 27)).drew) from ⟨Blk.new w _ _, B0.out, K0.out.drew⟩)
  clear h B0 K0
  go_enter Try.func86, Try.ntmps86
  go_wp2_with fail
  refine wp_region_in (CS2 w w.heap.size (arr8 ⟨k, x0, x1, x2, n0, n1, n2⟩ u) S v) (by kernel_rfl) (by kernel_rfl) O.out ?_
  have inst : Nonempty (CW (CS2 w w.heap.size (arr8 ⟨k, x0, x1, x2, n0, n1, n2⟩ u) S v)) := ⟨⟨_, O.out⟩⟩
  have CN := Lib.hid (fun n : CW (CS2 w w.heap.size (arr8 ⟨k, x0, x1, x2, n0, n1, n2⟩ u) S v) => C.out n.w n.of.1)
  have hc0 : ∀ n : CW (CS2 w w.heap.size (arr8 ⟨k, x0, x1, x2, n0, n1, n2⟩ u) S v), n.w.cell? ⟨S, 0, none⟩ = some (.bool true) := fun n => n.of.2.1.cell 0
  have hc1 : ∀ n : CW (CS2 w w.heap.size (arr8 ⟨k, x0, x1, x2, n0, n1, n2⟩ u) S v), n.w.cell? ⟨S, 1, none⟩ = some (.int .i64 v) := fun n => n.of.2.1.cell 1
  repeat (go_big_quiet_step ((go_at_call 87; exact call_in CS2.step (CN.out _))))
  refine wpQuiet_nil ?_
  rintro _ ⟨n, rfl⟩
  go_wp2
  go_ret
  exact ⟨rfl, n.of.2.2⟩
end
section
open Go.RowKit
set_option maxRecDepth 100000

theorem infoI : (Try.prog.info? 3).map (fun i => (i.zero, i.size, i.bytes)) = some (some (.int .i64 0), 1, 8) := by kernel_rfl
theorem infoW : (Try.prog.info? 124).map (fun i => (i.zero, i.size, i.bytes)) = some (some (.slice none 0 0), 1, 24) := by kernel_rfl
abbrev valI (i : Nat) : Value := .int .i64 (i : Int)
/-- A slice of numbers in memory, behind a base: a block of its own. -/
def KidR (w : World) (B : Nat) (u : Value) (way : List Nat) : Prop := ∃ (g c : Nat) (cs : Array Value), u = .slice (some ⟨g, 0, none⟩) way.length c ∧ way.length ≤ c ∧ B ≤ g ∧ Blk w g 3 cs ∧ ∀ (j x : Nat), way[j]? = some x → cs[j]? = some (valI x)
/-- A row of the call's own that holds ways. -/
def WRow (w : World) (B : Nat) (v : Value) (ws : List (List Nat)) : Prop := ∃ vals : List Value, w.ownsRow B 124 1 v ws.length vals ∧ ∀ (i : Nat) (way : List Nat) (u : Value), ws[i]? = some way → vals[i]? = some u → KidR w B u way
theorem KidR.kept {F : Nat → Prop} {w w' : World} {B : Nat} {u : Value} {way : List Nat} (h : KidR w B u way) (k : Kept F w w') (hF : ∀ g cs, Blk w g 3 cs → B ≤ g → ¬ F g) : KidR w' B u way := by
  obtain ⟨g, c, cs, e, hn, hb, hB, hc⟩ := h
  exact ⟨g, c, cs, e, hn, hb, hB.kept k (hF g cs hB hb), hc⟩
theorem KidR.less {w : World} {B B' : Nat} {u : Value} {way : List Nat} (h : KidR w B u way) (hB : B' ≤ B) : KidR w B' u way := by
  obtain ⟨g, c, cs, e, hn, hb, r⟩ := h
  exact ⟨g, c, cs, e, hn, Nat.le_trans hB hb, r⟩
theorem WRow.kept {F : Nat → Prop} {w w' : World} {B : Nat} {v : Value} {ws : List (List Nat)} (h : WRow w B v ws) (k : Kept F w w') (hF : ∀ i, F i → i < B) : WRow w' B v ws := by
  obtain ⟨vals, ho, hk⟩ := h
  exact ⟨vals, Kept.row k ho (fun i hi hf => by have := (ownsBlk ho i hi).1; have := hF i hf; omega), fun i way u h1 h2 => (hk i way u h1 h2).kept k (fun g cs _ hb hf => by have := hF g hf; omega)⟩
theorem WRow.nil (w : World) (B : Nat) : WRow w B (.slice none 0 0) [] := ⟨[], World.ownsRow_nil _ _ _ _, fun i way u h => by simp at h⟩
theorem WRow.own {w : World} {B : Nat} {v : Value} {ws : List (List Nat)} (h : WRow w B v ws) : ∀ k, v.ownBlock = some k → B ≤ k ∧ k < w.heap.size := by
  obtain ⟨vals, ho, _⟩ := h
  intro k hk
  obtain ⟨h1, cur, h2⟩ := ownsBlk ho k hk
  exact ⟨h1, h2.lt⟩
theorem WRow.shape {w : World} {B : Nat} {v : Value} {ws : List (List Nat)} (h : WRow w B v ws) : ∃ a cap, v = .slice a ws.length cap := by
  obtain ⟨vals, ho, _⟩ := h
  rcases ho.2 with ⟨e, e0⟩ | ⟨g, cap, cur, e, _⟩
  · exact ⟨none, 0, by rw [e, e0]⟩
  · exact ⟨_, cap, e⟩
/-- A way of the row, in memory. -/
theorem WRow.at_ {w : World} {B n cap : Nat} {a : Option Addr} {ws : List (List Nat)} (h : WRow w B (.slice a n cap) ws) {i : Nat} {way : List Nat} (hi : ws[i]? = some way) :
    ∃ g u, a = some ⟨g, 0, none⟩ ∧ w.cell? ⟨g, i, none⟩ = some u ∧ KidR w B u way := by
  obtain ⟨vals, ho, hk⟩ := h
  have hil := (List.getElem?_eq_some_iff.1 hi).1
  rcases ho.2 with ⟨e, e0⟩ | ⟨g, cap', cur, e, _⟩
  · omega
  · cases e
    have hl : vals.length = ws.length := by have := ho.1; omega
    have hv : vals[i]? = some vals[i] := List.getElem?_eq_getElem (by omega)
    refine ⟨g, vals[i], rfl, ?_, hk i way _ hi hv⟩
    have := ho.cells (g := g) rfl i vals[i] hv
    rwa [Addr.add_mid, Nat.zero_add] at this
theorem appendW_one (w : World) {B : Nat} {v : Value} {ws : List (List Nat)} (h : WRow w B v ws) (hB : B ≤ w.heap.size) (hl : ws.length ≤ 50000) {u : Value} {way : List Nat} (hu : KidR w B u way) :
    ∃ v' w', (Builtin.append_ #[122, 122] 122 #[v, .slice (some ⟨w.heap.size, 0, none⟩) 1 1]).run Try.prog (w.alloc (.cells #[u] 124)) = .ok v' w' ∧ WRow w' B v' (ws ++ [way]) ∧ Kept (fun k => v.ownBlock = some k) w w' := by
  obtain ⟨vals, ho, hk⟩ := h
  obtain ⟨i0, hi, hz0, hz1, hz2⟩ := info_parts infoW
  have hone : u.oneCell' = true := by obtain ⟨g, c, cs, e, _⟩ := hu; rw [e]; rfl
  obtain ⟨v', w', r, o, g', _⟩ := run_append_own (P := Try.prog) (w.alloc (.cells #[u] 124)) B 122 122 124 i0 (.slice none 0 0) 1 24 Try.underlying122 hi hz0 hz1 hz2 rfl (by decide) v ws.length vals (ho.alloc _)
    ⟨w.heap.size, 0, none⟩ 1 1 [u] rfl (fun j x hj => by rw [Addr.add_mid, Nat.zero_add, (Blk.new w 124 #[u]).cell j]; simpa using hj) (fun x hx => by simp at hx; subst hx; exact hone) (by unfold maxLen; omega) (by omega) (by simp; omega)
  have kk : Kept (fun k => v.ownBlock = some k) w w' := ((Kept.refl _ w).alloc _).grown g' (fun k hk => .inl hk)
  have keep : ∀ x y, KidR w B x y → KidR w' B x y := fun x y hx => hx.kept kk (fun g cs hb _ hf => by
    obtain ⟨_, cur, hc⟩ := ownsBlk ho g hf
    have := blk_type hb hc
    exact absurd this (by decide))
  refine ⟨v', w', r, ⟨vals ++ [u], by simpa using o, fun i y x h1 h2 => ?_⟩, kk⟩
  have hlen : vals.length = ws.length := by have := ho.1; omega
  by_cases hil : i < ws.length
  · rw [List.getElem?_append_left hil] at h1
    rw [List.getElem?_append_left (by omega)] at h2
    exact keep _ _ (hk i y x h1 h2)
  · rw [List.getElem?_append_right (by omega)] at h1 h2
    rw [hlen] at h2
    have : i - ws.length = 0 := by
      have := (List.getElem?_eq_some_iff.1 h1).1
      simp at this; omega
    rw [this] at h1 h2
    simp at h1 h2
    subst h1 h2
    exact keep _ _ hu
theorem appendW_all (w : World) {B B2 : Nat} {v v2 : Value} {ws ws2 : List (List Nat)} (h : WRow w B v ws) (h2 : WRow w B2 v2 ws2) (hB : B ≤ w.heap.size) (hBB : B ≤ B2) (hl : ws.length + ws2.length ≤ 50000) :
    ∃ v' w', (Builtin.append_ #[122, 122] 122 #[v, v2]).run Try.prog w = .ok v' w' ∧ WRow w' B v' (ws ++ ws2) ∧ Kept (fun k => v.ownBlock = some k) w w' := by
  obtain ⟨vals, ho, hk⟩ := h
  obtain ⟨vals2, ho2, hk2⟩ := h2
  obtain ⟨i0, hi, hz0, hz1, hz2⟩ := info_parts infoW
  have hlen : vals.length = ws.length := by have := ho.1; omega
  have hlen2 : vals2.length = ws2.length := by have := ho2.1; omega
  rcases ho2.2 with ⟨e, e0⟩ | ⟨g, cap, cur, e, _⟩
  · obtain rfl := List.length_eq_zero_iff.1 e0
    subst e
    exact ⟨v, w, run_append_owned_none (P := Try.prog) (w := w) B 122 122 124 i0 1 Try.underlying122 hi v ws.length _ ho, ⟨vals, by simpa using ho, by simpa using hk⟩, Kept.refl _ _⟩
  · subst e
    obtain ⟨v', w', r, o, gr, _⟩ := run_append_own (P := Try.prog) w B 122 122 124 i0 (.slice none 0 0) 1 24 Try.underlying122 hi hz0 hz1 hz2 rfl (by decide) v ws.length vals ho
      ⟨g, 0, none⟩ ws2.length cap vals2 (by simp [hlen2]) (ho2.cells rfl) (fun u hu => by
        obtain ⟨j, hj⟩ := List.getElem?_of_mem hu
        have hjl := (List.getElem?_eq_some_iff.1 hj).1
        obtain ⟨g', c', cs', e', _⟩ := hk2 j ws2[j] u (List.getElem?_eq_getElem (by omega)) hj
        rw [e']; rfl) (by unfold maxLen; omega) (by omega) hB
    have kk : Kept (fun k => v.ownBlock = some k) w w' := ⟨gr.os, gr.tape, gr.output, gr.size, fun k hk hF => gr.block k hk (fun e => hF e.symm)⟩
    have keep : ∀ x y, KidR w B x y → KidR w' B x y := fun x y hx => hx.kept kk (fun g cs hb _ hf => by
      obtain ⟨_, cur, hc⟩ := ownsBlk ho g hf
      have := blk_type hb hc
      exact absurd this (by decide))
    refine ⟨v', w', r, ⟨vals ++ vals2, by simpa using o, fun i y x h1 h2 => ?_⟩, kk⟩
    by_cases hil : i < ws.length
    · rw [List.getElem?_append_left hil] at h1
      rw [List.getElem?_append_left (by omega)] at h2
      exact keep _ _ (hk i y x h1 h2)
    · rw [List.getElem?_append_right (by omega)] at h1 h2
      rw [hlen] at h2
      exact keep _ _ ((hk2 _ y x h1 h2).less hBB)
/-- The buffer in which ways are written: three numbers, of which the first are a beginning. -/
def Buf (w : World) (b : Nat) (ab : List Nat) : Prop := ∃ cs : Array Value, Blk w b 3 cs ∧ cs.size = 3 ∧ ∀ (j x : Nat), ab[j]? = some x → cs[j]? = some (valI x)
theorem Buf.kept {F : Nat → Prop} {w w' : World} {b : Nat} {ab : List Nat} (h : Buf w b ab) (k : Kept F w w') (hF : ¬ F b) : Buf w' b ab := by
  obtain ⟨cs, hb, hs, hc⟩ := h
  exact ⟨cs, hb.kept k hF, hs, hc⟩
theorem Buf.less {w : World} {b : Nat} {ab r : List Nat} (h : Buf w b (ab ++ r)) : Buf w b ab := by
  obtain ⟨cs, hb, hs, hc⟩ := h
  exact ⟨cs, hb, hs, fun j x hj => hc j x (by rw [List.getElem?_append_left (List.getElem?_eq_some_iff.1 hj).1]; exact hj)⟩
/-- One number more, in place. -/
theorem appendB_one (w : World) {b : Nat} {ab : List Nat} (h : Buf w b ab) (hl : ab.length < 3) (i : Nat) :
    ∃ w', (Builtin.append_ #[124, 124] 124 #[.slice (some ⟨b, 0, none⟩) ab.length 3, .slice (some ⟨w.heap.size, 0, none⟩) 1 1]).run Try.prog (w.alloc (.cells #[valI i] 3)) = .ok (.slice (some ⟨b, 0, none⟩) (ab.length + 1) 3) w' ∧ Buf w' b (ab ++ [i]) ∧ Kept (fun k => k = b) w w' := by
  obtain ⟨cs, hb, hs, hc⟩ := h
  obtain ⟨i0, hi, hz0, hz1, hz2⟩ := info_parts infoI
  have hb' := hb.alloc (.cells #[valI i] 3)
  have r := run_append_room (P := Try.prog) (w.alloc (.cells #[valI i] 3)) 124 124 3 i0 Try.underlying124 hi b ab.length 3 cs hb'
    ⟨w.heap.size, 0, none⟩ 1 1 [valI i] (by rw [hz1]; rfl) (fun j x hj => by rw [Addr.add_mid, Nat.zero_add, (Blk.new w 3 #[valI i]).cell j]; simpa using hj) (fun x hx => by simp at hx; subst hx; rfl) (by omega) (by rw [hz1]; simp; omega)
  refine ⟨_, r, ⟨_, hb'.row _, ?_, fun j x hj => ?_⟩, Kept.setRow (F := fun k => k = b) ((Kept.refl _ w).alloc _) b (.inl rfl) _⟩
  · simp [hz1]; omega
  · rw [hz1]
    simp only [Nat.mul_one, List.getElem?_toArray]
    have hjl : j < ab.length + 1 := by have := (List.getElem?_eq_some_iff.1 hj).1; simpa using this
    have h3 : (cs.toList.take ab.length).length = ab.length := by rw [List.length_take]; simp; omega
    rw [List.append_assoc]
    by_cases hj2 : j < ab.length
    · rw [List.getElem?_append_left (by omega), List.getElem?_take, if_pos hj2]
      rw [List.getElem?_append_left hj2] at hj
      have := hc j x hj
      simpa using this
    · have hje : j = ab.length := by omega
      subst hje
      rw [List.getElem?_append_right (by omega), h3]
      rw [List.getElem?_append_right (by omega)] at hj
      simp at hj
      subst hj
      simp
set_option maxHeartbeats 1000000 in
/-- A way is copied out of the buffer. -/
theorem clone_any (w : World) {b : Nat} {ab : List Nat} (h : Buf w b ab) (hl : 0 < ab.length ∧ ab.length ≤ 3) :
    Calls Try.prog 91 #[.slice (some ⟨b, 0, none⟩) ab.length 3] w fun e w' => ∃ u, e = .returned u ∧ KidR w' w.heap.size u ab ∧ Kept Nil w w' := by
  obtain ⟨i0, hi, hz0, hz1, hz2⟩ := info_parts infoI
  obtain ⟨cs, hb, hs, hc⟩ := h
  have hb' := hb.alloc (.cells #[] 3)
  obtain ⟨v', w', r, o, gr, _⟩ := run_append_own (P := Try.prog) (w.alloc (.cells #[] 3)) w.heap.size 124 124 3 i0 (.int .i64 0) 1 8 Try.underlying124 hi hz0 hz1 hz2 rfl (by decide) (.slice (some ⟨w.heap.size, 0, none⟩) 0 0) 0 []
    (World.ownsRow_lit w #[] 0 (Nat.le_refl _) (by unfold maxLen; omega) rfl) ⟨b, 0, none⟩ ab.length 3 (ab.map valI) (by simp) (fun j u hj => by
      rw [Addr.add_mid, Nat.zero_add, hb'.cell j]
      rw [List.getElem?_map] at hj
      obtain ⟨x, hx, rfl⟩ := Option.map_eq_some_iff.1 hj
      exact hc j x hx) (fun u hu => by obtain ⟨x, _, rfl⟩ := List.mem_map.1 hu; rfl) (by unfold maxLen; omega) (by omega) (by simp)
  have RR := Lib.hid r
  have kk : Kept Nil w w' := ((Kept.refl Nil w).alloc (.cells #[] 3)).grown gr (fun k hk => .inr (by simp [Value.ownBlock] at hk; omega))
  have HK := Lib.hid kk
  have HO : Hid (KidR w' w.heap.size v' ab) := Lib.hid (by
    rcases o.2 with ⟨_, e0⟩ | ⟨g, cap, cur, e, hb2, hg, hn, hm, hsz, htk⟩
    · omega
    · refine ⟨g, cap, cur, by rw [e]; simp, by omega, hb2, hg, fun j x hj => ?_⟩
      have hjl := (List.getElem?_eq_some_iff.1 hj).1
      have := congrArg (fun l => l[j]?) htk
      simp only [List.getElem?_take, List.nil_append, List.getElem?_map, hj] at this
      rw [if_pos (by omega)] at this
      simpa using this)
  clear r kk o gr hc hb' hz0 hz1 hz2 hi
  have hpos := hl.1
  have hnil : ∀ W : World, (binOp .eql 124 (.slice (some ⟨b, 0, none⟩) ab.length 3) (.slice none 0 0)).run Try.prog W = .ok (.bool false) W := fun W => Lib.run_eql_slice_nil W _ _ _ _ _ _ _ Try.underlying124
  generalize ab.length = n at *
  clear hl
  go_enter Try.func91, Try.ntmps91
  go_wp2_with (at_builtin; refine wpList_append_run rfl (.tmp 5) (.tmp 6) 124 rfl _ _ rfl rfl RR.out ?_)
  go_ret
  exact ⟨_, rfl, HO.out, HK.out⟩
end
section
open Go.RowKit
set_option maxRecDepth 100000

theorem KidR.shape {w : World} {B : Nat} {u : Value} {way : List Nat} (h : KidR w B u way) : ∃ a m c, u = .slice a m c := by
  obtain ⟨g, c, cs, e, _⟩ := h
  exact ⟨_, _, _, e⟩
/-- The ways are told, in new memory; the buffer alone is written, behind the beginning. -/
def WaysEnd (out : List (List Nat)) (b : Nat) (ab : List Nat) (w : World) (e : Ending) (w' : World) : Prop := ∃ r, e = .returned r ∧ WRow w' w.heap.size r out ∧ Kept (fun k => k = b) w w' ∧ Buf w' b ab
abbrev predV (S : Nat) : Value := .func (.func 86) #[] #[.pointer (some ⟨S, 0, none⟩)]
abbrev WaysIH (l : List Sh) (v : Int) (S b : Nat) : Prop := ∀ hd sb, Sh.mk hd sb ∈ l → ∀ ok a cap ab w, chkL sb ((ab.length : Int) + 1) = 0 → Holds cA w ok (.slice a sb.length cap) sb → (∀ x o, ok x o → x ≠ b) → S ≠ b → Blk w S 24 #[.bool true, .int .i64 v] → Buf w b ab →
  Calls Try.prog 85 #[.slice a sb.length cap, .slice (some ⟨b, 0, none⟩) ab.length 3, predV S] w (WaysEnd (wayL sb 0 v ab) b ab w)
set_option maxHeartbeats 1000000 in
theorem ways_step (l : List Sh) (len : Nat) (HL : Hid (l.length = len)) (HC : Hid (countL l ≤ 100)) (v : Int) (S b : Nat) (IH : Hid (WaysIH l v S b)) (ok : Nat → Nat → Prop) (a : Option Addr) (cap : Nat) (ab : List Nat) (n : Nat) (HN : Hid (ab.length = n)) (w : World)
    (HCk : Hid (chkL l ((ab.length : Int) + 1) = 0)) (HH : Hid (Holds cA w ok (.slice a len cap) l)) (HOk : Hid (∀ x o, ok x o → x ≠ b)) (HSb : Hid (S ≠ b)) (HS : Hid (Blk w S 24 #[.bool true, .int .i64 v])) (HBuf : Hid (Buf w b ab)) :
    Calls Try.prog 85 #[.slice a len cap, .slice (some ⟨b, 0, none⟩) n 3, predV S] w (WaysEnd (wayL l 0 v ab) b ab w) := by
  have hb0 : b < w.heap.size := by obtain ⟨cs, h, _⟩ := HBuf.out; exact h.lt
  have hLen : len ≤ 100 := by have := length_countL l; have := HL.out; have := HC.out; omega
  go_enter Try.func85, Try.ntmps85
  go_wp2_with fail
  go_loopw [7, 13] (fun u i wr => ∃ j : Nat, j ≤ len ∧ i = .int .i64 j ∧ WRow wr w.heap.size u (wayL (l.take j) 0 v ab) ∧ Kept (fun k => k = b) w wr ∧ Buf wr b ab) (fun _ i _ => len - (intOf i).toNat)
  case atStart => exact ⟨0, by omega, rfl, by rw [List.take_zero, wayL_nil]; exact WRow.nil _ _, Kept.refl _ _, HBuf.out⟩
  case round =>
    obtain ⟨j, hj, rfl, hR, hK, hBf⟩ := hrel
    have HR := Lib.hid hR
    have HK := Lib.hid hK
    have HBf := Lib.hid hBf
    clear hR hK hBf HBuf
    by_cases hlt : j < len
    · obtain ⟨⟨⟨k', x0', x1', x2', n0', n1', n2'⟩, sb⟩, hx⟩ : ∃ x, l[j]? = some x := ⟨_, List.getElem?_eq_getElem (by have := HL.out; omega)⟩
      have hck : (Sh.mk ⟨k', x0', x1', x2', n0', n1', n2'⟩ sb).chk ((ab.length : Int) + 1) = 0 := chkL_at HCk.out hx
      have HZ := Lib.hid (chk_zeroR hck)
      have hd3 : n < 3 := by have := HZ.out.1; have := HN.out; omega
      have hHr := HH.out.kept HK.out (fun x o hb hf => HOk.out x o hb hf)
      obtain ⟨bb, o, a', cap', rfl, hok, hr, hs⟩ := hHr.at_ hx
      have HX := Lib.hid (IH.out _ _ (List.mem_of_getElem? hx))
      have HRng := Lib.hid hr
      have HSub := Lib.hid hs
      have HT : Hid (wayL (l.take (j + 1)) 0 v ab = wayL (l.take j) 0 v ab ++ (if k' = 3 then wayL sb 0 v (ab ++ [j]) else if (Hd.mk k' x0' x1' x2' n0' n1' n2').own v = true then [ab ++ [j]] else [])) := Lib.hid (by
        have := wayL_take_succ (v := v) (ab := ab) l 0 j hx
        rw [Nat.zero_add] at this
        exact this)
      have HTl := Lib.hid (Nat.le_trans ((wayL_len v).2 (l.take j) 0 ab) (Nat.le_trans (countL_take_le l j) HC.out))
      have HTm := Lib.hid (Nat.le_trans ((wayL_len v).2 sb 0 (ab ++ [j])) (Nat.le_trans (show countL sb ≤ countL l by have h1 := count_mem (List.mem_of_getElem? hx); simp only [Sh.count] at h1; omega) HC.out))
      have HSk := Lib.hid (HS.out.kept HK.out (fun e => HSb.out e))
      have hblt : b < wr.heap.size := by obtain ⟨cs, h, _⟩ := HBf.out; exact h.lt
      clear hx hr hs hok hHr hck
      have HBc := Lib.hid (Blk.new wr 27 (arr8 ⟨k', x0', x1', x2', n0', n1', n2'⟩ (.slice a' sb.length cap')))
      have HBu1 := HBf.out.kept ((Kept.refl Nil wr).alloc (.cells (arr8 ⟨k', x0', x1', x2', n0', n1', n2'⟩ (.slice a' sb.length cap')) 27)) id
      obtain ⟨w2, r2, hb2, k2⟩ := appendB_one _ HBu1 (by rw [HN.out]; exact hd3) j
      rw [HN.out, show (wr.alloc (.cells (arr8 ⟨k', x0', x1', x2', n0', n1', n2'⟩ (.slice a' sb.length cap')) 27)).heap.size = wr.heap.size + 1 by simp] at r2
      have RR2 := Lib.hid r2
      have HB2 := Lib.hid hb2
      have HC2 := Lib.hid (HBc.out.kept k2 (fun e => by omega))
      have K02 := Lib.hid ((((Kept.refl (fun k => k = b) wr).alloc (.cells (arr8 ⟨k', x0', x1', x2', n0', n1', n2'⟩ (.slice a' sb.length cap')) 27))).trans k2 (fun _ _ g => g))
      clear r2 hb2 k2 HBu1 HBc
      by_cases hk3 : k' = 3
      · subst hk3
        have CX : Hid (Calls Try.prog 85 #[.slice a' sb.length cap', .slice (some ⟨b, 0, none⟩) (n + 1) 3, predV S] w2 (WaysEnd (wayL sb 0 v (ab ++ [j])) b (ab ++ [j]) w2)) := Lib.hid (by
          have hs0 : chkL sb ((ab.length : Int) + 1 + 1) = 0 := by
            rcases HZ.out.2 with ⟨_, _, h⟩ | ⟨h, _⟩
            · exact h
            · rcases h with h | h <;> cases h
          have hl2 : (ab ++ [j]).length = n + 1 := by rw [List.length_append, HN.out]; rfl
          have := HX.out ok a' cap' (ab ++ [j]) w2 (by rw [hl2, ← HN.out]; exact hs0) (HSub.out.kept K02.out (fun x o hb hf => HOk.out x o hb hf)) HOk.out HSb.out (HSk.out.kept K02.out (fun e => HSb.out e)) HB2.out
          rwa [hl2] at this)
        have c7 := HC2.out.cell 7
        have c0 := HC2.out.cell 0
        simp at c7 c0
        go_wp2_with (first
          | ((with_reducible refine wpList_load_A rfl (.tmp 16) rfl _ _ rfl ⟨3, x0', x1', x2', n0', n1', n2'⟩ (.slice a' sb.length cap') ?_ ?_)
             · exact HRng.out)
          | (at_builtin; refine wpList_append_run rfl (.tmp 18) (.tmp 20) 124 rfl _ _ rfl rfl RR2.out ?_))
        refine CX.out.mono ?_
        rintro e w3 ⟨r3, rfl, h3, k3, b3⟩
        have K03 := Lib.hid (K02.out.trans k3 (fun _ _ g => g))
        obtain ⟨v', w4, r4, o4, k4⟩ := appendW_all w3 (HR.out.kept K03.out (fun i hi => by have : i = b := hi; omega)) h3 (by have := HK.out.size; have := K03.out.size; omega) (by have := HK.out.size; have := K02.out.size; omega) (by have := HTl.out; have := HTm.out; omega)
        have RR4 := Lib.hid r4
        have O4 := Lib.hid o4
        have KE := Lib.hid ((HK.out.trans K03.out (fun _ _ g => g)).trans k4 (fun i hi e => by have := (HR.out.own i e).1; omega))
        have BE := Lib.hid (b3.less.kept k4 (fun e => by have := (HR.out.own b e).1; omega))
        clear h3 k3 b3 r4 o4 k4 c7 c0 CX RR2
        go_wp2_with (at_builtin; refine wpList_append_run rfl (.tmp 25) (.tmp 30) 122 rfl _ _ rfl rfl RR4.out ?_)
        go_roundw
        case rel => exact ⟨j + 1, by omega, by go_num, by rw [HT.out, if_pos trivial]; exact O4.out, KE.out, BE.out⟩
        case measure => simp [intOf]; omega
      · have hk3' : (k' == 3) = false := by simpa using hk3
        have HO := Lib.hid (stands_any k' x0' x1' x2' n0' n1' n2' (.slice a' sb.length cap') v S w2 (HSk.out.kept K02.out (fun e => HSb.out e)))
        generalize hq : ownN x0' x1' x2' n0' n1' n2' v = q at HO
        have HQ : Hid ((Hd.mk k' x0' x1' x2' n0' n1' n2').own v = q) := Lib.hid hq
        clear hq
        have c0 := HC2.out.cell 0
        simp at c0
        cases q
        · go_wp2_with (first
            | ((with_reducible refine wpList_load_A rfl (.tmp 16) rfl _ _ rfl ⟨k', x0', x1', x2', n0', n1', n2'⟩ (.slice a' sb.length cap') ?_ ?_)
               · exact HRng.out)
            | ((with_reducible refine wpList_load_A rfl (.tmp 9) rfl _ _ rfl ⟨k', x0', x1', x2', n0', n1', n2'⟩ (.slice a' sb.length cap') ?_ ?_)
               · exact World.rangeAt_of_block HC2.out 0 8)
            | (at_builtin; refine wpList_append_run rfl (.tmp 18) (.tmp 20) 124 rfl _ _ rfl rfl RR2.out ?_))
          refine HO.out.mono ?_
          rintro e w3 ⟨rfl, k3⟩
          have K03 := Lib.hid (K02.out.trans k3 (fun _ _ g => g.elim))
          have RE := Lib.hid (HR.out.kept K03.out (fun i hi => by have : i = b := hi; omega))
          have KE := Lib.hid (HK.out.trans K03.out (fun _ _ g => g))
          have BE := Lib.hid (HB2.out.less.kept k3 id)
          clear k3 c0 RR2
          go_wp2_with fail
          go_roundw
          case rel => exact ⟨j + 1, by omega, by go_num, by rw [HT.out, if_neg hk3, if_neg (by rw [HQ.out]; simp), List.append_nil]; exact RE.out, KE.out, BE.out⟩
          case measure => simp [intOf]; omega
        · go_wp2_with (first
            | ((with_reducible refine wpList_load_A rfl (.tmp 16) rfl _ _ rfl ⟨k', x0', x1', x2', n0', n1', n2'⟩ (.slice a' sb.length cap') ?_ ?_)
               · exact HRng.out)
            | ((with_reducible refine wpList_load_A rfl (.tmp 9) rfl _ _ rfl ⟨k', x0', x1', x2', n0', n1', n2'⟩ (.slice a' sb.length cap') ?_ ?_)
               · exact World.rangeAt_of_block HC2.out 0 8)
            | (at_builtin; refine wpList_append_run rfl (.tmp 18) (.tmp 20) 124 rfl _ _ rfl rfl RR2.out ?_))
          refine HO.out.mono ?_
          rintro e w3 ⟨rfl, k3⟩
          have K03 := Lib.hid (K02.out.trans k3 (fun _ _ g => g.elim))
          have B3 := Lib.hid (HB2.out.kept k3 id)
          have HCl := Lib.hid (clone_any w3 B3.out (by rw [List.length_append, HN.out]; exact ⟨by simp, by simp; omega⟩))
          rw [show (ab ++ [j]).length = n + 1 by rw [List.length_append, HN.out]; rfl] at HCl
          clear k3 c0 RR2
          go_wp2_with fail
          refine HCl.out.mono ?_
          rintro e w4 ⟨u4, rfl, h4, k4⟩
          obtain ⟨a4, m4, c4, rfl⟩ := h4.shape
          have K04 := Lib.hid (K03.out.trans k4 (fun _ _ g => g.elim))
          obtain ⟨v', w5, r5, o5, k5⟩ := appendW_one w4 (HR.out.kept K04.out (fun i hi => by have : i = b := hi; omega)) (by have := HK.out.size; have := K04.out.size; omega) (by have := HTl.out; omega) (h4.less (by have := HK.out.size; have := K03.out.size; omega))
          have RR5 := Lib.hid r5
          have O5 := Lib.hid o5
          have KE := Lib.hid ((HK.out.trans K04.out (fun _ _ g => g)).trans k5 (fun i hi e => by have := (HR.out.own i e).1; omega))
          have BE := Lib.hid ((B3.out.less.kept k4 id).kept k5 (fun e => by have := (HR.out.own b e).1; omega))
          clear h4 k4 r5 o5 k5 HCl
          go_wp2_with (at_builtin; refine wpList_append_run rfl (.tmp 35) (.tmp 38) 122 rfl _ _ rfl rfl RR5.out ?_)
          go_roundw
          case rel => exact ⟨j + 1, by omega, by go_num, by rw [HT.out, if_neg hk3, if_pos HQ.out]; exact O5.out, KE.out, BE.out⟩
          case measure => simp [intOf]; omega
    · obtain rfl : j = len := by omega
      have HE : Hid (l.take j = l) := Lib.hid (by rw [← HL.out]; simp)
      go_wp2_with fail
      go_ret
      exact ⟨_, rfl, by have := HR.out; rwa [HE.out] at this, HK.out, HBf.out⟩
theorem ways_tree (v : Int) (S b : Nat) : ∀ s : Sh, s.count ≤ 101 → ∀ ok a cap ab w, chkL s.subs ((List.length ab : Int) + 1) = 0 → Holds cA w ok (.slice a s.subs.length cap) s.subs → (∀ x o, ok x o → x ≠ b) → S ≠ b → Blk w S 24 #[.bool true, .int .i64 v] → Buf w b ab →
    Calls Try.prog 85 #[.slice a s.subs.length cap, .slice (some ⟨b, 0, none⟩) ab.length 3, predV S] w (WaysEnd (wayL s.subs 0 v ab) b ab w) := by
  refine Sh.ind fun hd subs ih hc ok a cap ab w hk hh hok hsb hs hb => ?_
  have hc' : 1 + countL subs ≤ 101 := by simpa [Sh.count] using hc
  exact ways_step subs _ rfl (show _ ≤ _ by omega) v S b (fun hd' sb hx => ih _ hx (by have := count_mem hx; omega)) ok a cap ab _ rfl w hk hh hok hsb hs hb
end
section
open Go.RowKit
set_option maxRecDepth 100000

/-- What a slice holds lies in memory. -/
theorem Holds.under {w : World} {ok : Nat → Nat → Prop} {v : Value} {subs : List Sh} (h : Holds cA w ok v subs) : Holds cA w (fun b _ => b < w.heap.size) v subs := by
  induction h with
  | nil a cap => exact .nil a cap
  | row b o cap subs u hn hok hr hs ih =>
    cases subs with
    | nil => exact .nil _ _
    | cons x r =>
      have h0 := hr 0 x rfl 0 (.int .i64 x.hd.k) rfl
      exact .row b o cap (x :: r) u hn (World.block_lt_of_cell? w _ h0) hr ih
theorem WRow.less {w : World} {B B' : Nat} {v : Value} {ws : List (List Nat)} (h : WRow w B v ws) (hB : B' ≤ B) : WRow w B' v ws := by
  obtain ⟨vals, ⟨h1, h2⟩, hk⟩ := h
  refine ⟨vals, ⟨h1, ?_⟩, fun i way u a b => (hk i way u a b).less hB⟩
  rcases h2 with h2 | ⟨g, cap, cur, e, hb, r⟩
  · exact .inl h2
  · exact .inr ⟨g, cap, cur, e, Nat.le_trans hB hb, r⟩
def WaysNew (out : List (List Nat)) (w : World) (e : Ending) (w' : World) : Prop := ∃ r, e = .returned r ∧ WRow w' w.heap.size r out ∧ Kept Nil w w'
set_option maxHeartbeats 1000000 in
theorem seek_any (l : List Sh) (hc : countL l ≤ 100) (hk : chkL l 1 = 0) (ok : Nat → Nat → Prop) (a : Option Addr) (cap : Nat) (v : Int) (w : World) (h : Holds cA w ok (.slice a l.length cap) l) :
    Calls Try.prog 75 #[.slice a l.length cap, .int .i64 v] w (WaysNew (wayL l 0 v []) w) := by
  have CW' := Lib.hid (fun W (kk : Kept Nil w W) b (hb : w.heap.size ≤ b) S (hS : S ≠ b) (h1 : Blk W S 24 #[.bool true, .int .i64 v]) (h2 : Buf W b []) => ways_tree v S b (.mk zeroH l) (by simp only [Sh.count]; omega) _ a cap [] W hk (h.under.keptN kk) (fun x o hx e => by omega) hS h1 h2)
  have HL := Lib.hid h
  clear h hk hc
  go_enter Try.func75, Try.ntmps75
  obtain ⟨i0, hi, hz0, hz1, hz2⟩ := info_parts infoI
  go_wp2_with (at_make; refine wpList_make_own _ rfl _ _ 124 rfl w.heap.size 3 i0 (.int .i64 0) 1 Try.underlying124 hi hz0 hz1 .i64 .i64 3 3 rfl rfl rfl (by rw [hz2]; omega) (by unfold maxLen; omega) (by simp) ?_)
  intro w2 own2 grow2
  have K2 := Lib.hid (((Kept.refl Nil w).alloc (.cells #[.bool true, .int .i64 v] 24)).grown grow2 (fun k hk => by cases hk))
  have BS := Lib.hid ((Blk.new w 24 #[.bool true, .int .i64 v]).kept (((Kept.refl Nil _).grown grow2 (fun k hk => by cases hk))) id)
  have HBu : Hid (Buf w2 (w.heap.size + 1) []) := Lib.hid (by
    rcases own2.2 with ⟨e, _⟩ | ⟨g, cap, cur, e, hb, hg, hn, hm, hs, _⟩
    · cases e
    · have e2 : g = w.heap.size + 1 ∧ cap = 3 := by
        simp at e
        exact ⟨e.1.symm, e.2.symm⟩
      obtain ⟨rfl, rfl⟩ := e2
      exact ⟨cur, hg, by omega, fun j x hj => by simp at hj⟩)
  have CX := Lib.hid (CW'.out w2 K2.out (w.heap.size + 1) (by omega) w.heap.size (by omega) BS.out HBu.out)
  clear own2 grow2 hz0 hz1 hz2 hi
  go_wp2_with fail
  refine CX.out.mono ?_
  rintro e w3 ⟨r, rfl, h3, k3, _⟩
  have K3 := Lib.hid (K2.out.trans (k3.mono (F := fun k => k = w.heap.size + 1) (G := fun k => k = w.heap.size + 1) (fun _ _ g => g)) (fun i hi e => by omega))
  have H3 : Hid (WRow w3 w.heap.size r (wayL l 0 v [])) := Lib.hid (h3.less K2.out.size)
  clear h3 k3
  go_wp2_with fail
  go_ret
  exact ⟨_, rfl, H3.out, K3.out⟩
end
section
open Go.RowKit
set_option maxRecDepth 100000

theorem KidR.keptN {w w' : World} {B : Nat} {u : Value} {way : List Nat} (h : KidR w B u way) (k : Kept Nil w w') : KidR w' B u way := h.kept k (fun _ _ _ _ g => g)
theorem take_eq_succ {p q : List Nat} {j x y : Nat} (hp : p[j]? = some x) (hq : q[j]? = some y) (h : p.take j = q.take j) (e : x = y) : p.take (j + 1) = q.take (j + 1) := by
  subst e
  rw [List.take_add_one, List.take_add_one, hp, hq, h]
set_option maxHeartbeats 1000000 in
theorem equal_any (w : World) {B1 B2 : Nat} {u1 u2 : Value} {p q : List Nat} (h1 : KidR w B1 u1 p) (h2 : KidR w B2 u2 q) (hp : p.length ≤ 1000) :
    Calls Try.prog 90 #[u1, u2] w fun e w' => e = .returned (.bool (decide (p = q))) ∧ Kept Nil w w' := by
  obtain ⟨g1, c1, cs1, rfl, _, _, b1, r1⟩ := h1
  obtain ⟨g2, c2, cs2, rfl, _, _, b2, r2⟩ := h2
  by_cases hl : p.length = q.length
  · have HP : Hid (p.length = p.length) := Lib.hid rfl
    rw [← hl]
    generalize hn : p.length = n at *
    have HPn := Lib.hid hn
    have HQn := Lib.hid hl
    have R1 := Lib.hid r1
    have R2 := Lib.hid r2
    have B1 := Lib.hid b1
    have B2 := Lib.hid b2
    clear hn hl r1 r2 b1 b2 HP
    go_enter Try.func90, Try.ntmps90
    go_wp2_with fail
    go_loopw [5, 13] (fun _ i wr => ∃ j : Nat, j ≤ n ∧ i = .int .i64 j ∧ Hid (p.take j = q.take j) ∧ Kept Nil w wr) (fun _ i _ => n - (intOf i).toNat)
    case atStart => exact ⟨0, by omega, rfl, Lib.hid (by simp), Kept.refl _ _⟩
    case round =>
      obtain ⟨j, hj, rfl, HT, hK⟩ := hrel
      have HK := Lib.hid hK
      clear hK
      by_cases hlt : j < n
      · obtain ⟨x, hx⟩ : ∃ x, p[j]? = some x := ⟨_, List.getElem?_eq_getElem (by have := HPn.out; omega)⟩
        obtain ⟨y, hy⟩ : ∃ y, q[j]? = some y := ⟨_, List.getElem?_eq_getElem (by have := HQn.out; omega)⟩
        have z1 := (B1.out.kept HK.out id).cell j
        have z2 := (B2.out.kept HK.out id).cell j
        rw [R1.out j x hx] at z1
        rw [R2.out j y hy] at z2
        have HX := Lib.hid hx
        have HY := Lib.hid hy
        clear hx hy
        by_cases hxy : x = y
        · subst hxy
          go_wp2_with fail
          go_quiet (fail)
          go_wp2_with fail
          go_roundw
          case rel => exact ⟨j + 1, by omega, by go_num, Lib.hid (take_eq_succ HX.out HY.out HT.out rfl), HK.out.drewN _⟩
          case measure => simp [intOf]; omega
        · have hxi : ((x : Int) == (y : Int)) = false := by simp; omega
          have hxn : ((x : Int) != (y : Int)) = true := by simp; omega
          go_wp2_with fail
          go_quiet (fail)
          go_wp2_with fail
          go_ret
          exact ⟨ret_bool (by
            rw [eq_comm, decide_eq_false_iff_not]
            intro e
            subst e
            have h1 := HX.out
            rw [HY.out] at h1
            cases h1
            exact hxy rfl), HK.out.drewN _⟩
      · obtain rfl : j = n := by omega
        have HE : Hid (p = q) := Lib.hid (by
          have h := HT.out
          rwa [List.take_of_length_le (by have := HPn.out; omega), List.take_of_length_le (by have := HQn.out; omega)] at h)
        go_wp2_with fail
        go_ret
        exact ⟨ret_bool (by rw [eq_comm, decide_eq_true_eq]; exact HE.out), HK.out⟩
  · have HE : Hid (¬ p = q) := Lib.hid (fun e => hl (by rw [e]))
    generalize p.length = n at *
    generalize q.length = m at *
    have h1 : ((n : Int) == (m : Int)) = false := by simp; omega
    have h2 : ((n : Int) != (m : Int)) = true := by simp; omega
    clear r1 r2 b1 b2
    go_enter Try.func90, Try.ntmps90
    go_wp2_with fail
    go_ret
    exact ⟨ret_bool (by rw [eq_comm, decide_eq_false_iff_not]; exact HE.out), Kept.refl _ _⟩
/-- A way in a scope, or not. -/
theorem within_any (w : World) {B1 B2 : Nat} {u1 u2 : Value} {p q : List Nat} (h1 : KidR w B1 u1 p) (h2 : KidR w B2 u2 q) (hq : q.length ≤ 1000) :
    Calls Try.prog 79 #[u1, u2] w fun e w' => e = .returned (.bool (decide (q <+: p))) ∧ Kept Nil w w' := by
  have K1 := h1
  obtain ⟨g1, c1, cs1, rfl, hc1, hb1, b1, r1⟩ := h1
  by_cases hl : q.length ≤ p.length
  · have HE : Hid (decide (p.take q.length = q) = decide (q <+: p)) := Lib.hid (by
      refine decide_eq_decide.2 ?_
      rw [List.prefix_iff_eq_take]
      exact ⟨Eq.symm, Eq.symm⟩)
    have hlen : (p.take q.length).length = q.length := by rw [List.length_take]; omega
    have HC := Lib.hid (equal_any w (u1 := .slice (some ⟨g1, 0, none⟩) q.length c1) (p := p.take q.length) ⟨g1, c1, cs1, by rw [hlen], by omega, hb1, b1, fun j x hj => r1 j x (by
      rw [List.getElem?_take] at hj
      split at hj
      · exact hj
      · cases hj)⟩ h2 (by omega))
    obtain ⟨g2, c2, cs2, rfl, hc2, _, _, _⟩ := h2
    rw [HE.out] at HC
    generalize decide (q <+: p) = r at HC
    clear K1 r1 b1 HE hlen
    generalize p.length = n at *
    generalize q.length = m at *
    go_enter Try.func79, Try.ntmps79
    go_wp2_with fail
    refine HC.out.mono ?_
    rintro e w2 ⟨rfl, k2⟩
    go_wp2_with fail
    go_ret
    exact ⟨rfl, k2⟩
  · have HE : Hid (decide (q <+: p) = false) := Lib.hid (by
      rw [decide_eq_false_iff_not]
      exact fun e => hl e.length_le)
    rw [HE.out]
    obtain ⟨g2, c2, cs2, rfl, _, _, _, _⟩ := h2
    clear K1 r1 b1 HE
    generalize p.length = n at *
    generalize q.length = m at *
    go_enter Try.func79, Try.ntmps79
    go_wp2_with fail
    go_ret
    exact ⟨rfl, Kept.refl _ _⟩
end
end Go.Proofs.Ytoceogbanlmnoaa
