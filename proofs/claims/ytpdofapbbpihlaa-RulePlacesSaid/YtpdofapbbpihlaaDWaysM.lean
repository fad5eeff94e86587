/- Layer rule: plain mathematics of the ways to where a variable stands, as the program walks them: the scope of the first of them, which of them lie outside of it. No program. -/
import Derived.Test.YtpdofapbbpihlaaDLawPlaces
namespace Go.Proofs.Ytpdofapbbpihlaa
open Go.RowKit

def Hd.own (h : Hd) (v : Int) : Bool := ownN h.x0 h.x1 h.x2 h.n0 h.n1 h.n2 v
mutual
/-- The ways with the kinds of what they go to, from a beginning on. -/
def Sh.wyk : Sh → Int → List Nat → List (List Nat × Int)
  | .mk _ l, v, ab => wayK l 0 v ab
def wayK : List Sh → Nat → Int → List Nat → List (List Nat × Int)
  | [], _, _, _ => []
  | s :: r, i, v, ab => (if s.hd.k = 3 then s.wyk v (ab ++ [i]) else if s.hd.own v = true then [(ab ++ [i], s.hd.k)] else []) ++ wayK r (i + 1) v ab
end
theorem wyk_eq (s : Sh) (v : Int) (ab : List Nat) : s.wyk v ab = wayK s.subs 0 v ab := by cases s; rw [Sh.wyk]; rfl
theorem wayK_nil (i : Nat) (v : Int) (ab : List Nat) : wayK [] i v ab = [] := by rw [wayK]
theorem wayK_cons (s : Sh) (r : List Sh) (i : Nat) (v : Int) (ab : List Nat) : wayK (s :: r) i v ab = (if s.hd.k = 3 then wayK s.subs 0 v (ab ++ [i]) else if s.hd.own v = true then [(ab ++ [i], s.hd.k)] else []) ++ wayK r (i + 1) v ab := by
  rw [wayK, wyk_eq]
/-- The ways alone. -/
def wayL (l : List Sh) (i : Nat) (v : Int) (ab : List Nat) : List (List Nat) := (wayK l i v ab).map (·.1)
theorem wayL_nil (i : Nat) (v : Int) (ab : List Nat) : wayL [] i v ab = [] := by unfold wayL; rw [wayK_nil]; rfl
theorem wayL_cons (s : Sh) (r : List Sh) (i : Nat) (v : Int) (ab : List Nat) : wayL (s :: r) i v ab = (if s.hd.k = 3 then wayL s.subs 0 v (ab ++ [i]) else if s.hd.own v = true then [ab ++ [i]] else []) ++ wayL r (i + 1) v ab := by
  unfold wayL
  rw [wayK_cons, List.map_append]
  congr 1
  split
  · rfl
  · split <;> rfl
theorem wayL_take_succ {v : Int} {ab : List Nat} {x : Sh} : ∀ (l : List Sh) (i j : Nat), l[j]? = some x → wayL (l.take (j + 1)) i v ab = wayL (l.take j) i v ab ++ (if x.hd.k = 3 then wayL x.subs 0 v (ab ++ [i + j]) else if x.hd.own v = true then [ab ++ [i + j]] else [])
  | [], _, _, h => by simp at h
  | s :: r, i, 0, h => by
    simp only [List.getElem?_cons_zero, Option.some.injEq] at h
    subst h
    rw [List.take_succ_cons, List.take_zero, List.take_zero, wayL_cons, wayL_nil, wayL_nil]
    simp
  | s :: r, i, j + 1, h => by
    rw [List.take_succ_cons, List.take_succ_cons, wayL_cons, wayL_cons, wayL_take_succ r (i + 1) j (by simpa using h), show i + 1 + j = i + (j + 1) by omega]
    simp only [List.append_assoc]

/-! ### What is right -/
theorem chkL_cons (s : Sh) (r : List Sh) (d : Int) : chkL (s :: r) d = 0 ↔ s.chk d = 0 ∧ chkL r d = 0 := by
  simp only [chkL]
  by_cases h : s.chk d = 0
  · rw [if_neg (by simp [h])]; simp [h]
  · rw [if_pos h]; simp [h]
theorem chk_zero {s : Sh} {d : Int} (h : s.chk d = 0) : d ≤ 3 ∧ ((s.hd.k = 3 ∧ s.subs ≠ [] ∧ chkL s.subs (d + 1) = 0) ∨ ((s.hd.k = 1 ∨ s.hd.k = 2) ∧ s.subs = [])) := by
  cases s with
  | mk hd subs =>
    simp only [Sh.chk] at h
    show d ≤ 3 ∧ ((hd.k = 3 ∧ subs ≠ [] ∧ chkL subs (d + 1) = 0) ∨ ((hd.k = 1 ∨ hd.k = 2) ∧ subs = []))
    by_cases h3 : 3 < d
    · rw [if_pos h3] at h; omega
    · rw [if_neg h3] at h
      refine ⟨by omega, ?_⟩
      by_cases hk : hd.k = 3
      · rw [if_pos hk] at h
        refine .inl ⟨hk, ?_⟩
        by_cases hz : hd.sameT zeroH = false
        · rw [if_pos hz] at h; omega
        · rw [if_neg hz] at h
          by_cases hl : subs.length = 0
          · rw [if_pos hl] at h; omega
          · rw [if_neg hl] at h
            exact ⟨fun e => hl (by rw [e]; rfl), h⟩
      · rw [if_neg hk] at h
        by_cases hk2 : hd.k = 1 ∨ hd.k = 2
        · rw [if_pos hk2] at h
          refine .inr ⟨hk2, ?_⟩
          by_cases hf : hd.fine = false
          · rw [if_pos hf] at h; omega
          · rw [if_neg hf] at h
            by_cases hl : 0 < subs.length
            · rw [if_pos hl] at h; omega
            · exact List.length_eq_zero_iff.1 (by omega)
        · rw [if_neg hk2] at h; omega
theorem chkL_at {l : List Sh} {d : Int} (h : chkL l d = 0) {j : Nat} {x : Sh} (hx : l[j]? = some x) : x.chk d = 0 := by
  induction l generalizing j with
  | nil => simp at hx
  | cons a r ih =>
    obtain ⟨h1, h2⟩ := (chkL_cons a r d).1 h
    cases j with
    | zero => simp only [List.getElem?_cons_zero, Option.some.injEq] at hx; subst hx; exact h1
    | succ j => exact ih h2 (by simpa using hx)
theorem has_eq (s : Sh) (v : Int) : s.has v = ((decide (s.hd.k < 3) && s.hd.own v) || hasL s.subs v) := by cases s; rw [has_mk]; rfl
/-- A condition that is right has a variable as it stands: by its own terms, or in its Subs. -/
theorem has_three {s : Sh} (h : s.hd.k = 3) (v : Int) : s.has v = hasL s.subs v := by rw [has_eq, h]; rfl
theorem has_two {s : Sh} (h : s.hd.k = 1 ∨ s.hd.k = 2) (hs : s.subs = []) (v : Int) : s.has v = s.hd.own v := by
  have : decide (s.hd.k < 3) = true := by rcases h with h | h <;> rw [h] <;> rfl
  rw [has_eq, this, hs]
  simp [hasL]
/-- The ways as the reference tells them. -/
theorem wayL_enc (v : Int) : (∀ s : Sh, ∀ d, s.chk d = 0 → ∀ ab, (wayL s.subs 0 v ab).map encW = plcL s.subs 0 v (encW ab)) ∧ ∀ l : List Sh, ∀ d, chkL l d = 0 → ∀ i ab, (wayL l i v ab).map encW = plcL l i v (encW ab) := by
  refine Sh.ind2 (fun hd subs ih d hc ab => ?_) (fun d _ i ab => by rw [wayL_nil, plcL]; rfl) (fun a l ha hl d hc i ab => ?_)
  · rcases (chk_zero hc).2 with ⟨_, _, h⟩ | ⟨_, h⟩
    · exact ih _ h 0 ab
    · show (wayL subs 0 v ab).map encW = plcL subs 0 v (encW ab)
      rw [show subs = [] from h, wayL_nil, plcL]; rfl
  · obtain ⟨h1, h2⟩ := (chkL_cons a l d).1 hc
    rw [wayL_cons, plcL, List.map_append, hl d h2]
    have hp : a.plc v (encW ab ++ sgn i) = plcL a.subs 0 v (encW ab ++ sgn i) := by cases a; rw [plc_mk]; rfl
    rw [hp]
    rcases (chk_zero h1).2 with ⟨hk, _, _⟩ | ⟨hk, hs⟩
    · have hb : a.ownB v = false := by unfold Sh.ownB; rw [hk]; rfl
      rw [if_pos hk, hb, ha d h1, encW_snoc]
      simp
    · have hk3 : ¬ a.hd.k = 3 := by omega
      have hb : a.ownB v = a.hd.own v := by
        unfold Sh.ownB Hd.own
        have : decide (a.hd.k < 3) = true := by rw [decide_eq_true_eq]; omega
        rw [this, Bool.true_and]
      rw [if_neg hk3, hb, hs, plcL]
      by_cases ho : a.hd.own v = true
      · rw [if_pos ho, if_pos ho]; simp [encW_snoc]
      · rw [if_neg ho, if_neg ho]; simp
/-- How many, how long, which numbers. -/
theorem wayL_len (v : Int) : (∀ s : Sh, ∀ i ab, (wayL s.subs i v ab).length ≤ countL s.subs) ∧ ∀ l : List Sh, ∀ i ab, (wayL l i v ab).length ≤ countL l := by
  refine Sh.ind2 (fun hd subs ih i ab => ih i ab) (fun i ab => by rw [wayL_nil]; simp) (fun a l ha hl i ab => ?_)
  rw [wayL_cons, List.length_append]
  have h1 := ha 0 (ab ++ [i])
  have h2 := hl (i + 1) ab
  have h3 : a.count = 1 + countL a.subs := by cases a; simp [Sh.count, Sh.subs]
  simp only [countL]
  split
  · omega
  · split <;> simp <;> omega
theorem wayL_deep (v : Int) : (∀ s : Sh, ∀ d : Int, s.chk d = 0 → ∀ ab : List Nat, ∀ i, (ab.length : Int) = d → ∀ way ∈ wayL s.subs i v ab, way.length ≤ 3) ∧ ∀ l : List Sh, ∀ d : Int, chkL l d = 0 → ∀ ab : List Nat, ∀ i, (ab.length : Int) + 1 = d → ∀ way ∈ wayL l i v ab, way.length ≤ 3 := by
  refine Sh.ind2 (fun hd subs ih d hc ab i hd' way hw => ?_) (fun d _ ab i _ way hw => by rw [wayL_nil] at hw; cases hw) (fun a l ha hl d hc ab i hd' way hw => ?_)
  · rcases (chk_zero hc).2 with ⟨_, _, h⟩ | ⟨_, h⟩
    · exact ih _ h ab i (by omega) way hw
    · rw [show (Sh.mk hd subs).subs = [] from h, wayL_nil] at hw; cases hw
  · obtain ⟨h1, h2⟩ := (chkL_cons a l d).1 hc
    have h3 := (chk_zero h1).1
    rw [wayL_cons, List.mem_append] at hw
    rcases hw with hw | hw
    · split at hw
      · exact ha d h1 (ab ++ [i]) 0 (by rw [List.length_append, List.length_singleton]; omega) way hw
      · split at hw
        · rw [List.mem_singleton] at hw
          subst hw
          rw [List.length_append, List.length_singleton]; omega
        · cases hw
    · exact hl d h2 ab (i + 1) hd' way hw
theorem wayL_small (v : Int) : (∀ s : Sh, ∀ m, ∀ ab : List Nat, (∀ x ∈ ab, x ≤ m) → ∀ i, i + countL s.subs ≤ m + 1 → ∀ way ∈ wayL s.subs i v ab, ∀ x ∈ way, x ≤ m) ∧ ∀ l : List Sh, ∀ m, ∀ ab : List Nat, (∀ x ∈ ab, x ≤ m) → ∀ i, i + countL l ≤ m + 1 → ∀ way ∈ wayL l i v ab, ∀ x ∈ way, x ≤ m := by
  refine Sh.ind2 (fun hd subs ih m ab ha i hi way hw => ih m ab ha i hi way hw) (fun m ab _ i _ way hw => by rw [wayL_nil] at hw; cases hw) (fun a l ha hl m ab hab i hi way hw x hx => ?_)
  have h3 : a.count = 1 + countL a.subs := by cases a; simp [Sh.count, Sh.subs]
  simp only [countL] at hi
  have hab' : ∀ y ∈ ab ++ [i], y ≤ m := fun y hy => by
    rcases List.mem_append.1 hy with h | h
    · exact hab y h
    · rw [List.mem_singleton] at h; omega
  rw [wayL_cons, List.mem_append] at hw
  rcases hw with hw | hw
  · split at hw
    · exact ha m (ab ++ [i]) hab' 0 (by omega) way hw x hx
    · split at hw
      · rw [List.mem_singleton] at hw
        subst hw
        exact hab' x hx
      · cases hw
  · exact hl m ab hab (i + 1) (by omega) way hw x hx
theorem wayL_ne (v : Int) : (∀ s : Sh, ∀ d, s.chk d = 0 → ∀ ab, (wayL s.subs 0 v ab = [] ↔ hasL s.subs v = false)) ∧ ∀ l : List Sh, ∀ d, chkL l d = 0 → ∀ i ab, (wayL l i v ab = [] ↔ hasL l v = false) := by
  refine Sh.ind2 (fun hd subs ih d hc ab => ?_) (fun d _ i ab => by rw [wayL_nil]; simp [hasL]) (fun a l ha hl d hc i ab => ?_)
  · rcases (chk_zero hc).2 with ⟨_, _, h⟩ | ⟨_, h⟩
    · exact ih _ h 0 ab
    · rw [show (Sh.mk hd subs).subs = [] from h, wayL_nil]; simp [hasL]
  · obtain ⟨h1, h2⟩ := (chkL_cons a l d).1 hc
    rw [wayL_cons, List.append_eq_nil_iff, hl d h2, hasL, Bool.or_eq_false_iff]
    refine and_congr_left fun _ => ?_
    rcases (chk_zero h1).2 with ⟨hk, _, _⟩ | ⟨hk, hs⟩
    · rw [if_pos hk, ha d h1, has_three hk]
    · rw [if_neg (by omega), has_two hk hs]
      cases a.hd.own v <;> simp

/-! ### The scope -/
/-- The way to the scope of a variable that stands somewhere in these. -/
def scopeW (k : Int) (way : List Nat) : List Nat := if k = 2 then way else way.dropLast
/-- Of ways: is one not within the scope of the first? -/
def outW (ws : List (List Nat × Int)) : Bool := match ws with
  | [] => false
  | p :: r => (p :: r).any fun q => !decide (scopeW p.2 p.1 <+: q.1)
theorem outW_cons (p : List Nat × Int) (r : List (List Nat × Int)) : outW (p :: r) = (p :: r).any fun q => !decide (scopeW p.2 p.1 <+: q.1) := rfl
theorem wayK_ne {v : Int} {l : List Sh} {d : Int} (h : chkL l d = 0) (i : Nat) (ab : List Nat) : wayK l i v ab = [] ↔ hasL l v = false := by
  rw [← (wayL_ne v).2 l d h i ab]
  unfold wayL
  rw [List.map_eq_nil_iff]
/-- All ways go through the beginning, and on at i or behind it. -/
theorem wayK_begin (v : Int) : (∀ s : Sh, ∀ i ab, ∀ p ∈ wayK s.subs i v ab, ∃ j r, i ≤ j ∧ p.1 = ab ++ j :: r) ∧ ∀ l : List Sh, ∀ i ab, ∀ p ∈ wayK l i v ab, ∃ j r, i ≤ j ∧ p.1 = ab ++ j :: r := by
  refine Sh.ind2 (fun hd subs ih i ab => ih i ab) (fun i ab p hp => by rw [wayK_nil] at hp; cases hp) (fun a l ha hl i ab p hp => ?_)
  rw [wayK_cons, List.mem_append] at hp
  rcases hp with hp | hp
  · split at hp
    · obtain ⟨j, r, _, e⟩ := ha 0 (ab ++ [i]) p hp
      exact ⟨i, j :: r, Nat.le_refl _, by rw [e, List.append_assoc]; rfl⟩
    · split at hp
      · rw [List.mem_singleton] at hp
        exact ⟨i, [], Nat.le_refl _, by rw [hp]⟩
      · cases hp
  · obtain ⟨j, r, hj, e⟩ := hl (i + 1) ab p hp
    exact ⟨j, r, by omega, e⟩
theorem not_prefix {ab sc r' : List Nat} {i j : Nat} (hsc : ab ++ [i] <+: sc) (hij : i < j) : ¬ sc <+: ab ++ j :: r' := fun h => by
  have h1 := hsc.trans h
  rw [List.prefix_append_right_inj, List.singleton_prefix_cons_iff] at h1 <;> omega
theorem any_true_of_all {α : Type} {p : α → Bool} {l : List α} (h : ∀ x ∈ l, p x = true) : l.any p = !l.isEmpty := by
  cases l with
  | nil => rfl
  | cons a r => simp [h a (List.mem_cons_self)]
theorem any_false_of_all {α : Type} {p : α → Bool} {l : List α} (h : ∀ x ∈ l, p x = false) : l.any p = false := by
  rw [List.any_eq_false]
  intro x hx
  rw [h x hx]; simp
/-- The first way's scope has the beginning in it; whether a variable is out of place hangs on the ways alone. -/
theorem out_ways (v : Int) : (∀ s : Sh, ∀ d, s.chk d = 0 → ∀ ab, (outW (wayK s.subs 0 v ab) = decide (outL s.subs v = 1)) ∧ ∀ p r, wayK s.subs 0 v ab = p :: r → ab <+: scopeW p.2 p.1) ∧ ∀ l : List Sh, ∀ d, chkL l d = 0 → ∀ i ab, (outW (wayK l i v ab) = decide (outL l v = 1)) ∧ ∀ p r, wayK l i v ab = p :: r → ab <+: scopeW p.2 p.1 := by
  refine Sh.ind2 (fun hd subs ih d hc ab => ?_) (fun d _ i ab => ?_) (fun a l ha hl d hc i ab => ?_)
  · rcases (chk_zero hc).2 with ⟨_, _, h⟩ | ⟨_, h⟩
    · exact ih _ h 0 ab
    · rw [show (Sh.mk hd subs).subs = [] from h, wayK_nil, outL_nil]
      exact ⟨rfl, fun p r e => by cases e⟩
  · rw [wayK_nil, outL_nil]
    exact ⟨rfl, fun p r e => by cases e⟩
  · obtain ⟨h1, h2⟩ := (chkL_cons a l d).1 hc
    have IHa := ha d h1 (ab ++ [i])
    have IHl := hl d h2 (i + 1) ab
    have HB := (wayK_begin v).2 l (i + 1) ab
    have HN := wayK_ne (v := v) h2 (i + 1) ab
    have HR : (!(wayK l (i + 1) v ab).isEmpty) = hasL l v := by
      cases hh : hasL l v
      · rw [HN.2 hh]; rfl
      · cases hw : wayK l (i + 1) v ab with
        | nil => rw [HN.1 hw] at hh; cases hh
        | cons p r => rfl
    rw [wayK_cons, outL_cons]
    rcases (chk_zero h1).2 with ⟨hk, _, hsub⟩ | ⟨hk, hs⟩
    · rw [if_pos hk, has_three hk]
      have HNa := wayK_ne (v := v) hsub 0 (ab ++ [i])
      by_cases hh : hasL a.subs v = false
      · rw [HNa.2 hh, List.nil_append, if_pos hh]
        exact IHl
      · rw [if_neg hh, if_neg (by omega)]
        cases hw : wayK a.subs 0 v (ab ++ [i]) with
        | nil => exact absurd (HNa.1 hw) hh
        | cons p r =>
          rw [hw] at IHa
          obtain ⟨A1, A2⟩ := IHa
          have A3 := A2 p r rfl
          have hrest : (wayK l (i + 1) v ab).any (fun q => !decide (scopeW p.2 p.1 <+: q.1)) = hasL l v := by
            rw [any_true_of_all, HR]
            intro q hq
            obtain ⟨j, r', hj, e⟩ := HB q hq
            have := not_prefix (r' := r') A3 (show i < j by omega)
            rw [← e] at this
            simp [this]
          refine ⟨?_, fun p' r' e => ?_⟩
          · rw [List.cons_append, outW_cons, ← List.cons_append, List.any_append, hrest, ← outW_cons, A1]
            cases hasL l v
            · simp [hk]
            · simp
          · rw [List.cons_append, List.cons.injEq] at e
            obtain ⟨rfl, _⟩ := e
            exact (List.prefix_append ab [i]).trans A3
    · rw [if_neg (by omega), has_two hk hs]
      by_cases ho : a.hd.own v = true
      · rw [if_pos ho, if_neg (by rw [ho]; simp), List.singleton_append]
        rcases hk with hk | hk
        · have hsw : scopeW a.hd.k (ab ++ [i]) = ab := by unfold scopeW; rw [if_neg (by omega)]; simp
          refine ⟨?_, fun p' r' e => ?_⟩
          · rw [if_pos hk]
            rw [outW_cons, hsw]
            refine any_false_of_all fun q hq => ?_
            have hp : ab <+: q.1 := by
              rcases List.mem_cons.1 hq with rfl | hq
              · exact List.prefix_append _ _
              · obtain ⟨j, r', _, e⟩ := HB q hq
                rw [e]; exact List.prefix_append _ _
            simp [hp]
          · rw [List.cons.injEq] at e
            obtain ⟨rfl, _⟩ := e
            rw [hsw]; exact List.prefix_refl _
        · have hsw : scopeW a.hd.k (ab ++ [i]) = ab ++ [i] := by unfold scopeW; rw [if_pos hk]
          refine ⟨?_, fun p' r' e => ?_⟩
          · rw [if_neg (by omega)]
            rw [outW_cons, hsw, List.any_cons]
            have hrest : (wayK l (i + 1) v ab).any (fun q => !decide (ab ++ [i] <+: q.1)) = hasL l v := by
              rw [any_true_of_all, HR]
              intro q hq
              obtain ⟨j, r', hj, e⟩ := HB q hq
              have := not_prefix (r' := r') (List.prefix_refl (ab ++ [i])) (show i < j by omega)
              rw [← e] at this
              simp [this]
            rw [hrest]
            cases hasL l v
            · simp [hk]
            · simp
          · rw [List.cons.injEq] at e
            obtain ⟨rfl, _⟩ := e
            rw [hsw]; exact List.prefix_append _ _
      · rw [if_neg ho, List.nil_append, if_pos (by simpa using ho)]
        exact IHl

/-! ### Where a way goes -/
/-- What a way goes through, from a list on. -/
def subW (L : List Sh) (way : List Nat) : Option (List Sh) := way.foldl (fun o i => o.bind fun l => l[i]?.map Sh.subs) (some L)
theorem subW_snoc (L : List Sh) (way : List Nat) (i : Nat) : subW L (way ++ [i]) = (subW L way).bind fun l => l[i]?.map Sh.subs := by unfold subW; rw [List.foldl_append]; rfl
/-- Each way goes to a condition of its kind. -/
theorem wayK_at (v : Int) (L : List Sh) : (∀ s : Sh, ∀ ab, subW L ab = some s.subs → ∀ p ∈ wayK s.subs 0 v ab, ∃ w M j x, p.1 = w ++ [j] ∧ subW L w = some M ∧ M[j]? = some x ∧ x.hd.k = p.2) ∧ ∀ l : List Sh, ∀ M i ab, l = M.drop i → subW L ab = some M → ∀ p ∈ wayK l i v ab, ∃ w M j x, p.1 = w ++ [j] ∧ subW L w = some M ∧ M[j]? = some x ∧ x.hd.k = p.2 := by
  refine Sh.ind2 (fun hd subs ih ab hs p hp => ih subs 0 ab (by simp) hs p hp) (fun M i ab _ _ p hp => by rw [wayK_nil] at hp; cases hp) (fun a l ha hl M i ab hM hs p hp => ?_)
  have hi : M[i]? = some a := by
    have := congrArg (fun l => l[0]?) hM
    simpa using this.symm
  have hr : l = M.drop (i + 1) := by
    have := congrArg (fun l => l.drop 1) hM
    simpa using this
  rw [wayK_cons, List.mem_append] at hp
  rcases hp with hp | hp
  · split at hp
    · exact ha (ab ++ [i]) (by rw [subW_snoc, hs]; simp [hi]) p hp
    · split at hp
      · rw [List.mem_singleton] at hp
        subst hp
        exact ⟨ab, M, i, a, rfl, hs, hi, rfl⟩
      · cases hp
  · exact hl M (i + 1) ab hr hs p hp
end Go.Proofs.Ytpdofapbbpihlaa
