/- Lists without doubles, and all pairs of two such. No program. -/
import Derived.Test.YtodghgeghpbdlaaBMath
namespace Go.Proofs.Ytodghgeghpbdlaa
section
variable {κ : Type} [DecidableEq κ]
/-- A list's things, each once, as they come. -/
def dis (l : List κ) : List κ := l.foldl (fun R k => if isIn k R then R else R ++ [k]) []
theorem dis_snoc (l : List κ) (x : κ) : dis (l ++ [x]) = if isIn x (dis l) then dis l else dis l ++ [x] := by
  unfold dis
  rw [List.foldl_append]; rfl
theorem mem_foldl {l : List κ} {x : κ} : ∀ {R : List κ}, x ∈ l.foldl (fun R k => if isIn k R then R else R ++ [k]) R ↔ x ∈ R ∨ x ∈ l := by
  induction l with
  | nil => intro R; simp
  | cons y r ih =>
    intro R
    rw [List.foldl_cons, ih]
    split
    · rename_i h
      have h := isIn_iff.1 h
      rw [List.mem_cons]
      exact ⟨fun e => e.elim .inl (fun e => .inr (.inr e)), fun e => e.elim .inl (fun e => e.elim (fun e => .inl (e ▸ h)) .inr)⟩
    · rw [List.mem_append, List.mem_singleton, List.mem_cons, or_assoc]
theorem mem_dis {l : List κ} {x : κ} : x ∈ dis l ↔ x ∈ l := by
  unfold dis
  rw [mem_foldl]; simp
theorem isIn_congr {k : κ} {a b : List κ} (h : k ∈ a ↔ k ∈ b) : isIn k a = isIn k b := decide_eq_decide.2 h
theorem isIn_dis {l : List κ} {x : κ} : isIn x (dis l) = isIn x l := isIn_congr mem_dis
theorem isIn_snoc {l : List κ} {x y : κ} : isIn x (l ++ [y]) = (isIn x l || decide (x = y)) := by
  unfold isIn
  rw [← Bool.decide_or]
  exact decide_eq_decide.2 (by simp)
theorem dis_le : ∀ l : List κ, (dis l).length ≤ l.length := by
  have : ∀ (l R : List κ), (l.foldl (fun R k => if isIn k R then R else R ++ [k]) R).length ≤ R.length + l.length := by
    intro l
    induction l with
    | nil => intro R; simp
    | cons y r ih =>
      intro R
      rw [List.foldl_cons]
      refine Nat.le_trans (ih _) ?_
      split <;> simp <;> omega
  intro l
  have := this l []
  simpa [dis] using this
theorem take_snoc {α : Type} {l : List α} {j : Nat} {x : α} (h : l[j]? = some x) : l.take (j + 1) = l.take j ++ [x] := by rw [List.take_add_one, h]; rfl
end
section
variable {κ β : Type} [DecidableEq κ] [DecidableEq β]
/-- The pairs, as one more blocker comes to the first owners. -/
structure PI (R : List κ) (V : List β) (y : β) (lj : List κ) (Ps : List (κ × β)) : Prop where
  mem : ∀ x, x ∈ Ps ↔ (x.1 ∈ R ∧ x.2 ∈ V) ∨ (x.2 = y ∧ x.1 ∈ lj)
  len : Ps.length = R.length * V.length + (if isIn y V then 0 else (dis lj).length)
/-- All pairs. -/
structure PR (R : List κ) (V : List β) (Ps : List (κ × β)) : Prop where
  mem : ∀ x, x ∈ Ps ↔ x.1 ∈ R ∧ x.2 ∈ V
  len : Ps.length = R.length * V.length
theorem PR.start {R : List κ} {V : List β} {Ps : List (κ × β)} (h : PR R V Ps) (y : β) : PI R V y [] Ps := by
  refine ⟨fun x => by rw [h.mem]; simp, ?_⟩
  rw [h.len]
  split <;> simp [dis]
theorem PI.step {R : List κ} {V : List β} {y : β} {lj : List κ} {Ps : List (κ × β)} (h : PI R V y lj Ps) {k : κ} (hk : k ∈ R) :
    PI R V y (lj ++ [k]) (if isIn k R && !isIn (k, y) Ps then Ps ++ [(k, y)] else Ps) := by
  rw [isIn_t hk, Bool.true_and]
  by_cases hy : y ∈ V
  · rw [isIn_t ((h.mem (k, y)).2 (.inl ⟨hk, hy⟩))]
    refine ⟨fun x => ?_, ?_⟩
    · rw [if_neg (by simp), h.mem]
      constructor
      · rintro (e | ⟨e1, e2⟩)
        · exact .inl e
        · exact .inr ⟨e1, List.mem_append_left _ e2⟩
      · rintro (e | ⟨e1, e2⟩)
        · exact .inl e
        · rcases List.mem_append.1 e2 with e2 | e2
          · exact .inr ⟨e1, e2⟩
          · exact .inl ⟨by rw [List.mem_singleton.1 e2]; exact hk, by rw [e1]; exact hy⟩
    · rw [if_neg (by simp), h.len, isIn_t hy, if_pos rfl, if_pos rfl]
  · by_cases hl : k ∈ lj
    · rw [isIn_t ((h.mem (k, y)).2 (.inr ⟨rfl, hl⟩))]
      refine ⟨fun x => ?_, ?_⟩
      · rw [if_neg (by simp), h.mem]
        constructor
        · rintro (e | ⟨e1, e2⟩)
          · exact .inl e
          · exact .inr ⟨e1, List.mem_append_left _ e2⟩
        · rintro (e | ⟨e1, e2⟩)
          · exact .inl e
          · rcases List.mem_append.1 e2 with e2 | e2
            · exact .inr ⟨e1, e2⟩
            · exact .inr ⟨e1, by rw [List.mem_singleton.1 e2]; exact hl⟩
      · rw [if_neg (by simp), h.len, dis_snoc, isIn_dis, isIn_t hl, if_pos rfl]
    · have hn : (k, y) ∉ Ps := fun e => by
        rcases (h.mem (k, y)).1 e with e | e
        · exact hy e.2
        · exact hl e.2
      rw [isIn_f hn]
      refine ⟨fun x => ?_, ?_⟩
      · rw [if_pos (by simp), List.mem_append, h.mem, List.mem_singleton]
        constructor
        · rintro ((e | ⟨e1, e2⟩) | e)
          · exact .inl e
          · exact .inr ⟨e1, List.mem_append_left _ e2⟩
          · subst e; exact .inr ⟨rfl, by simp⟩
        · rintro (e | ⟨e1, e2⟩)
          · exact .inl (.inl e)
          · rcases List.mem_append.1 e2 with e2 | e2
            · exact .inl (.inr ⟨e1, e2⟩)
            · exact .inr (Prod.ext (List.mem_singleton.1 e2) e1)
      · rw [if_pos (by simp), List.length_append, h.len, dis_snoc, isIn_dis, isIn_f hl, isIn_f hy]
        simp; omega
theorem PI.done {V : List β} {y : β} {l : List κ} {Ps : List (κ × β)} (h : PI (dis l) V y l Ps) : PR (dis l) (if isIn y V then V else V ++ [y]) Ps := by
  by_cases hy : y ∈ V
  · rw [isIn_t hy, if_pos rfl]
    refine ⟨fun x => ?_, by rw [h.len, isIn_t hy, if_pos rfl]; rfl⟩
    rw [h.mem]
    constructor
    · rintro (e | ⟨e1, e2⟩)
      · exact e
      · exact ⟨mem_dis.2 e2, by rw [e1]; exact hy⟩
    · exact .inl
  · rw [isIn_f hy, if_neg (by simp)]
    refine ⟨fun x => ?_, by rw [h.len, isIn_f hy, if_neg (by simp), List.length_append, Nat.mul_add]; simp⟩
    rw [h.mem, List.mem_append, List.mem_singleton, mem_dis]
    constructor
    · rintro (e | ⟨e1, e2⟩)
      · exact ⟨e.1, .inl e.2⟩
      · exact ⟨e2, .inr e1⟩
    · rintro ⟨e1, e2 | e2⟩
      · exact .inl ⟨e1, e2⟩
      · exact .inr ⟨e2, e1⟩
theorem PR.by_ {R : List κ} {V : List β} {Ps : List (κ × β)} (h : PR R V Ps) {y : β} (hy : y ∈ V) : byP R Ps y = R := by
  unfold byP
  rw [List.filter_eq_self]
  exact fun k hk => isIn_t ((h.mem (k, y)).2 ⟨hk, hy⟩)
end
theorem PR.zero {κ β : Type} (R : List κ) : PR R ([] : List β) [] := ⟨fun x => by simp, by simp⟩
end Go.Proofs.Ytodghgeghpbdlaa
