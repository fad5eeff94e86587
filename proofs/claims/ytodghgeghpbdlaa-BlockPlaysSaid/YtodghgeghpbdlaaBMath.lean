/- Pairs of an owner and a blocker, plain: who blocks whom. No program. -/
import Derived.Test.YtodghgeghpbdlaaBMap
namespace Go.Proofs.Ytodghgeghpbdlaa
section
variable {κ β : Type} [DecidableEq κ]
/-- Who blocks an owner. -/
def bls (Ps : List (κ × β)) (k : κ) : List β := (Ps.filter (fun x => decide (x.1 = k))).map (·.2)
/-- The pairs without those of an owner. -/
def outP (k : κ) (Ps : List (κ × β)) : List (κ × β) := Ps.filter (fun x => decide (x.1 ≠ k))
theorem mem_bls {Ps : List (κ × β)} {k : κ} {v : β} : v ∈ bls Ps k ↔ (k, v) ∈ Ps := by
  unfold bls
  simp only [List.mem_map, List.mem_filter, decide_eq_true_eq]
  constructor
  · rintro ⟨⟨a, b⟩, ⟨h1, h2⟩, h3⟩
    simp only at h2 h3
    subst h2 h3
    exact h1
  · intro h; exact ⟨_, ⟨h, rfl⟩, rfl⟩
theorem bls_nodup {Ps : List (κ × β)} (h : Ps.Nodup) (k : κ) : (bls Ps k).Nodup := by
  unfold bls
  induction Ps with
  | nil => exact List.nodup_nil
  | cons x r ih =>
    obtain ⟨h1, h2⟩ := List.nodup_cons.1 h
    rw [List.filter_cons]
    split
    · rename_i e
      have e : x.1 = k := by simpa using e
      rw [List.map_cons]
      refine List.nodup_cons.2 ⟨fun hm => h1 ?_, ih h2⟩
      have := mem_bls.1 hm
      rw [← e] at this
      exact this
    · exact ih h2
theorem bls_le (Ps : List (κ × β)) (k : κ) : (bls Ps k).length ≤ Ps.length := by
  unfold bls
  rw [List.length_map]
  exact List.length_filter_le _ _
theorem bls_snoc (Ps : List (κ × β)) (k : κ) (v : β) (k' : κ) : bls (Ps ++ [(k, v)]) k' = if k = k' then bls Ps k' ++ [v] else bls Ps k' := by
  unfold bls
  rw [List.filter_append, List.map_append]
  by_cases e : k = k'
  · rw [if_pos e]; simp [e]
  · rw [if_neg e]; simp [e]
theorem bls_wo [DecidableEq β] (Ps : List (κ × β)) (k : κ) (v : β) (k' : κ) : bls (wo (k, v) Ps) k' = if k = k' then wo v (bls Ps k') else bls Ps k' := by
  unfold bls wo
  induction Ps with
  | nil => simp
  | cons x r ih =>
    obtain ⟨a, b⟩ := x
    by_cases e1 : a = k
    · subst e1
      by_cases e2 : b = v
      · subst e2
        rw [List.filter_cons_of_neg (by simp), ih]
        by_cases e3 : a = k'
        · subst e3; simp
        · simp [e3]
      · rw [List.filter_cons_of_pos (by simp [e2])]
        by_cases e3 : a = k'
        · subst e3
          rw [if_pos rfl] at ih ⊢
          rw [List.filter_cons_of_pos (by simp), List.map_cons, ih, List.filter_cons_of_pos (by simp), List.map_cons, List.filter_cons_of_pos (by simp [e2])]
        · rw [if_neg e3] at ih ⊢
          rw [List.filter_cons_of_neg (by simpa using e3), ih, List.filter_cons_of_neg (by simpa using e3)]
    · rw [List.filter_cons_of_pos (by simp [e1])]
      by_cases e3 : a = k'
      · subst e3
        rw [if_neg (fun e => e1 e.symm)] at ih ⊢
        rw [List.filter_cons_of_pos (by simp), List.map_cons, ih, List.filter_cons_of_pos (by simp), List.map_cons]
      · rw [List.filter_cons_of_neg (by simpa using e3), ih, List.filter_cons_of_neg (by simpa using e3)]
theorem bls_out (Ps : List (κ × β)) (k k' : κ) (h : k' ≠ k) : bls (outP k Ps) k' = bls Ps k' := by
  unfold bls outP
  rw [List.filter_filter]
  congr 1
  refine List.filter_congr (fun x _ => ?_)
  by_cases e : x.1 = k'
  · simp [e, h]
  · simp [e]
theorem mem_outP {k : κ} {Ps : List (κ × β)} {x : κ × β} : x ∈ outP k Ps ↔ x ∈ Ps ∧ x.1 ≠ k := by simp [outP]
theorem outP_length (k : κ) (Ps : List (κ × β)) : (outP k Ps).length + (bls Ps k).length = Ps.length := by
  unfold bls outP
  rw [List.length_map]
  induction Ps with
  | nil => rfl
  | cons x r ih =>
    by_cases e : x.1 = k
    · rw [List.filter_cons_of_neg (by simp [e]), List.filter_cons_of_pos (by simp [e]), List.length_cons, List.length_cons]; omega
    · rw [List.filter_cons_of_pos (by simp [e]), List.filter_cons_of_neg (by simp [e]), List.length_cons, List.length_cons]; omega
theorem outP_nodup {k : κ} {Ps : List (κ × β)} (h : Ps.Nodup) : (outP k Ps).Nodup := h.filter _
theorem bls_none {Ps : List (κ × β)} {k : κ} {R : List κ} (hs : ∀ x ∈ Ps, x.1 ∈ R) (hk : k ∉ R) : bls Ps k = [] := by
  rw [List.eq_nil_iff_forall_not_mem]
  intro v hv
  exact hk (hs _ (mem_bls.1 hv))
/-- Is a thing in a list? -/
def isIn (k : κ) (R : List κ) : Bool := decide (k ∈ R)
theorem isIn_t {k : κ} {R : List κ} (h : k ∈ R) : isIn k R = true := decide_eq_true h
theorem isIn_f {k : κ} {R : List κ} (h : k ∉ R) : isIn k R = false := decide_eq_false h
theorem isIn_iff {k : κ} {R : List κ} : isIn k R = true ↔ k ∈ R := decide_eq_true_iff
/-- The owners that one blocks. -/
def byP [DecidableEq β] (R : List κ) (Ps : List (κ × β)) (v : β) : List κ := R.filter (fun k => isIn (k, v) Ps)
end
/-! ### Handles -/
section
variable {κ : Type} [DecidableEq κ]
def updF {γ : Type} (f : κ → γ) (k : κ) (x : γ) : κ → γ := fun k' => if k' = k then x else f k'
theorem updF_same {γ : Type} (f : κ → γ) (k : κ) (x : γ) : updF f k x k = x := if_pos rfl
theorem updF_other {γ : Type} {f : κ → γ} {k k' : κ} {x : γ} (h : k' ≠ k) : updF f k x k' = f k' := if_neg h
theorem map_updF {γ : Type} {f : κ → γ} {k : κ} {x : γ} {R : List κ} (h : k ∉ R) : R.map (updF f k x) = R.map f := List.map_congr_left (fun _ hy => updF_other (fun e => h (e ▸ hy)))
end
end Go.Proofs.Ytodghgeghpbdlaa
