/- Plain mathematics of fitting: what stood stays; what fits is put; what has fitted fits again. No program. -/
import Derived.Test.YtefojaeinhgeiaaUMath
namespace Go.Proofs.Ytefojaeinhgeiaa
open Go.RowKit

/-- What stood for something stands for it still. -/
def Ext (b g : Bd) : Prop := ∀ k, b k ≠ 0 → g k = b k
theorem Ext.refl (b : Bd) : Ext b b := fun _ _ => rfl
theorem Ext.trans {a b c : Bd} (h : Ext a b) (k : Ext b c) : Ext a c := fun i hi => by
  have e := h i hi
  rw [k i (by rw [e]; exact hi), e]
theorem bound_ext (x : Tm) (s : Int) (b : Bd) : Ext b (bound x s b) := fun k hk => by
  unfold bound
  split
  · rename_i h
    unfold upd
    by_cases e : k = x.2.toNat
    · subst e; exact absurd h.2 hk
    · simp [e]
  · rfl
theorem step1_some {x : Tm} {s : Int} {b g : Bd} (h : step1 x s b = some g) : okTm x.1 x.2 = true ∧ g = bound x s b ∧ stand x g = s := by
  unfold step1 at h
  split at h
  · rename_i h1
    split at h
    · rename_i h2
      cases h
      exact ⟨h1, rfl, h2⟩
    · cases h
  · cases h
theorem stand_ext {x : Tm} {b g : Bd} (e : Ext b g) (h : stand x b ≠ 0) : stand x g = stand x b := by
  unfold stand at h ⊢
  split
  · rename_i h1
    rw [if_pos h1] at h
    split
    · rename_i h2
      rw [if_pos h2] at h
      exact e _ h
    · rfl
  · rfl
theorem runL_ext : ∀ (l : List (Tm × Int)) (b g : Bd), runL l b = some g → Ext b g
  | [], b, g, h => by cases h; exact Ext.refl _
  | p :: r, b, g, h => by
    have h' : (step1 p.1 p.2 b).bind (runL r) = some g := h
    cases e : step1 p.1 p.2 b with
    | none => rw [e] at h'; cases h'
    | some c =>
      rw [e] at h'
      obtain ⟨_, rfl, _⟩ := step1_some e
      exact (bound_ext _ _ _).trans (runL_ext r _ g h')
/-- What fits is put. -/
theorem runL_stand : ∀ (l : List (Tm × Int)) (b g : Bd), (∀ p ∈ l, p.2 ≠ 0) → runL l b = some g → ∀ p ∈ l, stand p.1 g = p.2
  | [], _, _, _, _ => fun p hp => by cases hp
  | q :: r, b, g, hs, h => fun p hp => by
    have h' : (step1 q.1 q.2 b).bind (runL r) = some g := h
    cases e : step1 q.1 q.2 b with
    | none => rw [e] at h'; cases h'
    | some c =>
      rw [e] at h'
      obtain ⟨_, _, h3⟩ := step1_some e
      rcases List.mem_cons.1 hp with rfl | hp
      · rw [stand_ext (runL_ext r c g h') (by rw [h3]; exact hs _ (by simp)), h3]
      · exact runL_stand r c g (fun u hu => hs u (by simp [hu])) h' p hp
theorem bound_zero {x : Tm} {s : Int} {b : Bd} (h : okTm x.1 x.2 = true) (hb : b 0 = 0) : bound x s b 0 = 0 := by
  unfold bound
  split
  · rename_i h1
    obtain ⟨v, n⟩ := x
    have h2 : v = true := h1.1
    subst h2
    have := okTm_var.1 h
    unfold upd
    have : ¬ (0 = n.toNat) := by omega
    simp [this, hb]
  · exact hb
theorem runL_zero : ∀ (l : List (Tm × Int)) (b g : Bd), b 0 = 0 → runL l b = some g → g 0 = 0
  | [], b, g, hb, h => by cases h; exact hb
  | q :: r, b, g, hb, h => by
    have h' : (step1 q.1 q.2 b).bind (runL r) = some g := h
    cases e : step1 q.1 q.2 b with
    | none => rw [e] at h'; cases h'
    | some c =>
      rw [e] at h'
      obtain ⟨h1, rfl, _⟩ := step1_some e
      exact runL_zero r _ g (bound_zero h1 hb) h'
/-- A binding with which all terms are put stays. -/
theorem runL_again : ∀ (l : List (Tm × Int)) (g : Bd), (∀ p ∈ l, p.2 ≠ 0) → (∀ p ∈ l, okTm p.1.1 p.1.2 = true) → (∀ p ∈ l, stand p.1 g = p.2) → runL l g = some g
  | [], _, _, _, _ => rfl
  | q :: r, g, hs, hk, h => by
    have h1 := hk q (by simp)
    have h2 := h q (by simp)
    have h3 := hs q (by simp)
    have hb : bound q.1 q.2 g = g := by
      unfold bound
      split
      · rename_i e
        exfalso
        apply h3
        rw [← h2]
        unfold stand
        rw [if_pos h1, if_pos e.1]
        exact e.2
      · rfl
    have e : step1 q.1 q.2 g = some g := by unfold step1; rw [if_pos h1, hb, if_pos h2]
    show (step1 q.1 q.2 g).bind (runL r) = some g
    rw [e]
    exact runL_again r g (fun u hu => hs u (by simp [hu])) (fun u hu => hk u (by simp [hu])) (fun u hu => h u (by simp [hu]))
/-- A variable that no term is keeps what it stood for. -/
theorem runL_other : ∀ (l : List (Tm × Int)) (b g : Bd) (k : Nat), (∀ p ∈ l, p.1.1 = true → p.1.2 ≠ (k : Int)) → runL l b = some g → g k = b k
  | [], b, g, k, _, h => by cases h; rfl
  | q :: r, b, g, k, hn, h => by
    have h' : (step1 q.1 q.2 b).bind (runL r) = some g := h
    cases e : step1 q.1 q.2 b with
    | none => rw [e] at h'; cases h'
    | some c =>
      rw [e] at h'
      obtain ⟨h1, rfl, _⟩ := step1_some e
      rw [runL_other r _ g k (fun p hp => hn p (by simp [hp])) h']
      unfold bound
      split
      · rename_i h2
        have h3 := hn q (by simp) h2.1
        obtain ⟨⟨v, n⟩, s⟩ := q
        have h4 : v = true := h2.1
        subst h4
        have h6 : 1 ≤ n ∧ n ≤ 32 := okTm_var.1 h1
        unfold upd
        have h5 : n ≠ (k : Int) := h3
        have : ¬ (k = n.toNat) := by omega
        simp [this]
      · rfl
/-- A variable of the terms stands for something then. -/
theorem runL_own {l : List (Tm × Int)} {b g : Bd} (hs : ∀ p ∈ l, p.2 ≠ 0) (hk : ∀ p ∈ l, okTm p.1.1 p.1.2 = true) (h : runL l b = some g) {k : Nat} {s : Int} (hp : ((true, (k : Int)), s) ∈ l) : g k ≠ 0 := by
  have h1 := runL_stand l b g hs h _ hp
  have h2 := hk _ hp
  have h3 := hs _ hp
  unfold stand at h1
  rw [if_pos h2] at h1
  simp at h1
  intro e
  apply h3
  rw [← h1]
  exact e
end Go.Proofs.Ytefojaeinhgeiaa
