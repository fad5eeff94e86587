/- What ListAll's rounds make of its list: plain facts. -/
import Derived.Test.YtpjfpmagmclldaaLSeq
namespace Go.Proofs.Ytpjfpmagmclldaa
open Go.RowKit

section
variable (k turn xr : Nat)
def vals0 : List Int := (List.range k).map (fun i : Nat => 10 * (i : Int))
def row0 : List Nat := List.range' 1 k
/-- One round: at the turn's one value is taken out, if it isn't the one just told, and one is put in last. -/
def stepA (i h : Nat) (st : List Nat × List Int) : List Nat × List Int :=
  if i = turn then ((if xr = h then st.1 else rm st.1 xr) ++ [st.2.length + 1], st.2 ++ [7]) else st
def foldA (q : Nat × (List Nat × List Int)) (pre : List (Nat × Int)) : Nat × (List Nat × List Int) := pre.foldl (fun q x => (q.1 + 1, stepA turn xr q.1 x.1 q.2)) q
def StA (pre : List (Nat × Int)) : List Nat × List Int := (foldA turn xr (0, (row0 k, vals0 k)) pre).2
theorem foldA_fst (q : Nat × (List Nat × List Int)) (pre : List (Nat × Int)) : (foldA turn xr q pre).1 = q.1 + pre.length := by
  induction pre generalizing q with
  | nil => rfl
  | cons x r ih => show (foldA turn xr _ r).1 = _; rw [ih]; simp; omega
theorem StA_nil : StA k turn xr [] = (row0 k, vals0 k) := rfl
theorem StA_snoc (pre : List (Nat × Int)) (x : Nat × Int) : StA k turn xr (pre ++ [x]) = stepA turn xr pre.length x.1 (StA k turn xr pre) := by
  unfold StA foldA
  rw [List.foldl_append]
  have := foldA_fst turn xr (0, (row0 k, vals0 k)) pre
  unfold foldA at this
  simp only [List.foldl_cons, List.foldl_nil, this, Nat.zero_add]
/-- What holds of the list behind any rounds. -/
structure InvA (i : Nat) (st : List Nat × List Int) : Prop where
  rise : (0 :: st.1).Pairwise (· < ·)
  le : ∀ h ∈ st.1, h ≤ st.2.length
  vals : st.2 = vals0 k ++ (if i ≤ turn then [] else [7])
theorem InvA.zero : InvA k turn 0 (row0 k, vals0 k) := by
  refine ⟨?_, fun h hh => ?_, by simp⟩
  · refine List.pairwise_cons.2 ⟨fun h hh => ?_, List.pairwise_lt_range'⟩
    have := List.mem_range'_1.1 hh
    omega
  · have := List.mem_range'_1.1 hh
    simp [vals0]; omega
theorem InvA.step {i h : Nat} {st : List Nat × List Int} (H : InvA k turn i st) : InvA k turn (i + 1) (stepA turn xr i h st) := by
  unfold stepA
  split
  · rename_i e
    subst e
    have hv := H.vals
    rw [if_pos (Nat.le_refl _), List.append_nil] at hv
    have hsub : ∀ y ∈ (if xr = h then st.1 else rm st.1 xr), y ∈ st.1 := fun y hy => by
      split at hy
      · exact hy
      · exact (mem_rm.1 hy).1
    have hp : (if xr = h then st.1 else rm st.1 xr).Pairwise (· < ·) := by
      have := (List.pairwise_cons.1 H.rise).2
      split
      · exact this
      · exact this.sublist List.filter_sublist
    refine ⟨List.pairwise_cons.2 ⟨fun y hy => ?_, ?_⟩, fun y hy => ?_, ?_⟩
    · rcases List.mem_append.1 hy with hy | hy
      · exact (List.pairwise_cons.1 H.rise).1 y (hsub y hy)
      · have : y = st.2.length + 1 := by simpa using hy
        omega
    · rw [List.pairwise_append]
      refine ⟨hp, by simp, fun y hy z hz => ?_⟩
      have : z = st.2.length + 1 := by simpa using hz
      have := H.le y (hsub y hy)
      omega
    · rcases List.mem_append.1 hy with hy | hy
      · have := H.le y (hsub y hy); simp; omega
      · have : y = st.2.length + 1 := by simpa using hy
        simp; omega
    · show st.2 ++ [7] = _
      rw [hv, if_neg (by omega)]
  · rename_i e
    refine ⟨H.rise, H.le, ?_⟩
    rw [H.vals]
    congr 1
    by_cases h1 : i ≤ turn
    · rw [if_pos h1, if_pos (by omega)]
    · rw [if_neg h1, if_neg (by omega)]
theorem InvA.fold {q : Nat × (List Nat × List Int)} {pre : List (Nat × Int)} (H : InvA k turn q.1 q.2) : InvA k turn (foldA turn xr q pre).1 (foldA turn xr q pre).2 := by
  induction pre generalizing q with
  | nil => exact H
  | cons x r ih => exact ih (q := (q.1 + 1, stepA turn xr q.1 x.1 q.2)) (H.step k turn xr)
theorem InvA.all (pre : List (Nat × Int)) : InvA k turn pre.length (StA k turn xr pre) := by
  have := (InvA.zero k turn).fold k turn xr (q := (0, (row0 k, vals0 k))) (pre := pre)
  rw [foldA_fst, Nat.zero_add] at this
  exact this
theorem StA_len (pre : List (Nat × Int)) : (StA k turn xr pre).2.length ≤ k + 1 := by
  rw [(InvA.all k turn xr pre).vals]
  split <;> simp [vals0]
/-- What is told is what the law wants. -/
theorem StA_val {pre : List (Nat × Int)} {h : Nat} {v : Int} (h0 : h ≠ 0) (hv : (StA k turn xr pre).2[h - 1]? = some v) : (h ≤ k ∧ v = 10 * ((h : Int) - 1)) ∨ (h = k + 1 ∧ v = 7) := by
  rw [(InvA.all k turn xr pre).vals] at hv
  have hl : (vals0 k).length = k := by simp [vals0]
  by_cases hk : h ≤ k
  · rw [List.getElem?_append_left (by omega)] at hv
    have h1 : (vals0 k)[h - 1]? = some (10 * ((h - 1 : Nat) : Int)) := by
      unfold vals0
      rw [List.getElem?_map, List.getElem?_range (by omega)]; rfl
    rw [h1] at hv
    have := Option.some.inj hv
    exact .inl ⟨hk, by omega⟩
  · rw [List.getElem?_append_right (by omega), hl] at hv
    have hlt := (List.getElem?_eq_some_iff.1 hv).1
    split at hv
    · simp at hv
    · have hk1 : h - 1 - k = 0 := by
        split at hlt
        · simp at hlt
        · simpa using hlt
      rw [hk1] at hv
      simp at hv
      exact .inr ⟨by omega, hv.symm⟩
end
end Go.Proofs.Ytpjfpmagmclldaa
