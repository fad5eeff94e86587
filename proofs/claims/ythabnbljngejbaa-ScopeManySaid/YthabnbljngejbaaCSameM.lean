/- Layer cond: when two conditions are alike. No program. -/
import Derived.Test.YthabnbljngejbaaCRefCheck
namespace Go.Proofs.Ythabnbljngejbaa
open Go.RowKit

mutual
def Sh.same : Sh → Sh → Bool
  | .mk h l, t => decide (h.k = t.hd.k) && h.sameT t.hd && sameL l t.subs
def sameL : List Sh → List Sh → Bool
  | [], l => l.isEmpty
  | a :: r, l => match l with
    | [] => false
    | b :: q => a.same b && sameL r q
end
theorem same_mk (h h' : Hd) (l l' : List Sh) : (Sh.mk h l).same (.mk h' l') = (decide (h.k = h'.k) && h.sameT h' && sameL l l') := by
  rw [Sh.same]
  rfl
theorem sameL_length : ∀ {l l' : List Sh}, sameL l l' = true → l.length = l'.length
  | [], [], _ => rfl
  | [], b :: q, h => by simp [sameL] at h
  | a :: r, [], h => by simp [sameL] at h
  | a :: r, b :: q, h => by
    simp only [sameL, Bool.and_eq_true] at h
    rw [List.length_cons, List.length_cons, sameL_length h.2]
theorem sameL_ne {l l' : List Sh} (h : l.length ≠ l'.length) : sameL l l' = false := by
  cases hs : sameL l l'
  · rfl
  · exact absurd (sameL_length hs) h
theorem sameL_drop {l l' : List Sh} {j : Nat} {x y : Sh} (h : l[j]? = some x) (h' : l'[j]? = some y) : sameL (l.drop j) (l'.drop j) = (x.same y && sameL (l.drop (j + 1)) (l'.drop (j + 1))) := by
  obtain ⟨hl, e⟩ := List.getElem?_eq_some_iff.1 h
  obtain ⟨hl', e'⟩ := List.getElem?_eq_some_iff.1 h'
  rw [List.drop_eq_getElem_cons hl, e, List.drop_eq_getElem_cons hl', e']
  rfl
theorem sameT_refl (h : Hd) : h.sameT h = true := by unfold Hd.sameT; simp
theorem same_refl : (∀ s : Sh, s.same s = true) ∧ ∀ l, sameL l l = true := by
  refine Sh.ind2 (fun hd subs ih => ?_) rfl (fun a l ha hl => ?_)
  · rw [same_mk, sameT_refl, ih]; simp
  · show (a.same a && sameL l l) = true
    rw [ha, hl]; rfl
end Go.Proofs.Ythabnbljngejbaa
