/- TreeTypes' tree, plain: each token below the one ahead of it. No program. -/
import Derived.Test.YtbaplplaokbnnaaMMath
namespace Go.Proofs.Ytbaplplaokbnnaa
open Go.RowKit Go.Maps

def toksT : Int → List Int → List (Tok Int)
  | _, [] => []
  | k, x :: r => ⟨k + 1, x, k, false⟩ :: toksT (k + 1) r
def ttL (l : List Int) : List (Tok Int) := ⟨0, -1, 0, false⟩ :: toksT 0 l
theorem toksT_len : ∀ (l : List Int) (k : Int), (toksT k l).length = l.length
  | [], _ => rfl
  | x :: r, k => by rw [toksT, List.length_cons, List.length_cons, toksT_len r]
theorem ttL_len (l : List Int) : (ttL l).length = l.length + 1 := by unfold ttL; rw [List.length_cons, toksT_len]
theorem toksT_snoc : ∀ (l : List Int) (k x : Int), toksT k (l ++ [x]) = toksT k l ++ [⟨k + l.length + 1, x, k + l.length, false⟩]
  | [], k, x => by simp [toksT]
  | y :: r, k, x => by
    rw [List.cons_append, toksT, toksT, toksT_snoc r, List.cons_append, List.length_cons]
    congr 4 <;> push_cast <;> omega
theorem ttL_snoc (l : List Int) (x : Int) : ttL (l ++ [x]) = ttL l ++ [⟨(l.length : Int) + 1, x, l.length, false⟩] := by
  unfold ttL
  rw [toksT_snoc, List.cons_append]
  simp
theorem toksT_get : ∀ (l : List Int) (k : Int) (j : Nat) (x : Int), l[j]? = some x → (toksT k l)[j]? = some ⟨k + j + 1, x, k + j, false⟩
  | [], _, _, _, h => by simp at h
  | y :: r, k, 0, x, h => by
    simp only [List.getElem?_cons_zero, Option.some.injEq] at h
    subst h
    rw [toksT]; simp
  | y :: r, k, j + 1, x, h => by
    rw [toksT, List.getElem?_cons_succ, toksT_get r (k + 1) j x (by simpa using h)]
    congr 2 <;> push_cast <;> omega
theorem ttL_tok {l : List Int} {j : Nat} {x : Int} (h : l[j]? = some x) : tok (ttL l) ((j : Int) + 2) = some ⟨(j : Int) + 1, x, j, false⟩ := by
  refine tok_some.2 ⟨by omega, ?_, rfl⟩
  unfold ttL
  rw [show ((j : Int) + 2 - 1).toNat = j + 1 by omega, List.getElem?_cons_succ, toksT_get l 0 j x h]
  simp
theorem ttL_top (l : List Int) : tok (ttL l) 1 = some ⟨0, -1, 0, false⟩ := tok_some.2 ⟨by omega, rfl, rfl⟩
theorem ttL_of {l : List Int} {id : Int} {z : Tok Int} (h : tok (ttL l) id = some z) : (id = 1 ∧ z = ⟨0, -1, 0, false⟩) ∨ ∃ (j : Nat) (x : Int), l[j]? = some x ∧ id = (j : Int) + 2 ∧ z = ⟨(j : Int) + 1, x, j, false⟩ := by
  have hb := tok_bound h
  rw [ttL_len] at hb
  by_cases e : id = 1
  · subst e; rw [ttL_top] at h; cases h; exact .inl ⟨rfl, rfl⟩
  · have hj : (id - 2).toNat < l.length := by omega
    obtain ⟨x, hx⟩ : ∃ x, l[(id - 2).toNat]? = some x := ⟨_, List.getElem?_eq_getElem hj⟩
    have := ttL_tok hx
    rw [show (((id - 2).toNat : Nat) : Int) + 2 = id by omega] at this
    rw [this] at h
    cases h
    exact .inr ⟨_, x, hx, by omega, rfl⟩
theorem ttL_wf (l : List Int) : WF (ttL l) := fun id z h => by
  rcases ttL_of h with ⟨rfl, rfl⟩ | ⟨j, x, _, rfl, rfl⟩
  · exact ⟨Int.le_refl _, by decide⟩
  · exact ⟨by show (0 : Int) ≤ (j : Int) + 1; omega, by show (j : Int) + 1 < (j : Int) + 2; omega⟩
theorem ttL_up {l : List Int} {i : Nat} {a : Int} (hi : l[i]? = some a) : ∀ m : Nat, i + m < l.length → ∃ (j : Nat), upI (ttL l) ((i + m : Nat) + 2 : Int) a = (j : Int) + 2 ∧ i ≤ j ∧ j ≤ i + m ∧ l[j]? = some a
  | 0, hm => ⟨i, by
      rw [Nat.add_zero]
      exact upI_here (ttL_wf l) (ttL_tok hi) rfl, Nat.le_refl _, Nat.le_refl _, hi⟩
  | m + 1, hm => by
    obtain ⟨y, hy⟩ : ∃ y, l[i + (m + 1)]? = some y := ⟨_, List.getElem?_eq_getElem hm⟩
    by_cases e : y = a
    · subst e
      exact ⟨i + (m + 1), upI_here (ttL_wf l) (ttL_tok hy) rfl, by omega, Nat.le_refl _, hy⟩
    · obtain ⟨j, h1, h2, h3, h4⟩ := ttL_up hi m (by omega)
      refine ⟨j, ?_, h2, by omega, h4⟩
      rw [upI_up (ttL_wf l) (ttL_tok hy) e, ← h1]
      show upI (ttL l) ((i + (m + 1) : Nat) + 1 : Int) a = _
      congr 1
theorem ttL_kids {l : List Int} {id : Int} (h1 : 1 ≤ id) (h2 : id ≤ l.length) : kids (ttL l) id = [id + 1] := by
  refine rise_eq (rise_ids _ _) (List.pairwise_singleton _ _) (fun k => ?_)
  rw [mem_kids, List.mem_singleton]
  constructor
  · rintro ⟨_, z, hz, hp⟩
    rcases ttL_of hz with ⟨rfl, rfl⟩ | ⟨j, x, _, rfl, rfl⟩
    · have : (0 : Int) = id := hp; omega
    · have : (j : Int) + 1 = id := hp; omega
  · rintro rfl
    obtain ⟨x, hx⟩ : ∃ x, l[(id - 1).toNat]? = some x := ⟨_, List.getElem?_eq_getElem (by omega)⟩
    have := ttL_tok hx
    rw [show (((id - 1).toNat : Nat) : Int) + 2 = id + 1 by omega] at this
    exact ⟨by omega, _, this, by show (((id - 1).toNat : Nat) : Int) + 1 = id; omega⟩
theorem ttL_below {l : List Int} : ∀ m : Nat, m ≤ l.length → below (ttL l) ((l.length : Int) + 1 - m) = (List.range (m + 1)).map (fun j : Nat => (l.length : Int) + 1 - j)
  | 0, _ => by
    rw [below_eq (ttL_wf l), kids_high (ttL_wf l) (by rw [ttL_len]; omega)]
    rfl
  | m + 1, hm => by
    rw [below_eq (ttL_wf l), ttL_kids (by omega) (by omega), List.flatMap_cons, List.flatMap_nil, List.append_nil]
    rw [show (l.length : Int) + 1 - ((m + 1 : Nat) : Int) + 1 = (l.length : Int) + 1 - m by omega, ttL_below m (by omega), List.range_succ (n := m + 1), List.map_append]
    rfl
/-- Who is out with the second token: all but the top, the last one first. -/
theorem ttL_two {l : List Int} (h : 0 < l.length) : below (ttL l) 2 = (List.range l.length).map (fun j : Nat => (l.length : Int) + 1 - j) := by
  have := ttL_below (l := l) (l.length - 1) (by omega)
  rw [show (l.length : Int) + 1 - ((l.length - 1 : Nat) : Int) = 2 by omega, show l.length - 1 + 1 = l.length by omega] at this
  exact this
theorem ttL_out {l : List Int} (h : 0 < l.length) (id : Int) : tok (kills (ttL l) (below (ttL l) 2)) id = if id = 1 then some ⟨0, -1, 0, false⟩ else none := by
  rw [ttL_two h]
  split
  · rename_i e
    subst e
    rw [tok_kills_not, ttL_top]
    intro hm
    obtain ⟨j, hj, e⟩ := List.mem_map.1 hm
    have := List.mem_range.1 hj
    omega
  · rename_i e
    cases ht : tok (ttL l) id with
    | none =>
      by_cases hm : id ∈ (List.range l.length).map (fun j : Nat => (l.length : Int) + 1 - j)
      · exact tok_kills_in hm
      · rw [tok_kills_not hm]; exact ht
    | some z =>
      refine tok_kills_in ?_
      have hb := tok_bound ht
      rw [ttL_len] at hb
      exact List.mem_map.2 ⟨((l.length : Int) + 1 - id).toNat, List.mem_range.2 (by omega), by omega⟩
theorem ttL_live {l : List Int} (h : 0 < l.length) : liveN (kills (ttL l) (below (ttL l) 2)) = 1 := by
  unfold liveN
  have : ids (kills (ttL l) (below (ttL l) 2)) (fun _ => true) = [1] := rise_eq (rise_ids _ _) (List.pairwise_singleton _ _) (fun k => by
    rw [mem_ids, ttL_out h, List.mem_singleton]
    by_cases e : k = 1 <;> simp [e])
  rw [this]; rfl
theorem ttL_none {l : List Int} (h : 0 < l.length) : kids (kills (ttL l) (below (ttL l) 2)) 1 = [] := by
  cases e : kids (kills (ttL l) (below (ttL l) 2)) 1 with
  | nil => rfl
  | cons k r =>
    have : k ∈ kids (kills (ttL l) (below (ttL l) 2)) 1 := by rw [e]; exact List.mem_cons_self ..
    obtain ⟨_, z, hz, hp⟩ := mem_kids.1 this
    rw [ttL_out h] at hz
    split at hz
    · cases hz; cases hp
    · cases hz
theorem ttL_live0 : liveN (ttL []) = 1 := by rfl
end Go.Proofs.Ytbaplplaokbnnaa
