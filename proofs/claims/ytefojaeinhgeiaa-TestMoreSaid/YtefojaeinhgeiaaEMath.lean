/- Layer scope: plain mathematics of the chains of conditions: how many there are, which of them conditions end themselves, what stands ahead of each. No program. -/
import Derived.Test.YtefojaeinhgeiaaCCheck2
namespace Go.Proofs.Ytefojaeinhgeiaa
open Go.RowKit
set_option maxRecDepth 100000

mutual
/-- The chains of a condition, of conditions, behind a beginning. -/
def Sh.chs : Sh → List Sh → List (List Sh)
  | .mk h subs, ab => (if h.k = 3 then chL subs ab else []) ++ [ab ++ [.mk h subs]]
def chL : List Sh → List Sh → List (List Sh)
  | [], _ => []
  | s :: r, ab => s.chs ab ++ chL r (ab ++ [s])
end
theorem chs_mk (h : Hd) (subs ab : List Sh) : (Sh.mk h subs).chs ab = (if h.k = 3 then chL subs ab else []) ++ [ab ++ [.mk h subs]] := by rw [Sh.chs]
theorem chL_nil (ab : List Sh) : chL [] ab = [] := by rw [chL]
theorem chL_cons (s : Sh) (r ab : List Sh) : chL (s :: r) ab = s.chs ab ++ chL r (ab ++ [s]) := by rw [chL]
theorem chL_append : ∀ a b ab : List Sh, chL (a ++ b) ab = chL a ab ++ chL b (ab ++ a)
  | [], b, ab => by rw [List.nil_append, chL_nil, List.nil_append, List.append_nil]
  | s :: a, b, ab => by rw [List.cons_append, chL_cons, chL_cons, chL_append a b (ab ++ [s]), List.append_assoc, List.append_assoc]; rfl
theorem chL_take_succ {l : List Sh} {j : Nat} {x : Sh} (h : l[j]? = some x) (ab : List Sh) : chL (l.take (j + 1)) ab = chL (l.take j) ab ++ x.chs (ab ++ l.take j) := by
  rw [List.take_add_one, h, chL_append]
  congr 1
  show chL [x] _ = _
  rw [chL_cons, chL_nil, List.append_nil]
theorem chL_len_le : (∀ (s : Sh) (ab : List Sh), (s.chs ab).length ≤ s.count) ∧ ∀ (l ab : List Sh), (chL l ab).length ≤ countL l := by
  refine Sh.ind2 (fun hd subs ih ab => ?_) (fun ab => by simp [chL_nil]) (fun a l ha hl ab => ?_)
  · have := ih ab
    rw [chs_mk, Sh.count, List.length_append]
    split
    · simp; omega
    · simp
  · have h1 := ha ab
    have h2 := hl (ab ++ [a])
    rw [chL_cons, List.length_append, countL]
    omega
theorem chs_last (s : Sh) (ab : List Sh) : (s.chs ab).getLast? = some (ab ++ [s]) := by
  cases s
  rw [chs_mk]
  simp

/-! ### What is right -/
theorem chkL_cons (s : Sh) (r : List Sh) (d : Int) : chkL (s :: r) d = 0 ↔ s.chk d = 0 ∧ chkL r d = 0 := by
  simp only [chkL]
  by_cases h : s.chk d = 0
  · rw [if_neg (by simp [h])]; simp [h]
  · rw [if_pos h]; simp [h]
theorem chkL_all {l : List Sh} {d : Int} : chkL l d = 0 ↔ ∀ s ∈ l, s.chk d = 0 := by
  induction l with
  | nil => simp [chkL]
  | cons a r ih => rw [chkL_cons, ih]; simp
theorem chkL_take {l : List Sh} {d : Int} (h : chkL l d = 0) (n : Nat) : chkL (l.take n) d = 0 := chkL_all.2 fun s hs => chkL_all.1 h s (List.mem_of_mem_take hs)
theorem chk_zero {s : Sh} {d : Int} (h : s.chk d = 0) : (s.hd.k = 3 ∧ s.subs ≠ [] ∧ chkL s.subs (d + 1) = 0) ∨ ((s.hd.k = 1 ∨ s.hd.k = 2) ∧ s.subs = []) := by
  cases s with
  | mk hd subs =>
    simp only [Sh.chk] at h
    show (hd.k = 3 ∧ subs ≠ [] ∧ chkL subs (d + 1) = 0) ∨ ((hd.k = 1 ∨ hd.k = 2) ∧ subs = [])
    by_cases h3 : 3 < d
    · rw [if_pos h3] at h; omega
    · rw [if_neg h3] at h
      by_cases hk : hd.k = 3
      · rw [if_pos hk] at h
        refine .inl ⟨hk, ?_⟩
        by_cases hz : hd.sameT zeroH = false
        · rw [if_pos hz] at h; omega
        · rw [if_neg hz] at h
          by_cases hl : subs.length = 0
          · rw [if_pos hl] at h; omega
          · rw [if_neg hl] at h
            exact ⟨fun e => hl (by rw [e]; rfl), h⟩
      · rw [if_neg hk] at h
        by_cases hk2 : hd.k = 1 ∨ hd.k = 2
        · rw [if_pos hk2] at h
          refine .inr ⟨hk2, ?_⟩
          by_cases hf : hd.fine = false
          · rw [if_pos hf] at h; omega
          · rw [if_neg hf] at h
            by_cases hl : 0 < subs.length
            · rw [if_pos hl] at h; omega
            · exact List.length_eq_zero_iff.1 (by omega)
        · rw [if_neg hk2] at h; omega
theorem chL_len : (∀ (s : Sh) (d : Int) (ab : List Sh), s.chk d = 0 → (s.chs ab).length = s.count) ∧ ∀ (l : List Sh) (d : Int) (ab : List Sh), chkL l d = 0 → (chL l ab).length = countL l := by
  refine Sh.ind2 (fun hd subs ih d ab h => ?_) (fun d ab _ => by simp [chL_nil, countL]) (fun a l ha hl d ab h => ?_)
  · rw [chs_mk, Sh.count, List.length_append]
    rcases chk_zero h with ⟨h3, _, hs⟩ | ⟨hk, he⟩
    · have h3' : hd.k = 3 := h3
      rw [if_pos h3', ih (d + 1) ab hs]; simp; omega
    · have he' : subs = [] := he
      subst he'
      split
      · simp [chL_nil, countL]
      · simp [countL]
  · obtain ⟨h1, h2⟩ := (chkL_cons _ _ _).1 h
    rw [chL_cons, List.length_append, countL, ha d ab h1, hl d (ab ++ [a]) h2]
/-- Which chain a condition ends itself. -/
theorem chL_own {l : List Sh} {d : Int} (ab : List Sh) (h : chkL l d = 0) {i : Nat} (hi : i < l.length) : (chL l ab)[countL (l.take (i + 1)) - 1]? = some (ab ++ l.take (i + 1)) := by
  have hx : l[i]? = some l[i] := List.getElem?_eq_getElem hi
  have hlen := chL_len.2 (l.take (i + 1)) d ab (chkL_take h _)
  have hlast : (chL (l.take (i + 1)) ab).getLast? = some (ab ++ l.take (i + 1)) := by
    rw [chL_take_succ hx, List.getLast?_append, chs_last, Option.some_or, List.append_assoc]
    congr 2
    rw [List.take_add_one, hx]; rfl
  have hpos : 0 < countL (l.take (i + 1)) := by
    have := length_countL (l.take (i + 1))
    rw [List.length_take] at this
    omega
  rw [List.getLast?_eq_getElem?, hlen] at hlast
  have e : chL l ab = chL (l.take (i + 1)) ab ++ chL (l.drop (i + 1)) (ab ++ l.take (i + 1)) := by rw [← chL_append, List.take_append_drop]
  rw [e, List.getElem?_append_left (by omega)]
  exact hlast
/-- Each chain without its last condition is the beginning, or a chain that stands ahead of it. -/
theorem chL_ahead : (∀ (s : Sh) (ab : List Sh) (k : Nat) (x : List Sh), (s.chs ab)[k]? = some x → x ≠ [] ∧ (x.dropLast = ab ∨ ∃ m, m < k ∧ (s.chs ab)[m]? = some x.dropLast)) ∧
    ∀ (l ab : List Sh) (k : Nat) (x : List Sh), (chL l ab)[k]? = some x → x ≠ [] ∧ (x.dropLast = ab ∨ ∃ m, m < k ∧ (chL l ab)[m]? = some x.dropLast) := by
  refine Sh.ind2 (fun hd subs ih ab k x hx => ?_) (fun ab k x hx => by simp [chL_nil] at hx) (fun a l ha hl ab k x hx => ?_)
  · rw [chs_mk] at hx ⊢
    generalize hq : (if hd.k = 3 then chL subs ab else []) = q at *
    by_cases hk : k < q.length
    · rw [List.getElem?_append_left hk] at hx
      by_cases h3 : hd.k = 3
      · rw [if_pos h3] at hq
        subst hq
        obtain ⟨h1, h2⟩ := ih ab k x hx
        refine ⟨h1, h2.imp id fun ⟨m, hm, he⟩ => ⟨m, hm, ?_⟩⟩
        rw [List.getElem?_append_left (by omega)]
        exact he
      · rw [if_neg h3] at hq
        subst hq
        simp at hk
    · rw [List.getElem?_append_right (by omega)] at hx
      have hkl : k - q.length = 0 := by
        have := (List.getElem?_eq_some_iff.1 hx).1
        simp at this; omega
      rw [hkl] at hx
      simp at hx
      subst hx
      exact ⟨by simp, .inl (by simp)⟩
  · rw [chL_cons] at hx ⊢
    by_cases hk : k < (a.chs ab).length
    · rw [List.getElem?_append_left hk] at hx
      obtain ⟨h1, h2⟩ := ha ab k x hx
      refine ⟨h1, h2.imp id fun ⟨m, hm, he⟩ => ⟨m, hm, ?_⟩⟩
      rw [List.getElem?_append_left (by omega)]
      exact he
    · rw [List.getElem?_append_right (by omega)] at hx
      obtain ⟨h1, h2⟩ := hl (ab ++ [a]) _ x hx
      refine ⟨h1, ?_⟩
      rcases h2 with h2 | ⟨m, hm, he⟩
      · have hla := chs_last a ab
        rw [List.getLast?_eq_getElem?] at hla
        have hpos := (List.getElem?_eq_some_iff.1 hla).1
        exact .inr ⟨(a.chs ab).length - 1, by omega, by rw [List.getElem?_append_left hpos, hla, h2]⟩
      · exact .inr ⟨(a.chs ab).length + m, by omega, by rw [List.getElem?_append_right (by omega), show (a.chs ab).length + m - (a.chs ab).length = m by omega]; exact he⟩
/-- A chain of conditions behind nothing: of one condition, or its beginning is a chain ahead of it. -/
theorem chains_ahead {l : List Sh} {k : Nat} {x : List Sh} (h : (chL l [])[k]? = some x) : x ≠ [] ∧ (x.length = 1 ∨ ∃ m, m < k ∧ (chL l [])[m]? = some (x.take (x.length - 1))) := by
  obtain ⟨h1, h2⟩ := chL_ahead.2 l [] k x h
  refine ⟨h1, ?_⟩
  rw [← List.dropLast_eq_take]
  refine h2.imp (fun e => ?_) id
  have := congrArg List.length e
  have h0 : 0 < x.length := List.length_pos_iff.2 h1
  simp at this
  omega
end Go.Proofs.Ytefojaeinhgeiaa
