/- Layer cond: plain mathematics of a condition's variables. No program. -/
import Derived.Test.YtokpgpkdhcehbaaCVars
import Derived.Test.YtokpgpkdhcehbaaCCheck2
namespace Go.Proofs.Ytokpgpkdhcehbaa
open Go.RowKit Go.Lib

/-- The elements of a sorted row that are kept: just its elements, rising. -/
theorem compact_upTo (d : Array Int) (hs : ∀ i j, i ≤ j → j < d.size → d[i]! ≤ d[j]!) : ∀ m, m ≤ d.size →
    (∀ x, x ∈ compactUpTo d m ↔ ∃ j, j < m ∧ d[j]! = x) ∧ (compactUpTo d m).Pairwise (· < ·)
  | 0, _ => ⟨fun x => by simp [compactUpTo], by simp [compactUpTo]⟩
  | m + 1, hm => by
    obtain ⟨h1, h2⟩ := compact_upTo d hs m (by omega)
    rw [compactUpTo_succ]
    cases hk : keeps d m with
    | true =>
      rw [if_pos rfl]
      refine ⟨fun x => ?_, ?_⟩
      · rw [List.mem_append, h1, List.mem_singleton]
        constructor
        · rintro (⟨j, hj, e⟩ | rfl)
          · exact ⟨j, by omega, e⟩
          · exact ⟨m, by omega, rfl⟩
        · rintro ⟨j, hj, e⟩
          by_cases ej : j = m
          · subst ej; exact .inr e.symm
          · exact .inl ⟨j, by omega, e⟩
      · rw [List.pairwise_append]
        refine ⟨h2, by simp, fun x hx y hy => ?_⟩
        rw [List.mem_singleton] at hy
        subst hy
        obtain ⟨j, hj, rfl⟩ := (h1 x).1 hx
        have hne : m = 0 ∨ d[m]! ≠ d[m - 1]! := by unfold keeps at hk; exact of_decide_eq_true hk
        rcases hne with rfl | hne
        · omega
        · have a1 := hs j (m - 1) (by omega) (by omega)
          have a2 := hs (m - 1) m (by omega) (by omega)
          omega
    | false =>
      rw [if_neg (by simp), List.append_nil]
      refine ⟨fun x => ?_, h2⟩
      rw [h1]
      have hne : ¬ (m = 0 ∨ d[m]! ≠ d[m - 1]!) := by unfold keeps at hk; exact of_decide_eq_false hk
      have hm0 : m ≠ 0 := fun e => hne (.inl e)
      have he : d[m]! = d[m - 1]! := Classical.byContradiction fun e => hne (.inr e)
      constructor
      · rintro ⟨j, hj, e⟩
        exact ⟨j, by omega, e⟩
      · rintro ⟨j, hj, e⟩
        by_cases ej : j = m
        · subst ej; exact ⟨j - 1, by omega, by rw [← he]; exact e⟩
        · exact ⟨j, by omega, e⟩
theorem compact_sorted (l : List Int) : (∀ x, x ∈ compact (l.mergeSort fun x y => decide (x ≤ y)) ↔ x ∈ l) ∧ (compact (l.mergeSort fun x y => decide (x ≤ y))).Pairwise (· < ·) := by
  have hp : (l.mergeSort fun x y => decide (x ≤ y)).Pairwise (fun x y => x ≤ y) := by
    have := List.pairwise_mergeSort (le := fun x y : Int => decide (x ≤ y)) (fun a b c h1 h2 => by simp at *; omega) (fun a b => by simp; omega) l
    exact this.imp (fun h => by simpa using h)
  have hm : ∀ x, x ∈ (l.mergeSort fun x y => decide (x ≤ y)) ↔ x ∈ l := fun x => (List.mergeSort_perm l _).mem_iff
  generalize (l.mergeSort fun x y => decide (x ≤ y)) = s at hp hm
  have hs : ∀ i j, i ≤ j → j < s.toArray.size → s.toArray[i]! ≤ s.toArray[j]! := fun i j hij hj => by
    have hj' : j < s.length := by simpa using hj
    rw [getElem!_pos s.toArray i (by simp; omega), getElem!_pos s.toArray j (by simpa using hj')]
    by_cases e : i = j
    · subst e; exact Int.le_refl _
    · exact (List.pairwise_iff_getElem.1 hp) i j (by omega) hj' (by omega)
  obtain ⟨h1, h2⟩ := compact_upTo s.toArray hs s.length (by simp)
  refine ⟨fun x => ?_, h2⟩
  rw [← hm]
  show x ∈ compactUpTo s.toArray s.length ↔ _
  rw [h1]
  constructor
  · rintro ⟨j, hj, rfl⟩
    rw [getElem!_pos s.toArray j (by simpa using hj)]
    simp
  · intro hx
    obtain ⟨j, hj, e⟩ := List.mem_iff_getElem.1 hx
    exact ⟨j, hj, by rw [getElem!_pos s.toArray j (by simpa using hj)]; simpa using e⟩

/-- Is that number a variable of the terms? -/
def ownN (x0 x1 x2 : Bool) (n0 n1 n2 j : Int) : Bool := (x0 && n0 == j) || ((x1 && n1 == j) || (x2 && n2 == j))
theorem varsC_mem (x0 x1 x2 : Bool) (n0 n1 n2 j : Int) : j ∈ varsC x0 x1 x2 n0 n1 n2 ↔ ownN x0 x1 x2 n0 n1 n2 j = true := by
  unfold varsC
  rw [(compact_sorted _).1]
  have h : ∀ (b : Bool) (n : Int), j ∈ (if b then [n] else ([] : List Int)) ↔ (b && n == j) = true := fun b n => by
    cases b
    · simp
    · rw [if_pos rfl, List.mem_singleton, Bool.true_and, beq_iff_eq]
      exact ⟨Eq.symm, Eq.symm⟩
  unfold varsTo ownN
  rw [List.mem_append, List.mem_append, h, h, h]
  simp only [show decide (0 < 3) = true from rfl, show decide (1 < 3) = true from rfl, show decide (2 < 3) = true from rfl, Bool.true_and, Bool.or_eq_true]
theorem varsC_rise (x0 x1 x2 : Bool) (n0 n1 n2 : Int) : (varsC x0 x1 x2 n0 n1 n2).Pairwise (· < ·) := (compact_sorted _).2
theorem varsC_len (x0 x1 x2 : Bool) (n0 n1 n2 : Int) : (varsC x0 x1 x2 n0 n1 n2).length ≤ 3 := by
  unfold varsC compact compactUpTo
  rw [List.length_map]
  refine Nat.le_trans (List.length_filter_le _ _) ?_
  rw [List.length_range, List.length_mergeSort]
  exact varsTo_len _ _ _ _ _ _ _

/-- The first k are those below n. -/
def Below_ (c : List Int) (n : Int) (k : Nat) : Prop := k ≤ c.length ∧ ∀ i x, c[i]? = some x → (i < k ↔ x < n)
theorem Below_.start {c : List Int} (h : ∀ x ∈ c, 1 ≤ x) : Below_ c 1 0 := ⟨Nat.zero_le _, fun i x hx => by have := h x (List.mem_of_getElem? hx); omega⟩
theorem Below_.yes {c : List Int} {n : Int} {k : Nat} (hp : c.Pairwise (· < ·)) (h : Below_ c n k) (hm : n ∈ c) : k < c.length ∧ c[k]? = some n ∧ Below_ c (n + 1) (k + 1) := by
  obtain ⟨i, hi⟩ := List.mem_iff_getElem?.1 hm
  obtain ⟨hil, hie⟩ := List.getElem?_eq_some_iff.1 hi
  have hik : ¬ i < k := fun hlt => by have := (h.2 i n hi).1 hlt; omega
  have hik' : i = k := by
    rcases Nat.lt_or_ge k i with hlt | hge
    · have h1 := (List.pairwise_iff_getElem.1 hp) k i (by omega) hil hlt
      have h2 := (h.2 k c[k] (List.getElem?_eq_getElem (by omega)))
      omega
    · omega
  subst hik'
  refine ⟨hil, hi, by omega, fun j x hx => ?_⟩
  obtain ⟨hjl, hje⟩ := List.getElem?_eq_some_iff.1 hx
  have h1 := h.2 j x hx
  by_cases e : j = i
  · subst e
    rw [hi] at hx
    cases hx
    omega
  · rcases Nat.lt_or_ge j i with hlt | hge
    · have := h1.1 hlt; omega
    · have := (List.pairwise_iff_getElem.1 hp) i j hil hjl (by omega)
      omega
theorem Below_.no {c : List Int} {n : Int} {k : Nat} (h : Below_ c n k) (hm : n ∉ c) : Below_ c (n + 1) k := by
  refine ⟨h.1, fun i x hx => ?_⟩
  have h1 := h.2 i x hx
  have h2 : x ≠ n := fun e => hm (e ▸ List.mem_of_getElem? hx)
  omega
theorem Below_.all {c : List Int} {k : Nat} (h : Below_ c 33 k) (hm : ∀ x ∈ c, x ≤ 32) : k = c.length := by
  rcases Nat.lt_or_ge k c.length with hlt | hge
  · have h1 := (h.2 k c[k] (List.getElem?_eq_getElem hlt))
    have h2 := hm c[k] (List.getElem_mem hlt)
    omega
  · have := h.1; omega
theorem varsC_range {x0 x1 x2 : Bool} {n0 n1 n2 : Int} (hf : fine x0 x1 x2 n0 n1 n2 = true) : ∀ x ∈ varsC x0 x1 x2 n0 n1 n2, 1 ≤ x ∧ x ≤ 32 := by
  intro x hx
  rw [varsC_mem] at hx
  unfold fine at hf
  unfold ownN at hx
  simp only [Bool.and_eq_true] at hf
  simp only [Bool.or_eq_true, Bool.and_eq_true, beq_iff_eq] at hx
  rcases hx with ⟨rfl, rfl⟩ | ⟨rfl, rfl⟩ | ⟨rfl, rfl⟩
  · exact okTm_var.1 hf.1.1
  · exact okTm_var.1 hf.1.2
  · exact okTm_var.1 hf.2
mutual
/-- Its variables as they stand in it, some more than once. -/
def Sh.allV : Sh → List Int
  | .mk h l => varsC h.x0 h.x1 h.x2 h.n0 h.n1 h.n2 ++ allVL l
def allVL : List Sh → List Int
  | [] => []
  | s :: r => s.allV ++ allVL r
end
mutual
/-- Does a variable stand in it? -/
def Sh.has : Sh → Int → Bool
  | .mk h l, v => (decide (h.k < 3) && ownN h.x0 h.x1 h.x2 h.n0 h.n1 h.n2 v) || hasL l v
def hasL : List Sh → Int → Bool
  | [], _ => false
  | s :: r, v => s.has v || hasL r v
end
theorem has_mk (h : Hd) (l : List Sh) (v : Int) : (Sh.mk h l).has v = ((decide (h.k < 3) && ownN h.x0 h.x1 h.x2 h.n0 h.n1 h.n2 v) || hasL l v) := by
  rw [Sh.has]
theorem allV_mk (h : Hd) (l : List Sh) : (Sh.mk h l).allV = varsC h.x0 h.x1 h.x2 h.n0 h.n1 h.n2 ++ allVL l := by
  rw [Sh.allV]
theorem allVL_take_succ {l : List Sh} {i : Nat} {s : Sh} (h : l[i]? = some s) : allVL (l.take (i + 1)) = allVL (l.take i) ++ s.allV := by
  have happ : ∀ a b : List Sh, allVL (a ++ b) = allVL a ++ allVL b := fun a b => by
    induction a with
    | nil => rfl
    | cons x r ih => rw [List.cons_append, allVL, allVL, ih, List.append_assoc]
  rw [List.take_add_one, h, happ]
  simp [allVL]
theorem hasL_drop {l : List Sh} {j : Nat} {x : Sh} (h : l[j]? = some x) (v : Int) : hasL (l.drop j) v = (x.has v || hasL (l.drop (j + 1)) v) := by
  obtain ⟨hl, e⟩ := List.getElem?_eq_some_iff.1 h
  rw [List.drop_eq_getElem_cons hl, e]
  rfl
theorem allV_len : (∀ s : Sh, s.allV.length ≤ 3 * s.count) ∧ ∀ l, (allVL l).length ≤ 3 * countL l := by
  refine Sh.ind2 (fun hd subs ih => ?_) (by simp [allVL]) (fun a l ha hl => ?_)
  · rw [allV_mk, List.length_append]
    have := varsC_len hd.x0 hd.x1 hd.x2 hd.n0 hd.n1 hd.n2
    simp only [Sh.count]; omega
  · rw [allVL, List.length_append]
    simp only [countL]; omega
theorem has_right : (∀ s : Sh, ∀ d : Int, s.chk d = 0 → ∀ v, (v ∈ s.allV ↔ s.has v = true) ∧ (v ∈ s.allV → 1 ≤ v ∧ v ≤ 32)) ∧ ∀ l : List Sh, ∀ d : Int, chkL l d = 0 → ∀ v, (v ∈ allVL l ↔ hasL l v = true) ∧ (v ∈ allVL l → 1 ≤ v ∧ v ≤ 32) := by
  refine Sh.ind2 (fun hd subs ih d h v => ?_) (fun d _ v => by simp [allVL, hasL]) (fun a l ha hl d h v => ?_)
  · rw [chk_mk] at h
    rw [allV_mk, has_mk, List.mem_append, varsC_mem, Bool.or_eq_true, Bool.and_eq_true, decide_eq_true_iff]
    split at h
    · omega
    · split at h
      · rename_i hk
        unfold nccT at h
        split at h
        · omega
        · rename_i hz
          split at h
          · omega
          · have hz' : hd.sameT zeroH = true := by simpa using hz
            have hx : hd.x0 = false ∧ hd.x1 = false ∧ hd.x2 = false := by
              unfold Hd.sameT zeroH at hz'
              simp at hz'
              exact ⟨hz'.1.1, hz'.2.1.1, hz'.2.2.1⟩
            have ho : ownN hd.x0 hd.x1 hd.x2 hd.n0 hd.n1 hd.n2 v = false := by
              unfold ownN
              rw [hx.1, hx.2.1, hx.2.2]
              rfl
            rw [ho]
            have := ih (d + 1) h v
            simp only [Bool.false_eq_true, and_false, false_or]
            exact this
      · split at h
        · rename_i hk3 hk
          unfold termsT at h
          split at h
          · omega
          · rename_i hf
            split at h
            · omega
            · have hf' : hd.fine = true := by simpa using hf
              have hs : subs = [] := List.length_eq_zero_iff.1 (by omega)
              subst hs
              have h3 : hd.k < 3 := by omega
              simp only [allVL, hasL, List.not_mem_nil, or_false, Bool.false_eq_true, h3, true_and]
              exact fun hm => varsC_range hf' v ((varsC_mem _ _ _ _ _ _ v).2 hm)
        · omega
  · simp only [chkL] at h
    have h0 : a.chk d = 0 := by
      rcases Classical.em (a.chk d = 0) with e | e
      · exact e
      · rw [if_pos e] at h; exact h
    rw [h0, if_neg (by simp)] at h
    have h1 := ha d h0 v
    have h2 := hl d h v
    rw [show allVL (a :: l) = a.allV ++ allVL l from rfl, show hasL (a :: l) v = (a.has v || hasL l v) from rfl, List.mem_append, Bool.or_eq_true]
    exact ⟨⟨fun hm => hm.imp h1.1.1 h2.1.1, fun hm => hm.imp h1.1.2 h2.1.2⟩, fun hm => hm.elim h1.2 h2.2⟩
/-- What Vars tells. -/
def Sh.told (s : Sh) : List Int := compact (s.allV.mergeSort fun x y => decide (x ≤ y))
theorem told_facts (s : Sh) (h : s.chk 1 = 0) : (∀ v, v ∈ s.told ↔ s.has v = true) ∧ (∀ v ∈ s.told, 1 ≤ v ∧ v ≤ 32) ∧ s.told.Pairwise (· < ·) :=
  ⟨fun v => ((compact_sorted _).1 v).trans (has_right.1 s 1 h v).1, fun v hv => (has_right.1 s 1 h v).2 (((compact_sorted _).1 v).1 hv), (compact_sorted _).2⟩
theorem told_len (s : Sh) : s.told.length ≤ 3 * s.count := by
  unfold Sh.told compact compactUpTo
  rw [List.length_map]
  refine Nat.le_trans (List.length_filter_le _ _) ?_
  rw [List.length_range, List.length_mergeSort]
  exact allV_len.1 s
end Go.Proofs.Ytokpgpkdhcehbaa
