/- Numbers up to 999999999 as texts; words by blanks; a match's text. No program. -/
import Derived.Test.YtkffcpjaciomjaaDoorKNumber
import Derived.Test.YtkffcpjaciomjaaDoorXMath
import Derived.Test.YtkffcpjaciomjaaDoorSymA
namespace Go.Proofs.YtkffcpjaciomjaaDoor
open Go.RowKit Go.Lib

theorem dec_len : ∀ (k n : Nat), n < 10 ^ (k + 1) → (decDigits n).length ≤ k + 1
  | 0, n, h => by rw [dec_small (by simpa using h)]; simp
  | k + 1, n, h => by
    by_cases hn : n < 10
    · rw [dec_small hn]; simp
    · rw [dec_big hn, List.length_append]
      have := dec_len k (n / 10) (by rw [Nat.pow_succ] at h; omega)
      simp; omega
theorem dec_lt : ∀ n : Nat, n < 10 ^ (decDigits n).length := by
  intro n
  induction n using Nat.strongRecOn with
  | _ n ih =>
    by_cases hn : n < 10
    · rw [dec_small hn]; simpa using hn
    · rw [dec_big hn, List.length_append]
      have := ih (n / 10) (by omega)
      show n < 10 ^ ((decDigits (n / 10)).length + 1)
      rw [Nat.pow_succ]; omega
theorem dec_head : ∀ n : Nat, 1 ≤ n → ∃ c r, decDigits n = c :: r ∧ 49 ≤ c.toNat ∧ c.toNat ≤ 57 := by
  intro n
  induction n using Nat.strongRecOn with
  | _ n ih =>
    intro h1
    by_cases hn : n < 10
    · exact ⟨D n, [], dec_small hn, by rw [D_nat hn]; omega, by rw [D_nat hn]; omega⟩
    · obtain ⟨c, r, e, a, b⟩ := ih (n / 10) (by omega) (by omega)
      exact ⟨c, r ++ [D (n % 10)], by rw [dec_big hn, e]; rfl, a, b⟩
theorem numF_full : ∀ n : Nat, numF 0 (decDigits n) = some n := by
  intro n
  induction n using Nat.strongRecOn with
  | _ n ih =>
    by_cases hn : n < 10
    · rw [dec_small hn, numF, if_neg (by rw [D_nat hn]; omega), numF, D_nat hn]; simp
    · rw [dec_big hn, numF_snoc, ih (n / 10) (by omega)]
      show (if _ then none else some _) = _
      rw [if_neg (by rw [D_nat (by omega)]; omega), D_nat (by omega)]
      congr 1; omega
theorem numL_itoa9 {n : Int} (h1 : 1 ≤ n) (h2 : n ≤ 999999999) : numL (itoa n) = n := by
  obtain ⟨m, rfl⟩ : ∃ m : Nat, n = m := ⟨n.toNat, by omega⟩
  rw [itoa_dec (by omega), Int.toNat_natCast]
  have hl := dec_len 8 m (by omega)
  obtain ⟨c, r, e, a, b⟩ := dec_head m (by omega)
  have hf := numF_full m
  unfold numL
  rw [if_neg, hf]
  rintro (h | h | ⟨_, h⟩)
  · rw [e] at h; cases h
  · omega
  · rw [e] at h
    simp at h
    rw [h] at a
    exact absurd a (by decide)
theorem numL_bound {l : List UInt8} (h1 : 1 ≤ numL l) : numL l ≤ 999999999 := by
  have e := numL_of (l := l) rfl h1
  have hl : l.length ≤ 9 := by
    have h := h1
    unfold numL at h
    by_cases hb : l = [] ∨ 9 < l.length ∨ (1 < l.length ∧ l.head? = some 48)
    · rw [if_pos hb] at h; omega
    · have : ¬ 9 < l.length := fun h => hb (.inr (.inl h))
      omega
  have h2 := dec_lt (numL l).toNat
  rw [itoa_dec (by omega)] at e
  rw [← e] at h2
  have : 10 ^ l.length ≤ 10 ^ 9 := Nat.pow_le_pow_right (by decide) hl
  have e9 : (10 : Nat) ^ 9 = 1000000000 := by decide
  omega
theorem parse_snoc : ∀ (l : List UInt8) (a u : Nat) (c : UInt8), parseUint10 a l = .ok u → u < 1000000000000000000 → 48 ≤ c.toNat ∧ c.toNat ≤ 57 → parseUint10 a (l ++ [c]) = .ok (u * 10 + (c.toNat - 48))
  | [], a, u, c, h, hu, hc => by
    simp only [parseUint10] at h
    cases h
    show parseUint10 a [c] = _
    rw [parseUint10, if_pos hc, if_neg (by omega), if_neg (by omega), parseUint10]
  | d :: r, a, u, c, h, hu, hc => by
    show parseUint10 a (d :: (r ++ [c])) = _
    rw [parseUint10] at h ⊢
    by_cases hd : 48 ≤ d.toNat ∧ d.toNat ≤ 57
    · rw [if_pos hd] at h ⊢
      by_cases h2 : 1844674407370955162 ≤ a
      · rw [if_pos h2] at h; cases h
      · rw [if_neg h2] at h ⊢
        by_cases h3 : 18446744073709551616 ≤ a * 10 + (d.toNat - 48)
        · rw [if_pos h3] at h; cases h
        · rw [if_neg h3] at h ⊢
          exact parse_snoc r _ u c h hu hc
    · rw [if_neg hd] at h; cases h
theorem parse_full : ∀ n : Nat, n < 1000000000000000000 → parseUint10 0 (decDigits n) = .ok n := by
  intro n
  induction n using Nat.strongRecOn with
  | _ n ih =>
    intro h
    by_cases hn : n < 10
    · rw [dec_small hn, parseUint10, if_pos (by rw [D_nat hn]; omega), if_neg (by omega), if_neg (by rw [D_nat hn]; omega), parseUint10, D_nat hn]
      congr 1; omega
    · rw [dec_big hn, parse_snoc _ 0 (n / 10) _ (ih (n / 10) (by omega) (by omega)) (by omega) (by rw [D_nat (by omega)]; omega), D_nat (by omega)]
      congr 1; omega
theorem fld_itoa9 {n : Int} (h1 : 1 ≤ n) (h2 : n ≤ 999999999) : fld (itoa n) = n := by
  obtain ⟨m, rfl⟩ : ∃ m : Nat, n = m := ⟨n.toNat, by omega⟩
  rw [itoa_dec (by omega), Int.toNat_natCast]
  obtain ⟨c, r, e, a, b⟩ := dec_head m (by omega)
  have hp := parse_full m (by omega)
  rw [e] at hp ⊢
  unfold fld atoiAll
  simp only
  rw [if_neg (by omega)]
  unfold parseMag
  rw [if_neg (by simp), hp]
  simp only
  rw [if_neg (by omega), if_neg (by omega), if_neg (by omega)]

/-- An id that may stand in a text. -/
def okId (n : Int) : Bool := decide (1 ≤ n ∧ n ≤ 999999999)
theorem okId_iff {n : Int} : okId n = true ↔ 1 ≤ n ∧ n ≤ 999999999 := by unfold okId; exact decide_eq_true_iff
/-- What the program takes for an id's text. -/
def pidL (l : List UInt8) : Bool := okId (fld l) && (itoa (fld l) == l)
theorem pidL_eq (l : List UInt8) : pidL l = decide (1 ≤ numL l) := by
  rw [Bool.eq_iff_iff, decide_eq_true_eq]
  constructor
  · intro h
    unfold pidL at h
    rw [Bool.and_eq_true, beq_iff_eq] at h
    obtain ⟨a, b⟩ := okId_iff.1 h.1
    rw [← h.2, numL_itoa9 a b]; exact a
  · intro h
    have e := numL_of (l := l) rfl h
    have hb := numL_bound h
    have hf : fld l = numL l := by
      have := fld_itoa9 h hb
      rwa [← e] at this
    unfold pidL
    rw [Bool.and_eq_true, beq_iff_eq, hf, okId_iff]
    exact ⟨⟨h, hb⟩, e.symm⟩
theorem pidL_num {l : List UInt8} (h : pidL l = true) : fld l = numL l := by
  have h1 : 1 ≤ numL l := by rw [pidL_eq] at h; exact of_decide_eq_true h
  have e := numL_of (l := l) rfl h1
  have := fld_itoa9 h1 (numL_bound h1)
  rwa [← e] at this

/-! ### Cut at the first blank -/
theorem index_none : ∀ l : List UInt8, (∀ c ∈ l, c ≠ 32) → index l [32] = -1
  | [], _ => by unfold index; rfl
  | c :: r, h => by
    unfold index
    rw [prefix_one, if_neg (by simpa using fun e => h c (List.mem_cons_self ..) e.symm), index_none r (fun d hd => h d (List.mem_cons_of_mem _ hd))]
    rfl
theorem first_blank : ∀ l : List UInt8, (∀ c ∈ l, c ≠ 32) ∨ ∃ x y, l = x ++ 32 :: y ∧ ∀ c ∈ x, c ≠ 32
  | [] => .inl (fun c hc => by cases hc)
  | c :: r => by
    by_cases hc : c = 32
    · exact .inr ⟨[], r, by rw [hc]; rfl, fun d hd => by cases hd⟩
    · rcases first_blank r with h | ⟨x, y, e, h⟩
      · exact .inl (fun d hd => (List.mem_cons.1 hd).elim (fun e => by rw [e]; exact hc) (h d))
      · exact .inr ⟨c :: x, y, by rw [e]; rfl, fun d hd => (List.mem_cons.1 hd).elim (fun e => by rw [e]; exact hc) (h d)⟩
theorem cut_none {l : List UInt8} (h : ∀ c ∈ l, c ≠ 32) : cut l [32] = (l, [], false) := by
  unfold cut
  rw [index_none l h, if_neg (by decide)]
theorem cut_some {x y : List UInt8} (h : ∀ c ∈ x, c ≠ 32) : cut (x ++ 32 :: y) [32] = (x, y, true) := by
  unfold cut
  rw [index_blank x y h, if_pos (Int.natCast_nonneg _)]
  simp only [Int.toNat_natCast, List.length_singleton]
  rw [List.take_left' rfl, show x ++ 32 :: y = (x ++ [32]) ++ y by simp, List.drop_left' (by simp)]
theorem cut_wl (l : List UInt8) : wl l = if (cut l [32]).2.2 then (cut l [32]).1 :: wl (cut l [32]).2.1 else [(cut l [32]).1] := by
  rcases first_blank l with h | ⟨x, y, rfl, h⟩
  · rw [cut_none h]; exact wl_last l h
  · rw [cut_some h]; exact wl_word x y h
theorem cut_len (l : List UInt8) : (cut l [32]).1.length ≤ l.length ∧ (cut l [32]).2.1.length ≤ l.length := by
  unfold cut
  split
  · exact ⟨by rw [List.length_take]; omega, by rw [List.length_drop]; omega⟩
  · exact ⟨Nat.le_refl _, Nat.zero_le _⟩
theorem cut_shrinks {l : List UInt8} (h : (cut l [32]).2.2 = true) : (cut l [32]).2.1.length < l.length := by
  rcases first_blank l with h1 | ⟨x, y, rfl, h1⟩
  · rw [cut_none h1] at h; cases h
  · rw [cut_some h1]; simp; omega

/-! ### A match's text -/
def idsL (ids : List Int) : List UInt8 := ids.flatMap fun i => 32 :: itoa i
def mtxtL (r : List UInt8) (ids : List Int) : List UInt8 := r ++ idsL ids
def okIds (ids : List Int) : Bool := ids.all okId
/-- Is it a match that has a text? -/
def goodM (m : M) : Bool := okName m.1 && okIds m.2
theorem idsL_snoc (l : List Int) (i : Int) : idsL (l ++ [i]) = idsL l ++ 32 :: itoa i := by unfold idsL; simp
theorem okIds_snoc (l : List Int) (i : Int) : okIds (l ++ [i]) = (okIds l && okId i) := by unfold okIds; simp
theorem okIds_bad {l : List Int} {k : Nat} {i : Int} (h : l[k]? = some i) (hb : okId i = false) : okIds l = false := by
  unfold okIds
  rw [List.all_eq_false]
  exact ⟨i, List.mem_of_getElem? h, by rw [hb]; simp⟩
theorem idsL_len : ∀ l : List Int, okIds l = true → (idsL l).length ≤ l.length * 10
  | [], _ => by simp [idsL]
  | i :: r, h => by
    unfold okIds at h
    rw [List.all_cons, Bool.and_eq_true] at h
    have h1 := okId_iff.1 h.1
    have := idsL_len r h.2
    have hl : (itoa i).length ≤ 9 := by rw [itoa_dec (by omega)]; exact dec_len 8 i.toNat (by omega)
    show (32 :: itoa i ++ idsL r).length ≤ _
    rw [List.length_append, List.length_cons, List.length_cons, Nat.add_mul]; omega
/-- What the reference reads. -/
def parseM (l : List UInt8) : Option (List UInt8 × List Int) := match wl l with
  | [] => none
  | x :: r => if r.all (fun w => decide (1 ≤ numL w)) then some (x, r.map numL) else none
theorem okSign_noblank {l : List UInt8} (h : okBytes l = true) : ∀ c ∈ l, c ≠ 32 := by
  intro c hc e
  unfold okBytes at h
  have := List.all_eq_true.1 h c hc
  rw [e] at this
  exact absurd this (by decide)
theorem wl_text : ∀ (x : List UInt8) (ids : List Int), (∀ c ∈ x, c ≠ 32) → okIds ids = true → wl (x ++ idsL ids) = x :: ids.map itoa
  | x, [], hx, _ => by
    show wl (x ++ []) = _
    rw [List.append_nil, wl_last x hx]; rfl
  | x, i :: r, hx, h => by
    unfold okIds at h
    rw [List.all_cons, Bool.and_eq_true] at h
    have h1 := okId_iff.1 h.1
    show wl (x ++ (32 :: itoa i ++ idsL r)) = _
    rw [show x ++ (32 :: itoa i ++ idsL r) = x ++ 32 :: (itoa i ++ idsL r) by simp, wl_word x _ hx, wl_text (itoa i) r (itoa_noblank (by omega)) h.2]
    rfl
theorem parseM_text {x : List UInt8} {ids : List Int} (hx : okBytes x = true) (h : okIds ids = true) : parseM (mtxtL x ids) = some (x, ids) := by
  unfold parseM mtxtL
  rw [wl_text x ids (okSign_noblank hx) h]
  have h2 : ∀ i ∈ ids, 1 ≤ i ∧ i ≤ 999999999 := fun i hi => okId_iff.1 (List.all_eq_true.1 h i hi)
  simp only
  rw [if_pos]
  · congr 2
    rw [List.map_map]
    conv => rhs; rw [← List.map_id ids]
    exact List.map_congr_left (fun i hi => numL_itoa9 (h2 i hi).1 (h2 i hi).2)
  · rw [List.all_eq_true]
    intro w hw
    obtain ⟨i, hi, rfl⟩ := List.mem_map.1 hw
    rw [numL_itoa9 (h2 i hi).1 (h2 i hi).2]
    exact decide_eq_true (h2 i hi).1
theorem inter_cons : ∀ (x : List UInt8) (r : List (List UInt8)), inter (x :: r) = x ++ r.flatMap (fun w => 32 :: w)
  | x, [] => by simp [inter]
  | x, y :: r => by
    rw [inter, inter_cons y r]; simp
theorem parseM_out {l x : List UInt8} {ids : List Int} (h : parseM l = some (x, ids)) : l = mtxtL x ids ∧ okIds ids = true := by
  unfold parseM at h
  have hi := inter_wl l
  cases e : wl l with
  | nil => exact absurd e (wl_ne l)
  | cons y r =>
    rw [e] at h hi
    simp only at h
    by_cases hc : r.all (fun w => decide (1 ≤ numL w)) = true
    · rw [if_pos hc] at h
      simp only [Option.some.injEq, Prod.mk.injEq] at h
      obtain ⟨rfl, rfl⟩ := h
      have h2 : ∀ w ∈ r, 1 ≤ numL w := fun w hw => of_decide_eq_true (List.all_eq_true.1 hc w hw)
      refine ⟨?_, ?_⟩
      · rw [← hi, inter_cons]
        unfold mtxtL idsL
        congr 1
        rw [List.flatMap_map]
        have : ∀ (r : List (List UInt8)), (∀ w ∈ r, 1 ≤ numL w) → r.flatMap (fun w => 32 :: w) = r.flatMap (fun w => 32 :: itoa (numL w)) := by
          intro r
          induction r with
          | nil => intro _; rfl
          | cons w t ih =>
            intro h
            rw [List.flatMap_cons, List.flatMap_cons, ih (fun v hv => h v (List.mem_cons_of_mem _ hv)), ← numL_of (l := w) rfl (h w (List.mem_cons_self ..))]
        exact this r h2
      · unfold okIds
        rw [List.all_map, List.all_eq_true]
        intro w hw
        exact okId_iff.2 ⟨h2 w hw, numL_bound (h2 w hw)⟩
    · rw [if_neg hc] at h; cases h
end Go.Proofs.YtkffcpjaciomjaaDoor
