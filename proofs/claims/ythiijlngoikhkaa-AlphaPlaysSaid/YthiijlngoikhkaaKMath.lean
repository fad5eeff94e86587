/- Keys, plain: what is right, what has what, the eight keys, texts; no program. -/
import Derived.Test.YthiijlngoikhkaaTMath
namespace Go.Proofs.Ythiijlngoikhkaa
open Go.Lib

/-- A key's field. -/
def okK (n : Int) : Bool := decide (0 ≤ n ∧ n ≤ 4096)
def okKT (t : T3) : Bool := okK t.1 && (okK t.2.1 && okK t.2.2)
theorem okK_iff {n : Int} : okK n = true ↔ 0 ≤ n ∧ n ≤ 4096 := by unfold okK; exact decide_eq_true_iff
theorem okK_no {n : Int} (h : okK n = false) : n < 0 ∨ 4096 < n := by unfold okK at h; have := of_decide_eq_false h; omega
theorem okKT_iff {t : T3} : okKT t = true ↔ (0 ≤ t.1 ∧ t.1 ≤ 4096) ∧ (0 ≤ t.2.1 ∧ t.2.1 ≤ 4096) ∧ (0 ≤ t.2.2 ∧ t.2.2 ≤ 4096) := by
  unfold okKT; simp [okK_iff]
theorem okKT_bad1 {t : T3} (h : okK t.1 = false) : okKT t = false := by unfold okKT; rw [h]; rfl
theorem okKT_bad2 {t : T3} (h : okK t.2.1 = false) : okKT t = false := by unfold okKT; rw [h]; simp
theorem okKT_bad3 {t : T3} (h : okK t.2.2 = false) : okKT t = false := by unfold okKT; rw [h]; simp
theorem okKT_good {t : T3} (h1 : okK t.1 = true) (h2 : okK t.2.1 = true) (h3 : okK t.2.2 = true) : okKT t = true := by unfold okKT; rw [h1, h2, h3]; rfl
theorem okT_bad1 {t : T3} (h : okN t.1 = false) : okT t = false := by unfold okT; rw [h]; rfl
theorem okT_bad2 {t : T3} (h : okN t.2.1 = false) : okT t = false := by unfold okT; rw [h]; simp
theorem okT_bad3 {t : T3} (h : okN t.2.2 = false) : okT t = false := by unfold okT; rw [h]; simp
theorem okT_good {t : T3} (h1 : okN t.1 = true) (h2 : okN t.2.1 = true) (h3 : okN t.2.2 = true) : okT t = true := by unfold okT; rw [h1, h2, h3]; rfl
theorem okN_no {n : Int} (h : okN n = false) : n < 1 ∨ 4096 < n := by unfold okN at h; have := of_decide_eq_false h; omega

/-! ### What has what -/
/-- A field is asked for nothing, or is that. -/
def hasF (s k : Int) : Bool := decide (k = 0 ∨ k = s)
def hasK (t k : T3) : Bool := hasF t.1 k.1 && (hasF t.2.1 k.2.1 && hasF t.2.2 k.2.2)
theorem hasF_iff {s k : Int} : hasF s k = true ↔ k = 0 ∨ k = s := by unfold hasF; exact decide_eq_true_iff
theorem hasF_no {s k : Int} (h : hasF s k = false) : k ≠ 0 ∧ k ≠ s := by unfold hasF at h; have := of_decide_eq_false h; omega
theorem hasK_iff {t k : T3} : hasK t k = true ↔ (k.1 = 0 ∨ k.1 = t.1) ∧ (k.2.1 = 0 ∨ k.2.1 = t.2.1) ∧ (k.2.2 = 0 ∨ k.2.2 = t.2.2) := by unfold hasK; simp [hasF_iff]
theorem hasK_bad1 {t k : T3} (h : hasF t.1 k.1 = false) : hasK t k = false := by unfold hasK; rw [h]; rfl
theorem hasK_bad2 {t k : T3} (h : hasF t.2.1 k.2.1 = false) : hasK t k = false := by unfold hasK; rw [h]; simp
theorem hasK_bad3 {t k : T3} (h : hasF t.2.2 k.2.2 = false) : hasK t k = false := by unfold hasK; rw [h]; simp
theorem hasK_good {t k : T3} (h1 : hasF t.1 k.1 = true) (h2 : hasF t.2.1 k.2.1 = true) (h3 : hasF t.2.2 k.2.2 = true) : hasK t k = true := by unfold hasK; rw [h1, h2, h3]; rfl

/-- The key of a number. -/
def keyF (x : Int) (n : Nat) : Int := if n % 2 = 1 then x else 0
def keyT (t : T3) (n : Nat) : T3 := (keyF t.1 n, keyF t.2.1 (n / 2), keyF t.2.2 (n / 2 / 2))
/-- What a field counts. -/
def bit1 (x : Int) : Int := if x = 0 then 0 else 1
def numT (k : T3) : Int := bit1 k.1 + 2 * bit1 k.2.1 + 4 * bit1 k.2.2
theorem bit1_zero {x : Int} (h : x = 0) : bit1 x = 0 := by unfold bit1; rw [if_pos h]
theorem bit1_one {x : Int} (h : x ≠ 0) : bit1 x = 1 := by unfold bit1; rw [if_neg h]
theorem key_has (t : T3) (n : Nat) : hasK t (keyT t n) = true := by
  rw [hasK_iff]
  unfold keyT keyF
  refine ⟨?_, ?_, ?_⟩ <;> (simp only; split <;> simp)
theorem key_num {t : T3} (h : okT t = true) {n : Nat} (hn : n < 8) : numT (keyT t n) = n := by
  obtain ⟨a, b, c⟩ := okT_iff.1 h
  unfold numT keyT keyF bit1
  simp only
  repeat' split
  all_goals omega
/-- Is a key one of the first m of a triple? -/
def isK (t k : T3) : Nat → Bool
  | 0 => false
  | m + 1 => isK t k m || decide (keyT t m = k)
theorem isK_iff (t k : T3) (m : Nat) : isK t k m = true ↔ ∃ n, n < m ∧ keyT t n = k := by
  induction m with
  | zero => simp [isK]
  | succ m ih =>
    show (isK t k m || decide (keyT t m = k)) = true ↔ _
    rw [Bool.or_eq_true, ih, decide_eq_true_iff]
    constructor
    · rintro (⟨n, h, e⟩ | e)
      · exact ⟨n, by omega, e⟩
      · exact ⟨m, by omega, e⟩
    · rintro ⟨n, h, e⟩
      by_cases hm : n = m
      · subst hm; exact .inr e
      · exact .inl ⟨n, by omega, e⟩
theorem keyF_of {x k : Int} (h : k = 0 ∨ k = x) : ∃ d : Nat, d < 2 ∧ ∀ r, keyF x (d + 2 * r) = k := by
  rcases h with h | h
  · exact ⟨0, by omega, fun r => by unfold keyF; rw [if_neg (by omega), h]⟩
  · exact ⟨1, by omega, fun r => by unfold keyF; rw [if_pos (by omega), h]⟩
theorem isK_has (t k : T3) : isK t k 8 = hasK t k := by
  rw [Bool.eq_iff_iff, isK_iff, hasK_iff]
  constructor
  · rintro ⟨n, _, rfl⟩
    exact hasK_iff.1 (key_has t n)
  · rintro ⟨h1, h2, h3⟩
    obtain ⟨x, hx, ex⟩ := keyF_of h1
    obtain ⟨y, hy, ey⟩ := keyF_of h2
    obtain ⟨z, hz, ez⟩ := keyF_of h3
    refine ⟨x + 2 * (y + 2 * (z + 2 * 0)), by omega, ?_⟩
    unfold keyT
    rw [show (x + 2 * (y + 2 * (z + 2 * 0))) / 2 = y + 2 * (z + 2 * 0) by omega, show (y + 2 * (z + 2 * 0)) / 2 = z + 2 * 0 by omega, ex, ey, ez]

/-- The key of terms. -/
def ofF (v : Bool) (n : Int) : Int := if v then 0 else n

/-! ### Texts -/
/-- A field's text. -/
def ft (n : Int) : List UInt8 := if n = 0 then [42] else itoa n
def ktxtL (t : T3) : List UInt8 := ft t.1 ++ 32 :: (ft t.2.1 ++ 32 :: ft t.2.2)
theorem ft_zero : ft 0 = [42] := rfl
theorem ft_num {n : Int} (h : n ≠ 0) : ft n = itoa n := by unfold ft; rw [if_neg h]
theorem ft_noblank {n : Int} (h : 0 ≤ n) : ∀ c ∈ ft n, c ≠ 32 := by
  by_cases h0 : n = 0
  · subst h0
    intro c hc
    rw [ft_zero, List.mem_singleton] at hc
    subst hc
    decide
  · rw [ft_num h0]; exact itoa_noblank h
theorem fld_star : fld [42] = 0 := by
  have : atoiAll [42] = .syntax := by rfl
  unfold fld; rw [this]
theorem fld_ft {n : Int} (h0 : 0 ≤ n) (h1 : n ≤ 4096) : fld (ft n) = n := by
  by_cases h : n = 0
  · subst h; exact fld_star
  · rw [ft_num h]; exact fld_itoa (by omega) h1
theorem itoa_star {n : Int} (h : 0 ≤ n) : itoa n ≠ [42] := by
  intro e
  rw [itoa_dec h] at e
  have := dec_digit n.toNat 42 (by rw [e]; simp)
  exact absurd this.1 (by decide)
/-- A field that the reference reads. -/
def numK (l : List UInt8) : Option Int := if l = [42] then some 0 else if okN (numL l) then some (numL l) else none
theorem numK_ft {n : Int} (h0 : 0 ≤ n) (h1 : n ≤ 4096) : numK (ft n) = some n := by
  unfold numK
  by_cases h : n = 0
  · subst h; rfl
  · rw [ft_num h, if_neg (itoa_star h0), numL_itoa (by omega) h1, if_pos (okN_iff.2 ⟨by omega, h1⟩)]
theorem numK_some {l : List UInt8} {n : Int} (h : numK l = some n) : (0 ≤ n ∧ n ≤ 4096) ∧ l = ft n := by
  unfold numK at h
  by_cases hs : l = [42]
  · rw [if_pos hs] at h
    cases h
    exact ⟨⟨by omega, by omega⟩, hs⟩
  · rw [if_neg hs] at h
    split at h
    · rename_i ho
      cases h
      obtain ⟨a, b⟩ := okN_iff.1 ho
      exact ⟨⟨by omega, b⟩, by rw [ft_num (by omega)]; exact numL_of rfl a⟩
    · cases h

theorem ft_len (n : Int) : 0 ≤ (ft n).length := Nat.zero_le _
theorem ktxtL_len (t : T3) : 2 ≤ (ktxtL t).length := by unfold ktxtL; simp; omega
theorem kparts_txt {t : T3} (h : okKT t = true) : partsL (ktxtL t) = [ft t.1, ft t.2.1, ft t.2.2] := by
  obtain ⟨⟨a, _⟩, ⟨b, _⟩, c, _⟩ := okKT_iff.1 h
  have hl := ktxtL_len t
  unfold partsL
  rw [show min 3 ((ktxtL t).length + 1) - 1 = 1 + 1 by omega]
  unfold ktxtL
  rw [splitK_word 1 _ _ (ft_noblank (by omega)), splitK_word 0 _ _ (ft_noblank (by omega))]
  rfl
theorem kraw_txt {t : T3} (h : okKT t = true) : rawL (partsL (ktxtL t)) = t := by
  obtain ⟨⟨a, a'⟩, ⟨b, b'⟩, c, c'⟩ := okKT_iff.1 h
  rw [kparts_txt h]
  unfold rawL
  simp [fld_ft a a', fld_ft b b', fld_ft c c']
theorem kwl_txt {t : T3} (h : okKT t = true) : wl (ktxtL t) = [ft t.1, ft t.2.1, ft t.2.2] := by
  obtain ⟨⟨a, _⟩, ⟨b, _⟩, c, _⟩ := okKT_iff.1 h
  unfold ktxtL
  rw [wl_word _ _ (ft_noblank (by omega)), wl_word _ _ (ft_noblank (by omega)), wl_last _ (ft_noblank (by omega))]

/-- Is it the text of the key that is read out of it? -/
def kgoodL (l : List UInt8) : Bool := okKT (rawL (partsL l)) && (ktxtL (rawL (partsL l)) == l)
theorem kgood_txt {t : T3} (h : okKT t = true) : kgoodL (ktxtL t) = true := by
  unfold kgoodL; rw [kraw_txt h, h]; simp
theorem kgood_out {l : List UInt8} (h : kgoodL l = true) : okKT (rawL (partsL l)) = true ∧ ktxtL (rawL (partsL l)) = l := by
  unfold kgoodL at h; simpa using h
/-- What the reference reads. -/
def krefL (l : List UInt8) : Option T3 := match wl l with
  | [x, y, z] => match numK x, numK y, numK z with
    | some a, some b, some c => some (a, b, c)
    | _, _, _ => none
  | _ => none
theorem kref_txt {t : T3} (h : okKT t = true) : krefL (ktxtL t) = some t := by
  obtain ⟨⟨a, a'⟩, ⟨b, b'⟩, c, c'⟩ := okKT_iff.1 h
  unfold krefL
  rw [kwl_txt h]
  simp only [numK_ft a a', numK_ft b b', numK_ft c c']
theorem kref_some {l : List UInt8} {t : T3} (h : krefL l = some t) : okKT t = true ∧ l = ktxtL t := by
  unfold krefL at h
  have hi := inter_wl l
  split at h
  · rename_i x y z e
    split at h
    · rename_i a b c ha hb hc
      cases h
      obtain ⟨a1, a2⟩ := numK_some ha
      obtain ⟨b1, b2⟩ := numK_some hb
      obtain ⟨c1, c2⟩ := numK_some hc
      refine ⟨okKT_iff.2 ⟨a1, b1, c1⟩, ?_⟩
      rw [← hi, e]
      unfold ktxtL
      show x ++ 32 :: (y ++ 32 :: z) = _
      rw [a2, b2, c2]
    · cases h
  · cases h
/-- The program and the reference read alike. -/
theorem kref_good {l : List UInt8} (h : kgoodL l = true) : krefL l = some (rawL (partsL l)) := by
  obtain ⟨a, b⟩ := kgood_out h
  have := kref_txt a
  rwa [b] at this
theorem kref_bad {l : List UInt8} (h : kgoodL l = false) : krefL l = none := by
  cases hr : krefL l with
  | none => rfl
  | some t =>
    obtain ⟨a, b⟩ := kref_some hr
    rw [b, kgood_txt a] at h
    cases h
end Go.Proofs.Ythiijlngoikhkaa
