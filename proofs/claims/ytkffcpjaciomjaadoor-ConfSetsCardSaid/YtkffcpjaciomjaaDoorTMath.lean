/- Triples, plain: texts, words, numbers; no program. -/
import Derived.Lib.Split
import Derived.Lib.AtoiAll
import Derived.Lib.ItoaNum
namespace Go.Proofs.YtkffcpjaciomjaaDoor
open Go.Lib

abbrev T3 := Int × Int × Int
/-- A symbol's number. -/
def okN (n : Int) : Bool := decide (1 ≤ n ∧ n ≤ 4096)
def okT (t : T3) : Bool := okN t.1 && (okN t.2.1 && okN t.2.2)
/-- A triple's text. -/
def txtL (t : T3) : List UInt8 := itoa t.1 ++ 32 :: (itoa t.2.1 ++ 32 :: itoa t.2.2)

theorem okN_iff {n : Int} : okN n = true ↔ 1 ≤ n ∧ n ≤ 4096 := by unfold okN; exact decide_eq_true_iff
theorem okT_iff {t : T3} : okT t = true ↔ (1 ≤ t.1 ∧ t.1 ≤ 4096) ∧ (1 ≤ t.2.1 ∧ t.2.1 ≤ 4096) ∧ (1 ≤ t.2.2 ∧ t.2.2 ≤ 4096) := by
  unfold okT; simp [okN_iff]

/-- A digit's sign. -/
def D (x : Nat) : UInt8 := UInt8.ofNat (48 + x)
theorem D_nat {x : Nat} (h : x < 10) : (D x).toNat = 48 + x := by unfold D; simp; omega
theorem D_of {c : UInt8} (h : 48 ≤ c.toNat) : c = D (c.toNat - 48) := by unfold D; rw [show 48 + (c.toNat - 48) = c.toNat by omega]; simp
theorem dec_small {u : Nat} (h : u < 10) : decDigits u = [D u] := by rw [decDigits, dif_pos h]; rfl
theorem dec_big {u : Nat} (h : ¬ u < 10) : decDigits u = decDigits (u / 10) ++ [D (u % 10)] := by rw [decDigits, dif_neg h]; rfl
theorem dec_snoc {a d : Nat} (ha : 1 ≤ a) (hd : d < 10) : decDigits (a * 10 + d) = decDigits a ++ [D d] := by
  rw [dec_big (by omega), show (a * 10 + d) / 10 = a by omega, show (a * 10 + d) % 10 = d by omega]

/-- Of a symbol the numeral, in its four lengths. -/
theorem dec_cases {n : Nat} (h1 : 1 ≤ n) (h2 : n ≤ 4096) :
    (n < 10 ∧ decDigits n = [D n]) ∨ (10 ≤ n ∧ n < 100 ∧ decDigits n = [D (n / 10), D (n % 10)]) ∨
    (100 ≤ n ∧ n < 1000 ∧ decDigits n = [D (n / 10 / 10), D (n / 10 % 10), D (n % 10)]) ∨
    (1000 ≤ n ∧ decDigits n = [D (n / 10 / 10 / 10), D (n / 10 / 10 % 10), D (n / 10 % 10), D (n % 10)]) := by
  by_cases a : n < 10
  · exact .inl ⟨a, dec_small a⟩
  by_cases b : n < 100
  · exact .inr (.inl ⟨by omega, b, by rw [dec_big a, dec_small (by omega)]; rfl⟩)
  by_cases c : n < 1000
  · exact .inr (.inr (.inl ⟨by omega, c, by rw [dec_big a, dec_big (by omega), dec_small (by omega)]; rfl⟩))
  · exact .inr (.inr (.inr ⟨by omega, by rw [dec_big a, dec_big (by omega), dec_big (by omega), dec_small (by omega)]; rfl⟩))

theorem dec_digit : ∀ (u : Nat), ∀ c ∈ decDigits u, 48 ≤ c.toNat ∧ c.toNat ≤ 57 := by
  intro u
  induction u using Nat.strongRecOn with
  | _ u ih =>
    intro c hc
    by_cases h : u < 10
    · rw [dec_small h, List.mem_singleton] at hc
      rw [hc, D_nat h]; omega
    · rw [dec_big h, List.mem_append, List.mem_singleton] at hc
      rcases hc with hc | hc
      · exact ih (u / 10) (by omega) c hc
      · rw [hc, D_nat (by omega)]; omega
theorem itoa_dec {n : Int} (h : 0 ≤ n) : itoa n = decDigits n.toNat := by unfold itoa; rw [if_neg (by omega)]
theorem itoa_noblank {n : Int} (h : 0 ≤ n) : ∀ c ∈ itoa n, c ≠ 32 := by
  intro c hc e
  rw [itoa_dec h] at hc
  have := dec_digit _ c hc
  rw [e] at this
  exact absurd this.1 (by decide)

/-! ### Words -/
/-- What stands between blanks. -/
def wl : List UInt8 → List (List UInt8)
  | [] => [[]]
  | c :: r => if c = 32 then [] :: wl r else match wl r with
    | [] => [[c]]
    | h :: t => (c :: h) :: t
theorem wl_cons (c : UInt8) (r : List UInt8) (h : c ≠ 32) {x : List UInt8} {t : List (List UInt8)} (e : wl r = x :: t) : wl (c :: r) = (c :: x) :: t := by
  unfold wl; rw [if_neg h, e]
theorem wl_ne : ∀ l, wl l ≠ []
  | [], h => by cases h
  | c :: r, h => by
    unfold wl at h
    by_cases hc : c = 32
    · rw [if_pos hc] at h; cases h
    · rw [if_neg hc] at h
      cases hr : wl r with
      | nil => exact wl_ne r hr
      | cons x t => rw [hr] at h; cases h
theorem wl_word : ∀ (x y : List UInt8), (∀ c ∈ x, c ≠ 32) → wl (x ++ 32 :: y) = x :: wl y
  | [], y, _ => by show wl (32 :: y) = _; rw [wl, if_pos rfl]
  | c :: r, y, h => wl_cons c (r ++ 32 :: y) (h c (List.mem_cons_self ..)) (wl_word r y (fun d hd => h d (List.mem_cons_of_mem _ hd)))
theorem wl_last : ∀ (x : List UInt8), (∀ c ∈ x, c ≠ 32) → wl x = [x]
  | [], _ => rfl
  | c :: r, h => wl_cons c r (h c (List.mem_cons_self ..)) (wl_last r (fun d hd => h d (List.mem_cons_of_mem _ hd)))
/-- Words with blanks between. -/
def inter : List (List UInt8) → List UInt8
  | [] => []
  | [x] => x
  | x :: y :: t => x ++ 32 :: inter (y :: t)
theorem inter_wl : ∀ l, inter (wl l) = l
  | [] => rfl
  | c :: r => by
    have ih := inter_wl r
    cases hr : wl r with
    | nil => exact absurd hr (wl_ne r)
    | cons x t =>
      rw [hr] at ih
      by_cases hc : c = 32
      · rw [wl, if_pos hc, hr]; show [] ++ 32 :: inter (x :: t) = _; rw [ih, hc]; rfl
      · rw [wl_cons c r hc hr]
        cases t with
        | nil => show c :: x = _; rw [← ih]; rfl
        | cons y t => show (c :: x) ++ 32 :: inter (y :: t) = _; rw [← ih]; rfl
/-- The word that stands open, put ahead of what comes. -/
def glue (x : List UInt8) : List (List UInt8) → List (List UInt8)
  | [] => [x]
  | h :: t => (x ++ h) :: t
theorem glue_nil (l : List UInt8) : glue [] (wl l) = wl l := by
  cases h : wl l with
  | nil => exact absurd h (wl_ne l)
  | cons x t => rfl
theorem glue_blank (x r : List UInt8) : glue x (wl (32 :: r)) = x :: wl r := by
  rw [wl, if_pos rfl]; show (x ++ []) :: wl r = _; rw [List.append_nil]
theorem glue_sign (x r : List UInt8) (c : UInt8) (h : c ≠ 32) : glue x (wl (c :: r)) = glue (x ++ [c]) (wl r) := by
  cases hr : wl r with
  | nil => exact absurd hr (wl_ne r)
  | cons y t => rw [wl_cons c r h hr]; show (x ++ c :: y) :: t = (x ++ [c] ++ y) :: t; simp
theorem glue_end (x : List UInt8) : glue x (wl []) = [x] := by show [x ++ []] = _; rw [List.append_nil]

/-! ### The reference's numbers -/
def numF : Nat → List UInt8 → Option Nat
  | a, [] => some a
  | a, c :: r => if c.toNat < 48 ∨ 57 < c.toNat then none else numF (a * 10 + (c.toNat - 48)) r
def numL (l : List UInt8) : Int :=
  if l = [] ∨ 9 < l.length ∨ (1 < l.length ∧ l.head? = some 48) then -1 else match numF 0 l with
    | some n => n
    | none => -1
theorem numF_bad (a : Nat) (c : UInt8) (r : List UInt8) (h : c.toNat < 48 ∨ 57 < c.toNat) : numF a (c :: r) = none := by rw [numF, if_pos h]
theorem numF_good (a : Nat) (c : UInt8) (r : List UInt8) (h : ¬ (c.toNat < 48 ∨ 57 < c.toNat)) : numF a (c :: r) = numF (a * 10 + (c.toNat - 48)) r := by rw [numF, if_neg h]
theorem numF_dec : ∀ (l : List UInt8) (a n : Nat), 1 ≤ a → numF a l = some n → decDigits n = decDigits a ++ l
  | [], a, n, _, h => by rw [numF] at h; cases h; simp
  | c :: r, a, n, ha, h => by
    rw [numF] at h
    by_cases hc : c.toNat < 48 ∨ 57 < c.toNat
    · rw [if_pos hc] at h; cases h
    · rw [if_neg hc] at h
      rw [numF_dec r _ n (by omega) h, dec_snoc ha (by omega), ← D_of (by omega)]; simp
theorem numL_of {l : List UInt8} {n : Int} (h : numL l = n) (h1 : 1 ≤ n) : l = itoa n := by
  unfold numL at h
  by_cases hb : l = [] ∨ 9 < l.length ∨ (1 < l.length ∧ l.head? = some 48)
  · rw [if_pos hb] at h; omega
  · rw [if_neg hb] at h
    cases l with
    | nil => exact absurd (.inl rfl) hb
    | cons c r =>
      cases hn : numF 0 (c :: r) with
      | none => rw [hn] at h; simp only at h; omega
      | some m =>
        rw [hn] at h
        simp only at h
        rw [itoa_dec (by omega), show n.toNat = m by omega]
        rw [numF] at hn
        by_cases hc : c.toNat < 48 ∨ 57 < c.toNat
        · rw [if_pos hc] at hn; cases hn
        · rw [if_neg hc, Nat.zero_mul, Nat.zero_add] at hn
          by_cases h0 : c.toNat = 48
          · have hr : r = [] := by
              cases r with
              | nil => rfl
              | cons d r => exact absurd (.inr (.inr ⟨by simp, by simp; exact UInt8.toNat_inj.1 h0⟩)) hb
            rw [hr, h0, numF] at hn
            cases hn
            omega
          · rw [numF_dec r _ m (by omega) hn, dec_small (by omega), ← D_of (by omega)]; rfl
theorem numL_itoa {n : Int} (h1 : 1 ≤ n) (h2 : n ≤ 4096) : numL (itoa n) = n := by
  obtain ⟨m, rfl⟩ : ∃ m : Nat, n = m := ⟨n.toNat, by omega⟩
  rw [itoa_dec (by omega), Int.toNat_natCast]
  have key : ∀ a, a < 10 → ¬ ((D a).toNat < 48 ∨ 57 < (D a).toNat) := fun a ha => by rw [D_nat ha]; omega
  have ne : ∀ a, 1 ≤ a → a < 10 → ¬ D a = 48 := fun a h0 ha e => by have := congrArg UInt8.toNat e; rw [D_nat ha] at this; simp at this; omega
  rcases dec_cases (n := m) (by omega) (by omega) with ⟨a, e⟩ | ⟨a, b, e⟩ | ⟨a, b, e⟩ | ⟨a, e⟩
  all_goals
    rw [e]
    unfold numL
    rw [if_neg (by simp; try exact ne _ (by omega) (by omega))]
    simp only [numF]
    repeat rw [if_neg (key _ (by omega))]
    repeat rw [D_nat (by omega)]
    simp only
    omega

/-! ### The program's numbers -/
/-- What Atoi hands back beside whatever error. -/
def fld (l : List UInt8) : Int := match atoiAll l with
  | .ok v => v
  | .range => atoiSat l
  | _ => 0
theorem fld_itoa {n : Int} (h1 : 1 ≤ n) (h2 : n ≤ 4096) : fld (itoa n) = n := by
  obtain ⟨m, rfl⟩ : ∃ m : Nat, n = m := ⟨n.toNat, by omega⟩
  rw [itoa_dec (by omega), Int.toNat_natCast]
  have ok : ∀ a, a < 10 → 48 ≤ (D a).toNat ∧ (D a).toNat ≤ 57 := fun a ha => by rw [D_nat ha]; omega
  have pos : ∀ a, a < 10 → ¬ ((D a).toNat = 43 ∨ (D a).toNat = 45) := fun a ha => by rw [D_nat ha]; omega
  have neg : ∀ a, a < 10 → ¬ (D a).toNat = 45 := fun a ha => by rw [D_nat ha]; omega
  have key : ∀ l : List UInt8, parseUint10 0 l = .ok m → l ≠ [] → parseMag l = .ok m := fun l e hl => by unfold parseMag; rw [if_neg hl]; exact e
  rcases dec_cases (n := m) (by omega) (by omega) with ⟨a, e⟩ | ⟨a, b, e⟩ | ⟨a, b, e⟩ | ⟨a, e⟩
  all_goals
    rw [e]
    unfold fld atoiAll
    simp only
    rw [if_neg (pos _ (by omega)), key _ (by
      simp only [parseUint10]
      repeat rw [if_pos (ok _ (by omega)), D_nat (by omega), if_neg (by omega), if_neg (by omega)]
      congr 1
      omega) (by simp)]
    simp only
    rw [if_neg (by omega), if_neg (fun h => absurd h.1 (neg _ (by omega))), if_neg (neg _ (by omega))]

theorem prefix_one (x c : UInt8) (r : List UInt8) : List.isPrefixOf [x] (c :: r) = (x == c) := by simp [List.isPrefixOf]
theorem index_blank : ∀ (x y : List UInt8), (∀ c ∈ x, c ≠ 32) → index (x ++ 32 :: y) [32] = x.length
  | [], y, _ => by show index (32 :: y) [32] = _; unfold index; rw [prefix_one, if_pos (by decide)]; rfl
  | c :: r, y, h => by
    have hc := h c (List.mem_cons_self ..)
    have ih := index_blank r y (fun d hd => h d (List.mem_cons_of_mem _ hd))
    show index (c :: (r ++ 32 :: y)) [32] = _
    unfold index
    rw [prefix_one, if_neg (by simpa using fun e => hc e.symm), ih, if_neg (by simp <;> omega)]
    simp
theorem splitK_word (k : Nat) (x y : List UInt8) (h : ∀ c ∈ x, c ≠ 32) : splitK [32] 0 (k + 1) (x ++ 32 :: y) = x :: splitK [32] 0 k y := by
  unfold splitK
  rw [index_blank x y h, if_neg (by simp <;> omega)]
  simp only [Int.toNat_natCast, Nat.add_zero, List.length_singleton]
  rw [List.take_left' rfl, show x ++ 32 :: y = (x ++ [32]) ++ y by simp, List.drop_left' (by simp)]
  cases k <;> rfl

/-- The three numbers of a text's parts; 0 where there is none. -/
def rawL (l : List (List UInt8)) : T3 := (match l[0]? with | some x => fld x | none => 0, match l[1]? with | some x => fld x | none => 0, match l[2]? with | some x => fld x | none => 0)
def partsL (l : List UInt8) : List (List UInt8) := splitK [32] 0 (min 3 (l.length + 1) - 1) l
theorem txtL_len (t : T3) : 2 ≤ (txtL t).length := by unfold txtL; simp; omega
theorem parts_txt {t : T3} (h : okT t = true) : partsL (txtL t) = [itoa t.1, itoa t.2.1, itoa t.2.2] := by
  obtain ⟨⟨a, _⟩, ⟨b, _⟩, c, _⟩ := okT_iff.1 h
  have hl := txtL_len t
  unfold partsL
  rw [show min 3 ((txtL t).length + 1) - 1 = 1 + 1 by omega]
  unfold txtL
  rw [splitK_word 1 _ _ (itoa_noblank (by omega)), splitK_word 0 _ _ (itoa_noblank (by omega))]
  rfl
theorem raw_txt {t : T3} (h : okT t = true) : rawL (partsL (txtL t)) = t := by
  obtain ⟨⟨a, a'⟩, ⟨b, b'⟩, c, c'⟩ := okT_iff.1 h
  rw [parts_txt h]
  unfold rawL
  simp [fld_itoa a a', fld_itoa b b', fld_itoa c c']
theorem wl_txt {t : T3} (h : okT t = true) : wl (txtL t) = [itoa t.1, itoa t.2.1, itoa t.2.2] := by
  obtain ⟨⟨a, _⟩, ⟨b, _⟩, c, _⟩ := okT_iff.1 h
  unfold txtL
  rw [wl_word _ _ (itoa_noblank (by omega)), wl_word _ _ (itoa_noblank (by omega)), wl_last _ (itoa_noblank (by omega))]

/-- Is it the text of the triple that is read out of it? -/
def goodL (l : List UInt8) : Bool := okT (rawL (partsL l)) && (txtL (rawL (partsL l)) == l)
theorem good_txt {t : T3} (h : okT t = true) : goodL (txtL t) = true := by
  unfold goodL; rw [raw_txt h, h]; simp
theorem good_out {l : List UInt8} (h : goodL l = true) : okT (rawL (partsL l)) = true ∧ txtL (rawL (partsL l)) = l := by
  unfold goodL at h; simpa using h
/-- What the reference reads. -/
def refL (l : List UInt8) : Option T3 := match wl l with
  | [x, y, z] => if okT (numL x, numL y, numL z) then some (numL x, numL y, numL z) else none
  | _ => none
theorem ref_txt {t : T3} (h : okT t = true) : refL (txtL t) = some t := by
  obtain ⟨⟨a, a'⟩, ⟨b, b'⟩, c, c'⟩ := okT_iff.1 h
  unfold refL
  rw [wl_txt h]
  simp only [numL_itoa a a', numL_itoa b b', numL_itoa c c']
  exact if_pos h
theorem ref_some {l : List UInt8} {t : T3} (h : refL l = some t) : okT t = true ∧ l = txtL t := by
  unfold refL at h
  have hi := inter_wl l
  split at h
  · rename_i x y z e
    split at h
    · rename_i ho
      cases h
      refine ⟨ho, ?_⟩
      obtain ⟨⟨a, _⟩, ⟨b, _⟩, c, _⟩ := okT_iff.1 ho
      rw [← hi, e]
      unfold txtL
      show x ++ 32 :: (y ++ 32 :: z) = _
      rw [← numL_of (l := x) rfl a, ← numL_of (l := y) rfl b, ← numL_of (l := z) rfl c]
    · cases h
  · cases h
/-- The program and the reference read alike. -/
theorem ref_good {l : List UInt8} (h : goodL l = true) : refL l = some (rawL (partsL l)) := by
  obtain ⟨a, b⟩ := good_out h
  have := ref_txt a
  rwa [b] at this
theorem ref_bad {l : List UInt8} (h : goodL l = false) : refL l = none := by
  cases hr : refL l with
  | none => rfl
  | some t =>
    obtain ⟨a, b⟩ := ref_some hr
    rw [b, good_txt a] at h
    cases h
theorem good_head {l : List UInt8} (h : goodL l = true) : l.head? ≠ some 48 := by
  obtain ⟨a, b⟩ := good_out h
  obtain ⟨⟨a, a'⟩, _⟩ := okT_iff.1 a
  intro e
  rw [← b] at e
  unfold txtL at e
  generalize (rawL (partsL l)).1 = n at a a' e
  obtain ⟨m, rfl⟩ : ∃ m : Nat, n = m := ⟨n.toNat, by omega⟩
  rw [itoa_dec (by omega), Int.toNat_natCast] at e
  have ne : ∀ a, 1 ≤ a → a < 10 → ¬ D a = 48 := fun a h0 ha e => by have := congrArg UInt8.toNat e; rw [D_nat ha] at this; simp at this; omega
  rcases dec_cases (n := m) (by omega) (by omega) with ⟨a, q⟩ | ⟨a, b, q⟩ | ⟨a, b, q⟩ | ⟨a, q⟩
  all_goals
    rw [q] at e
    simp at e
    exact ne _ (by omega) (by omega) e

/-! ### The order -/
def cmpT (a b : T3) : Int := if a.1 < b.1 then -1 else if b.1 < a.1 then 1 else if a.2.1 < b.2.1 then -1 else if b.2.1 < a.2.1 then 1 else if a.2.2 < b.2.2 then -1 else if b.2.2 < a.2.2 then 1 else 0
def lessT (a b : T3) : Bool := decide (a.1 < b.1 ∨ (a.1 = b.1 ∧ (a.2.1 < b.2.1 ∨ (a.2.1 = b.2.1 ∧ a.2.2 < b.2.2))))
theorem lessT_iff {a b : T3} : lessT a b = true ↔ (a.1 < b.1 ∨ (a.1 = b.1 ∧ (a.2.1 < b.2.1 ∨ (a.2.1 = b.2.1 ∧ a.2.2 < b.2.2)))) := by unfold lessT; exact decide_eq_true_iff
theorem cmpT_cases (a b : T3) : (cmpT a b = -1 ∧ lessT a b = true) ∨ (cmpT a b = 0 ∧ a = b) ∨ (cmpT a b = 1 ∧ lessT b a = true) := by
  rw [lessT_iff, lessT_iff]
  obtain ⟨a1, a2, a3⟩ := a
  obtain ⟨b1, b2, b3⟩ := b
  unfold cmpT
  simp only [Prod.mk.injEq]
  repeat' split
  all_goals omega
theorem less_irrefl (a : T3) : lessT a a = false := by
  cases h : lessT a a with
  | false => rfl
  | true => rw [lessT_iff] at h; omega
theorem less_asymm {a b : T3} (h : lessT a b = true) : lessT b a = false := by
  cases h' : lessT b a with
  | false => rfl
  | true => rw [lessT_iff] at h h'; omega
theorem less_trans {a b c : T3} (h : lessT a b = true) (h' : lessT b c = true) : lessT a c = true := by rw [lessT_iff] at *; omega
theorem cmp_neg (a b : T3) : decide (cmpT a b < 0) = lessT a b := by
  rcases cmpT_cases a b with ⟨h, l⟩ | ⟨h, rfl⟩ | ⟨h, l⟩
  · rw [h, l]; rfl
  · rw [h, less_irrefl]; rfl
  · rw [h, less_asymm l]; rfl
end Go.Proofs.YtkffcpjaciomjaaDoor
