/- Layer trie: which steps are alike, which chains a chain has, in which order; chains with their numbers: what is found, what is there, what comes and goes. No program. – Layer trie: chains with their numbers: what is found, what is there, what comes and goes; the shape of a node. No program. – Layer trie: what makes a node another one (its shape), what is kept of a node; one more, one less. No program. – Layer trie: one chain less. No program. -/
import Derived.Test.YtljefbfjehblpaaGreatA5
import Derived.Test.YtljefbfjehblpaaGreatA4
namespace Go.Proofs.YtljefbfjehblpaaGreat
section
section
open Go.RowKit
set_option maxRecDepth 100000

theorem SH.same_iff {a b : SH} : a.same b = true ↔ a = b := by
  obtain ⟨k, k0, k1, k2, ts⟩ := a
  obtain ⟨j, j0, j1, j2, us⟩ := b
  unfold SH.same
  simp only [Bool.and_eq_true, decide_eq_true_iff, SH.mk.injEq]
  exact ⟨fun ⟨h1, ⟨h2, h3, h4⟩, h5⟩ => ⟨h1, h2, h3, h4, h5⟩, fun ⟨h1, h2, h3, h4, h5⟩ => ⟨h1, ⟨h2, h3, h4⟩, h5⟩⟩
theorem same_iff : (∀ s t : St, s.same t = true ↔ s = t) ∧ ∀ l l' : List St, sameSL l l' = true ↔ l = l' := by
  refine St.ind2 (fun hd subs ih t => ?_) (fun l' => ?_) (fun a l ha hl l' => ?_)
  · obtain ⟨hd', subs'⟩ := t
    rw [sameS_mk, Bool.and_eq_true, SH.same_iff, ih, St.mk.injEq]
  · cases l' <;> simp [sameSL]
  · cases l' with
    | nil => simp [sameSL]
    | cons b q => rw [sameSL, Bool.and_eq_true, ha, hl, List.cons.injEq]
instance : DecidableEq St := fun a b => decidable_of_iff _ (same_iff.1 a b)
theorem sameSL_decide (l l' : List St) : sameSL l l' = decide (l = l') := by
  rw [Bool.eq_iff_iff, same_iff.2, decide_eq_true_iff]

/-! ### What a right step is -/
def Gd (s : St) : Prop := ∃ d, s.pAt d = true
theorem tsOK_len : ∀ {ts : List Tst} {last : Int}, tsOK last ts = true → -1 ≤ last → (ts.length : Int) ≤ 2 - last ∨ ts = []
  | [], _, _, _ => .inr rfl
  | t :: r, last, h, hl => by
    rw [tsOK_cons] at h
    simp only [Bool.and_eq_true, decide_eq_true_iff] at h
    obtain ⟨⟨h1, h2⟩, h3⟩ := h
    have h4 : 0 ≤ t.1 ∧ t.1 ≤ 2 := by unfold tOK at h2; exact (of_decide_eq_true h2).1
    left
    rcases tsOK_len h3 (by omega) with e | e
    · rw [List.length_cons]; omega
    · subst e; simp; omega
theorem tsOK_all : ∀ {ts : List Tst} {last : Int}, tsOK last ts = true → ∀ t ∈ ts, tOK t = true
  | [], _, _, _, h => by cases h
  | t :: r, last, h, x, hx => by
    rw [tsOK_cons] at h
    simp only [Bool.and_eq_true] at h
    rcases List.mem_cons.1 hx with rfl | hx
    · exact h.1.2
    · exact tsOK_all h.2 x hx
/-- What a step says by itself may be. -/
structure HdOK (h : SH) : Prop where
  k : h.k = 1 ∨ h.k = 2 ∨ h.k = 3
  k0 : 0 ≤ h.k0 ∧ h.k0 ≤ 4096
  k1 : 0 ≤ h.k1 ∧ h.k1 ≤ 4096
  k2 : 0 ≤ h.k2 ∧ h.k2 ≤ 4096
  tl : h.ts.length ≤ 3
  ts : ∀ t ∈ h.ts, (0 ≤ t.1 ∧ t.1 ≤ 2) ∧ (-1 ≤ t.2.1 ∧ t.2.1 ≤ 15) ∧ 0 ≤ t.2.2 ∧ t.2.2 ≤ 2
theorem Gd.hd {h : SH} {l : List St} (hg : Gd (.mk h l)) : HdOK h ∧ (h.k ≠ 3 → l = []) ∧ (h.k = 3 → l ≠ [] ∧ ∀ x ∈ l, Gd x) := by
  obtain ⟨d, hg⟩ := hg
  rw [St.pAt] at hg
  split at hg
  · cases hg
  · split at hg
    · rename_i h3
      simp only [Bool.and_eq_true, decide_eq_true_iff] at hg
      obtain ⟨hz, ht, hl, hp⟩ := hg
      unfold z3 at hz
      obtain ⟨z0, z1, z2⟩ := of_decide_eq_true hz
      have ht' := List.length_eq_zero_iff.1 ht
      refine ⟨⟨.inr (.inr h3), by omega, by omega, by omega, by omega, fun t hm => ?_⟩, fun e => absurd h3 e, fun _ => ⟨fun e => hl.1 (by rw [e]; rfl), fun x hx => ⟨d + 1, ?_⟩⟩⟩
      · rw [ht'] at hm; cases hm
      · rw [pLAt_all] at hp; exact List.all_eq_true.1 hp x hx
    · split at hg
      · rename_i h3 hk
        simp only [Bool.and_eq_true, decide_eq_true_iff] at hg
        obtain ⟨hz, hl, ht⟩ := hg
        have hl' := List.length_eq_zero_iff.1 hl
        unfold okK3 okK at hz
        simp only [Bool.and_eq_true, decide_eq_true_iff] at hz
        refine ⟨⟨by omega, hz.1, hz.2.1, hz.2.2, ?_, fun t hm => ?_⟩, fun _ => hl', fun e => absurd e h3⟩
        · rcases tsOK_len ht (by omega) with e | e
          · omega
          · rw [e]; simp
        · have := tsOK_all ht t hm
          unfold tOK at this
          have := of_decide_eq_true this
          exact ⟨this.1, this.2.1, this.2.2.1⟩
      · cases hg
theorem pAt_up : (∀ (s : St) (d e : Int), e ≤ d → s.pAt d = true → s.pAt e = true) ∧ ∀ (l : List St) (d e : Int), e ≤ d → pLAt l d = true → pLAt l e = true := by
  refine St.ind2 (fun hd subs ih d e hde h => ?_) (fun d e _ _ => rfl) (fun a l ha hl d e hde h => ?_)
  · rw [St.pAt] at h ⊢
    split at h
    · cases h
    · rename_i h3
      rw [if_neg (by omega)]
      split at h
      · rename_i hk
        rw [if_pos hk]
        simp only [Bool.and_eq_true] at h ⊢
        exact ⟨h.1, h.2.1, h.2.2.1, ih (d + 1) (e + 1) (by omega) h.2.2.2⟩
      · rename_i hk
        rw [if_neg hk]
        exact h
  · simp only [pLAt, Bool.and_eq_true] at h ⊢
    exact ⟨ha d e hde h.1, hl d e hde h.2⟩
theorem right_gd {s : St} (h : s.right = true) : Gd s := by
  unfold St.right at h
  simp only [Bool.and_eq_true] at h
  exact ⟨1, h.1⟩

/-! ### A chain's own chains -/
theorem chSL_one (s : St) (ab : List St) : chSL [s] ab = s.chs ab := by rw [chSL_cons, chSL_nil, List.append_nil]
theorem chSL_snoc (l ab : List St) (s : St) : chSL (l ++ [s]) ab = chSL l ab ++ s.chs (ab ++ l) := by rw [chSL_append, chSL_one]
theorem chs_end (s : St) (ab : List St) : ∃ r, s.chs ab = r ++ [ab ++ [s]] := by
  obtain ⟨h, l⟩ := s
  exact ⟨_, chsS_mk h l ab⟩
/-- All steps end a chain, the last one the last. -/
theorem chSL_end {l : List St} (hl : l ≠ []) (ab : List St) : ∃ r, chSL l ab = r ++ [ab ++ l] := by
  obtain ⟨l', s, rfl⟩ : ∃ l' s, l = l' ++ [s] := ⟨l.dropLast, l.getLast hl, (List.dropLast_concat_getLast hl).symm⟩
  obtain ⟨r, hr⟩ := chs_end s (ab ++ l')
  exact ⟨chSL l' ab ++ r, by rw [chSL_snoc, hr, List.append_assoc, List.append_assoc]⟩
theorem chSL_end_mem {l : List St} (hl : l ≠ []) (ab : List St) : ab ++ l ∈ chSL l ab := by
  obtain ⟨r, hr⟩ := chSL_end hl ab
  rw [hr]; simp
/-- The chains of one of a list's chains are the list's first ones. -/
theorem chSL_pre : (∀ (s : St) (ab x : List St), x ∈ s.chs ab → chSL x [] <+: chSL ab [] ++ s.chs ab) ∧ ∀ l ab x : List St, x ∈ chSL l ab → chSL x [] <+: chSL ab [] ++ chSL l ab := by
  refine St.ind2 (fun hd subs ih ab x hx => ?_) (fun ab x hx => by simp [chSL_nil] at hx) (fun a l ha hl ab x hx => ?_)
  · rw [chsS_mk] at hx
    rcases List.mem_append.1 hx with hx | hx
    · split at hx
      · rename_i hk
        have h1 := ih ab x hx
        rw [chsS_mk, if_pos hk, ← List.append_assoc]
        exact h1.trans (List.prefix_append _ _)
      · cases hx
    · rw [List.mem_singleton] at hx
      subst hx
      rw [chSL_snoc, List.nil_append]
      exact List.prefix_refl _
  · rw [chSL_cons] at hx ⊢
    rcases List.mem_append.1 hx with hx | hx
    · have h1 := ha ab x hx
      rw [← List.append_assoc]
      exact h1.trans (List.prefix_append _ _)
    · have h1 := hl (ab ++ [a]) x hx
      rw [chSL_snoc, List.nil_append, List.append_assoc] at h1
      exact h1
theorem chain_pre {l x : List St} (h : x ∈ chSL l []) : chSL x [] <+: chSL l [] := by simpa [chSL_nil] using chSL_pre.2 l [] x h
theorem chain_sub {l x y : List St} (h : x ∈ chSL l []) (hy : y ∈ chSL x []) : y ∈ chSL l [] := (chain_pre h).subset hy
/-- They grow. -/
theorem chSL_grow : (∀ (s : St) (ab : List St), (s.chs ab).Pairwise (fun x y => cntL x < cntL y) ∧ ∀ x ∈ s.chs ab, cntL ab < cntL x ∧ cntL x ≤ cntL ab + s.cnt) ∧
    ∀ (l ab : List St), (chSL l ab).Pairwise (fun x y => cntL x < cntL y) ∧ ∀ x ∈ chSL l ab, cntL ab < cntL x ∧ cntL x ≤ cntL ab + cntL l := by
  have one : ∀ (ab : List St) (s : St), cntL (ab ++ [s]) = cntL ab + s.cnt := fun ab s => by rw [cntL_append]; simp [cntL]
  refine St.ind2 (fun hd subs ih ab => ?_) (fun ab => by simp [chSL_nil]) (fun a l ha hl ab => ?_)
  · obtain ⟨h1, h2⟩ := ih ab
    have hc : (St.mk hd subs).cnt = 1 + cntL subs := by rw [St.cnt]
    rw [chsS_mk]
    split
    · refine ⟨List.pairwise_append.2 ⟨h1, List.pairwise_singleton _ _, fun x hx y hy => ?_⟩, fun x hx => ?_⟩
      · rw [List.mem_singleton.1 hy, one]
        have := (h2 x hx).2
        omega
      · rcases List.mem_append.1 hx with hx | hx
        · have := h2 x hx; omega
        · rw [List.mem_singleton.1 hx, one]; omega
    · refine ⟨by simp, fun x hx => ?_⟩
      rw [List.nil_append, List.mem_singleton] at hx
      rw [hx, one]; omega
  · obtain ⟨h1, h2⟩ := ha ab
    obtain ⟨h3, h4⟩ := hl (ab ++ [a])
    rw [one] at h4
    have := cnt_pos a
    rw [chSL_cons, cntL]
    refine ⟨List.pairwise_append.2 ⟨h1, h3, fun x hx y hy => ?_⟩, fun x hx => ?_⟩
    · have := (h2 x hx).2
      have := (h4 y hy).1
      omega
    · rcases List.mem_append.1 hx with hx | hx
      · have := h2 x hx; omega
      · have := h4 x hx; omega
theorem chSL_nodup (l ab : List St) : (chSL l ab).Nodup := (chSL_grow.2 l ab).1.imp (fun {a b} h (e : a = b) => by rw [e] at h; omega)
theorem chain_ne {l x : List St} (h : x ∈ chSL l []) : x ≠ [] := fun e => by
  have := ((chSL_grow.2 l []).2 x h).1
  rw [e] at this; omega
theorem chain_cnt {l x : List St} (h : x ∈ chSL l []) : cntL x ≤ cntL l := by
  have := ((chSL_grow.2 l []).2 x h).2
  simpa [cntL] using this
/-- What a chain's last step asks for ahead of it. -/
theorem chain_parent {d : List St} (s : St) (hd : d ≠ []) : d ∈ chSL (d ++ [s]) [] := by
  rw [chSL_snoc]
  exact List.mem_append_left _ (by simpa using chSL_end_mem hd [])
theorem chain_inner {d subs : List St} {h : SH} (hk : h.k = 3) (hs : subs ≠ []) : d ++ subs ∈ chSL (d ++ [St.mk h subs]) [] := by
  rw [chSL_snoc, chsS_mk, if_pos hk, List.nil_append]
  exact List.mem_append_right _ (List.mem_append_left _ (chSL_end_mem hs d))
theorem chain_self {x : List St} (h : x ≠ []) : x ∈ chSL x [] := by simpa using chSL_end_mem h []
/-- Right steps: so are those of all chains. -/
theorem chSL_gd : (∀ (s : St) (ab : List St), Gd s → (∀ x ∈ ab, Gd x) → ∀ c ∈ s.chs ab, ∀ x ∈ c, Gd x) ∧ ∀ (l ab : List St), (∀ x ∈ l, Gd x) → (∀ x ∈ ab, Gd x) → ∀ c ∈ chSL l ab, ∀ x ∈ c, Gd x := by
  refine St.ind2 (fun hd subs ih ab hg hab c hc x hx => ?_) (fun ab _ _ c hc => by simp [chSL_nil] at hc) (fun a l ha hl ab hg hab c hc x hx => ?_)
  · rw [chsS_mk] at hc
    rcases List.mem_append.1 hc with hc | hc
    · split at hc
      · rename_i hk
        exact ih ab (hg.hd.2.2 hk).2 hab c hc x hx
      · cases hc
    · rw [List.mem_singleton] at hc
      subst hc
      rcases List.mem_append.1 hx with hx | hx
      · exact hab x hx
      · rw [List.mem_singleton.1 hx]; exact hg
  · rw [chSL_cons] at hc
    have h1 := hg a List.mem_cons_self
    rcases List.mem_append.1 hc with hc | hc
    · exact ha ab h1 hab c hc x hx
    · refine hl (ab ++ [a]) (fun y hy => hg y (List.mem_cons_of_mem _ hy)) (fun y hy => ?_) c hc x hx
      rcases List.mem_append.1 hy with hy | hy
      · exact hab y hy
      · rw [List.mem_singleton.1 hy]; exact h1
theorem chain_gd {l c : List St} (hg : ∀ x ∈ l, Gd x) (h : c ∈ chSL l []) : ∀ x ∈ c, Gd x := chSL_gd.2 l [] hg (by simp) c h
/-- How many chains right steps have. -/
theorem chSL_count : (∀ (s : St) (ab : List St), Gd s → (s.chs ab).length = s.cnt) ∧ ∀ (l ab : List St), (∀ x ∈ l, Gd x) → (chSL l ab).length = cntL l := by
  refine St.ind2 (fun hd subs ih ab hg => ?_) (fun ab _ => by simp [chSL_nil, cntL]) (fun a l ha hl ab hg => ?_)
  · rw [chsS_mk, List.length_append, St.cnt]
    split
    · rename_i hk
      rw [ih ab (hg.hd.2.2 hk).2]; simp; omega
    · rename_i hk
      rw [hg.hd.2.1 hk]; simp [cntL]
  · rw [chSL_cons, List.length_append, cntL, ha ab (hg a List.mem_cons_self), hl _ (fun y hy => hg y (List.mem_cons_of_mem _ hy))]
end
end
section
section
open Go.RowKit
set_option maxRecDepth 100000

/-- Chains that were ever there, and whether each is: the first one's number is 2. -/
abbrev En := List (List St × Bool)
def locE (c : List St) : En → Nat → Nat
  | [], _ => 0
  | (d, a) :: r, n => if a = true ∧ d = c then n else locE c r (n + 1)
/-- A chain's number; 0: there is none. -/
def fnd (es : En) (c : List St) : Nat := if c = [] then 1 else locE c es 2
/-- A number's chain. -/
def ent (es : En) (n : Nat) : Option (List St) := if n = 0 then none else if n = 1 then some [] else match es[n - 2]? with
  | some (c, true) => some c
  | _ => none
structure EsOK (es : En) : Prop where
  ne : ∀ (i : Nat) c, es[i]? = some (c, true) → c ≠ []
  dis : ∀ (i j : Nat) c, es[i]? = some (c, true) → es[j]? = some (c, true) → i = j
  low : ∀ (i : Nat) c, es[i]? = some (c, true) → ∀ x ∈ chSL c [], ∃ j, j ≤ i ∧ es[j]? = some (x, true)
  good : ∀ (i : Nat) c, es[i]? = some (c, true) → ∀ s ∈ c, Gd s
theorem EsOK.nil : EsOK [] := ⟨fun i c h => by simp at h, fun i j c h => by simp at h, fun i c h => by simp at h, fun i c h => by simp at h⟩
theorem locE_zero {c : List St} : ∀ {es : En} {n : Nat}, 0 < n → (locE c es n = 0 ↔ ∀ (i : Nat), es[i]? ≠ some (c, true))
  | [], n, _ => by simp [locE]
  | (d, a) :: r, n, hn => by
    rw [locE]
    split
    · rename_i h
      exact ⟨fun e => by omega, fun e => absurd (by simp [h.1, h.2]) (e 0)⟩
    · rename_i h
      rw [locE_zero (by omega)]
      refine ⟨fun e i => ?_, fun e i => e (i + 1)⟩
      cases i with
      | zero => intro h2; simp at h2; exact h ⟨h2.2, h2.1⟩
      | succ i => exact e i
theorem locE_get {c : List St} : ∀ {es : En} {n m : Nat}, 0 < n → locE c es n = m → m ≠ 0 → n ≤ m ∧ es[m - n]? = some (c, true)
  | [], n, m, _, h, hm => by simp [locE] at h; omega
  | (d, a) :: r, n, m, hn, h, hm => by
    rw [locE] at h
    split at h
    · rename_i hc
      subst h
      simp [hc.1, hc.2]
    · obtain ⟨h1, h2⟩ := locE_get (by omega) h hm
      refine ⟨by omega, ?_⟩
      rw [show m - n = (m - (n + 1)) + 1 by omega]
      exact h2
theorem fnd_nil (es : En) : fnd es [] = 1 := if_pos rfl
theorem fnd_get {es : En} {c : List St} {n : Nat} (h : fnd es c = n) (hn : n ≠ 0) : (c = [] ∧ n = 1) ∨ (c ≠ [] ∧ 2 ≤ n ∧ es[n - 2]? = some (c, true)) := by
  unfold fnd at h
  split at h
  · rename_i e; exact .inl ⟨e, h.symm⟩
  · rename_i e; exact .inr ⟨e, locE_get (by decide) h hn⟩
theorem fnd_zero {es : En} {c : List St} : fnd es c = 0 ↔ c ≠ [] ∧ ∀ (i : Nat), es[i]? ≠ some (c, true) := by
  unfold fnd
  split
  · rename_i e; simp [e]
  · rename_i e; rw [locE_zero (by decide)]; simp [e]
theorem fnd_one {es : En} {c : List St} : fnd es c = 1 ↔ c = [] := by
  constructor
  · intro h
    rcases fnd_get h (by decide) with h | h
    · exact h.1
    · omega
  · rintro rfl; exact fnd_nil es
theorem fnd_lt {es : En} {c : List St} : fnd es c ≤ es.length + 1 := by
  by_cases h : fnd es c = 0
  · omega
  · rcases fnd_get rfl h with h | ⟨_, _, h⟩
    · omega
    · have := (List.getElem?_eq_some_iff.1 h).1; omega
theorem ent_zero (es : En) : ent es 0 = none := rfl
theorem ent_one (es : En) : ent es 1 = some [] := rfl
theorem ent_two {es : En} {n : Nat} {c : List St} (hn : 2 ≤ n) : ent es n = some c ↔ es[n - 2]? = some (c, true) := by
  unfold ent
  rw [if_neg (by omega), if_neg (by omega)]
  split
  · rename_i d e; rw [e]; simp
  · rename_i h
    constructor
    · intro e; cases e
    · intro e; exact absurd e (h c)
theorem ent_le {es : En} {n : Nat} {c : List St} (h : ent es n = some c) : 1 ≤ n ∧ n ≤ es.length + 1 := by
  by_cases h2 : 2 ≤ n
  · have := (List.getElem?_eq_some_iff.1 ((ent_two h2).1 h)).1; omega
  · have : n ≠ 0 := fun e => by rw [e, ent_zero] at h; cases h
    omega
theorem ent_gd {es : En} (ok : EsOK es) {n : Nat} {c : List St} (h : ent es n = some c) : ∀ s ∈ c, Gd s := by
  by_cases h2 : 2 ≤ n
  · exact ok.good _ c ((ent_two h2).1 h)
  · have := ent_le h
    obtain rfl : n = 1 := by omega
    rw [ent_one] at h
    cases h
    simp
theorem ent_fnd {es : En} (ok : EsOK es) {n : Nat} {c : List St} : ent es n = some c ↔ n ≠ 0 ∧ fnd es c = n := by
  constructor
  · intro h
    have hn := ent_le h
    refine ⟨by omega, ?_⟩
    by_cases h2 : 2 ≤ n
    · have hg := (ent_two h2).1 h
      have hne := ok.ne _ c hg
      have hz : fnd es c ≠ 0 := fun e => (fnd_zero.1 e).2 _ hg
      rcases fnd_get rfl hz with h | ⟨_, h3, h4⟩
      · exact absurd h.1 hne
      · have := ok.dis _ _ c hg h4; omega
    · obtain rfl : n = 1 := by omega
      rw [ent_one] at h
      cases h
      exact fnd_nil es
  · rintro ⟨hn, h⟩
    rcases fnd_get h hn with ⟨rfl, rfl⟩ | ⟨_, h2, h3⟩
    · rfl
    · exact (ent_two h2).2 h3
theorem fnd_inj {es : En} (ok : EsOK es) {c d : List St} (h : fnd es c = fnd es d) (hz : fnd es c ≠ 0) : c = d := by
  have h1 := (ent_fnd ok).2 ⟨hz, rfl⟩
  have h2 := (ent_fnd ok).2 ⟨fun e => hz (h.trans e), (rfl : fnd es d = fnd es d)⟩
  rw [← h, h1] at h2
  exact Option.some.inj h2
/-- What a chain asks for is there, by a lesser number. -/
theorem fnd_low {es : En} (ok : EsOK es) {c x : List St} (h : fnd es c ≠ 0) (hx : x ∈ chSL c []) : fnd es x ≠ 0 ∧ fnd es x ≤ fnd es c ∧ (x ≠ c → fnd es x < fnd es c) := by
  rcases fnd_get rfl h with ⟨rfl, _⟩ | ⟨hc, h2, h3⟩
  · simp [chSL_nil] at hx
  · obtain ⟨j, hj, hj2⟩ := ok.low _ c h3 x hx
    have e := ((ent_fnd ok).1 ((ent_two (n := j + 2) (by omega)).2 hj2)).2
    refine ⟨by omega, by omega, fun hne => ?_⟩
    by_cases hlt : fnd es x = fnd es c
    · exact absurd (fnd_inj ok hlt (by omega)) hne
    · omega
theorem fnd_parent {es : En} (ok : EsOK es) {d : List St} {s : St} (h : fnd es (d ++ [s]) ≠ 0) : fnd es d ≠ 0 ∧ fnd es d < fnd es (d ++ [s]) := by
  by_cases hd : d = []
  · subst hd
    rw [fnd_nil]
    have : fnd es ([] ++ [s]) ≠ 1 := fun e => by simp [fnd_one] at e
    omega
  · have := fnd_low ok h (chain_parent s hd)
    exact ⟨this.1, this.2.2 (fun e => by have := congrArg List.length e; simp at this)⟩
theorem fnd_inner {es : En} (ok : EsOK es) {d subs : List St} {hd : SH} (hk : hd.k = 3) (hs : subs ≠ []) (h : fnd es (d ++ [.mk hd subs]) ≠ 0) : fnd es (d ++ subs) ≠ 0 ∧ fnd es (d ++ subs) < fnd es (d ++ [.mk hd subs]) := by
  have hm := chain_inner (d := d) hk hs
  have h1 := fnd_low ok h hm
  refine ⟨h1.1, h1.2.2 (fun e => ?_)⟩
  have e2 : subs = [.mk hd subs] := List.append_cancel_left e
  have e3 := congrArg cntL e2
  rw [cntL, St.cnt, cntL] at e3
  omega

/-! ### One more -/
theorem locE_append (c d : List St) : ∀ (es : En) (n : Nat), 0 < n → locE c (es ++ [(d, true)]) n = if locE c es n ≠ 0 then locE c es n else if d = c then n + es.length else 0
  | [], n, hn => by simp [locE]
  | (x, a) :: r, n, hn => by
    rw [List.cons_append, locE, locE]
    split
    · rw [if_pos (by omega)]
    · rw [locE_append c d r (n + 1) (by omega), List.length_cons]
      split
      · rfl
      · split
        · omega
        · rfl
theorem fnd_more (es : En) (c d : List St) : fnd (es ++ [(d, true)]) c = if fnd es c ≠ 0 then fnd es c else if d = c then es.length + 2 else 0 := by
  unfold fnd
  split
  · rfl
  · rw [locE_append c d es 2 (by decide)]
    split
    · rfl
    · split
      · omega
      · rfl
theorem EsOK.more {es : En} (ok : EsOK es) {c : List St} (hc : c ≠ []) (hg : ∀ s ∈ c, Gd s) (hz : fnd es c = 0) (hl : ∀ x ∈ chSL c [], x ≠ c → fnd es x ≠ 0) : EsOK (es ++ [(c, true)]) := by
  have look : ∀ (i : Nat) x, (es ++ [(c, true)])[i]? = some (x, true) → es[i]? = some (x, true) ∨ (i = es.length ∧ x = c) := fun i x h => by
    rw [List.getElem?_append] at h
    split at h
    · exact .inl h
    · rename_i hi
      have : i = es.length := by
        have := (List.getElem?_eq_some_iff.1 h).1
        simp at this; omega
      subst this
      simp at h
      exact .inr ⟨rfl, h.symm⟩
  have old : ∀ (i : Nat) x, es[i]? = some (x, true) → (es ++ [(c, true)])[i]? = some (x, true) := fun i x h => by
    rw [List.getElem?_append_left (List.getElem?_eq_some_iff.1 h).1]; exact h
  have new : (es ++ [(c, true)])[es.length]? = some (c, true) := by simp
  have hno := (fnd_zero.1 hz).2
  refine ⟨fun i x h => ?_, fun i j x h1 h2 => ?_, fun i x h y hy => ?_, fun i x h => ?_⟩
  · rcases look i x h with h | ⟨_, rfl⟩
    · exact ok.ne i x h
    · exact hc
  · rcases look i x h1 with g1 | ⟨e1, e3⟩
    · rcases look j x h2 with g2 | ⟨_, e4⟩
      · exact ok.dis i j x g1 g2
      · rw [e4] at g1; exact absurd g1 (hno i)
    · rcases look j x h2 with g2 | ⟨e2, _⟩
      · rw [e3] at g2; exact absurd g2 (hno j)
      · omega
  · rcases look i x h with h | ⟨e, rfl⟩
    · obtain ⟨j, hj, hj2⟩ := ok.low i x h y hy
      exact ⟨j, hj, old j y hj2⟩
    · by_cases hyx : y = x
      · subst hyx; exact ⟨es.length, by omega, new⟩
      · rcases fnd_get rfl (hl y hy hyx) with ⟨e, _⟩ | ⟨_, _, h3⟩
        · exact absurd e (chain_ne hy)
        · have := (List.getElem?_eq_some_iff.1 h3).1
          exact ⟨_, by omega, old _ y h3⟩
  · rcases look i x h with h | ⟨_, rfl⟩
    · exact ok.good i x h
    · exact hg

/-! ### One less -/
def killE (es : En) (n : Nat) : En := es.modify (n - 2) (fun x => (x.1, false))
theorem killE_length (es : En) (n : Nat) : (killE es n).length = es.length := List.length_modify _ _ _
theorem killE_get {es : En} {n i : Nat} {c : List St} : (killE es n)[i]? = some (c, true) ↔ es[i]? = some (c, true) ∧ i ≠ n - 2 := by
  unfold killE
  rw [List.getElem?_modify]
  by_cases h : n - 2 = i
  · subst h
    cases es[n - 2]? <;> simp
  · simp only [if_neg h]
    cases es[i]? with
    | none => simp
    | some x => simp; omega
theorem ent_kill {es : En} {n m : Nat} (hn : 2 ≤ n) : ent (killE es n) m = if m = n then none else ent es m := by
  by_cases h2 : 2 ≤ m
  · split
    · rename_i e
      subst e
      cases h : ent (killE es m) m with
      | none => rfl
      | some c => exact absurd rfl (killE_get.1 ((ent_two h2).1 h)).2
    · rename_i e
      cases h : ent es m with
      | none =>
        cases h' : ent (killE es n) m with
        | none => rfl
        | some c =>
          have := (killE_get.1 ((ent_two h2).1 h')).1
          rw [(ent_two h2).2 this] at h; cases h
      | some c => exact (ent_two h2).2 (killE_get.2 ⟨(ent_two h2).1 h, by omega⟩)
  · rw [if_neg (by omega)]
    rcases (by omega : m = 0 ∨ m = 1) with rfl | rfl
    · rfl
    · rfl
theorem EsOK.kill {es : En} (ok : EsOK es) {n : Nat} {c : List St} (hc : ent es n = some c) (hn : 2 ≤ n) (hl : ∀ m x, ent es m = some x → c ∈ chSL x [] → x = c) : EsOK (killE es n) := by
  refine ⟨fun i x h => ok.ne i x (killE_get.1 h).1, fun i j x h1 h2 => ok.dis i j x (killE_get.1 h1).1 (killE_get.1 h2).1, fun i x h y hy => ?_, fun i x h => ok.good i x (killE_get.1 h).1⟩
  obtain ⟨h1, h2⟩ := killE_get.1 h
  obtain ⟨j, hj, hj2⟩ := ok.low i x h1 y hy
  refine ⟨j, hj, killE_get.2 ⟨hj2, fun e => ?_⟩⟩
  subst e
  have hcy : c = y := by
    have := (ent_two hn).1 hc
    rw [hj2] at this
    simp at this
    exact this.symm
  subst hcy
  have hxc := hl (i + 2) x ((ent_two (by omega)).2 h1) hy
  subst hxc
  exact h2 (ok.dis _ _ _ h1 hj2)
theorem fnd_kill {es : En} (ok : EsOK es) {n : Nat} {c : List St} (hc : ent es n = some c) (hn : 2 ≤ n) (d : List St) (ok' : EsOK (killE es n)) : fnd (killE es n) d = if d = c then 0 else fnd es d := by
  split
  · rename_i e
    subst e
    by_cases h : fnd (killE es n) d = 0
    · exact h
    · have h1 := (ent_fnd ok').2 ⟨h, rfl⟩
      rw [ent_kill hn] at h1
      split at h1
      · cases h1
      · rename_i hne
        have := ((ent_fnd ok).1 h1).2
        have := ((ent_fnd ok).1 hc).2
        omega
  · rename_i hne
    by_cases h : fnd es d = 0
    · rw [h]
      by_cases h' : fnd (killE es n) d = 0
      · exact h'
      · have h1 := (ent_fnd ok').2 ⟨h', rfl⟩
        rw [ent_kill hn] at h1
        split at h1
        · cases h1
        · have := ((ent_fnd ok).1 h1).2; omega
    · have h1 := (ent_fnd ok).2 ⟨h, rfl⟩
      have : ent (killE es n) (fnd es d) = some d := by
        rw [ent_kill hn, if_neg (fun e => ?_)]
        · exact h1
        · rw [e, hc] at h1
          exact hne (Option.some.inj h1).symm
      exact ((ent_fnd ok').1 this).2
end
end
section
section
open Go.RowKit
set_option maxRecDepth 100000

/-- A shape: its parent, its kind, its key, its tests, how many, its inner node. -/
structure Sp where
  p : Int
  k : Int
  a : Int
  b : Int
  c : Int
  x0 : Int
  x1 : Int
  x2 : Int
  x3 : Int
  x4 : Int
  x5 : Int
  x6 : Int
  x7 : Int
  x8 : Int
  n : Int
  q : Int
deriving DecidableEq
def tc (ts : List Tst) (i : Nat) : Int := match ts[i / 3]? with
  | none => 0
  | some t => if i % 3 = 0 then t.1 else if i % 3 = 1 then t.2.1 else t.2.2
def shp (p : Nat) (h : SH) (q : Nat) : Sp := ⟨p, h.k, h.k0, h.k1, h.k2, tc h.ts 0, tc h.ts 1, tc h.ts 2, tc h.ts 3, tc h.ts 4, tc h.ts 5, tc h.ts 6, tc h.ts 7, tc h.ts 8, h.ts.length, q⟩
def zSp : Sp := ⟨0, 0, 0, 0, 0, 0, 0, 0, 0, 0, 0, 0, 0, 0, 0, 0⟩
theorem list_le3 {α : Type} {l : List α} (h : l.length ≤ 3) : l = [] ∨ (∃ a, l = [a]) ∨ (∃ a b, l = [a, b]) ∨ ∃ a b c, l = [a, b, c] := by
  rcases l with _ | ⟨a, _ | ⟨b, _ | ⟨c, _ | ⟨d, r⟩⟩⟩⟩
  · exact .inl rfl
  · exact .inr (.inl ⟨a, rfl⟩)
  · exact .inr (.inr (.inl ⟨a, b, rfl⟩))
  · exact .inr (.inr (.inr ⟨a, b, c, rfl⟩))
  · simp only [List.length_cons] at h; omega
theorem ts_eq {ts us : List Tst} (h1 : ts.length ≤ 3) (h2 : us.length ≤ 3) (hl : ts.length = us.length) (h : ∀ i, i < 9 → tc ts i = tc us i) : ts = us := by
  have e0 := h 0 (by decide)
  have e1 := h 1 (by decide)
  have e2 := h 2 (by decide)
  have e3 := h 3 (by decide)
  have e4 := h 4 (by decide)
  have e5 := h 5 (by decide)
  have e6 := h 6 (by decide)
  have e7 := h 7 (by decide)
  have e8 := h 8 (by decide)
  rcases list_le3 h1 with rfl | ⟨⟨a0, a1, a2⟩, rfl⟩ | ⟨⟨a0, a1, a2⟩, ⟨b0, b1, b2⟩, rfl⟩ | ⟨⟨a0, a1, a2⟩, ⟨b0, b1, b2⟩, ⟨c0, c1, c2⟩, rfl⟩ <;>
  rcases list_le3 h2 with rfl | ⟨⟨d0, d1, d2⟩, rfl⟩ | ⟨⟨d0, d1, d2⟩, ⟨f0, f1, f2⟩, rfl⟩ | ⟨⟨d0, d1, d2⟩, ⟨f0, f1, f2⟩, ⟨g0, g1, g2⟩, rfl⟩ <;> simp [tc] at *
  all_goals simp_all
theorem shp_inj {p p' q q' : Nat} {h h' : SH} (h1 : h.ts.length ≤ 3) (h2 : h'.ts.length ≤ 3) (e : shp p h q = shp p' h' q') : p = p' ∧ h = h' ∧ q = q' := by
  unfold shp at e
  simp only [Sp.mk.injEq] at e
  obtain ⟨a1, a2, a3, a4, a5, b0, b1, b2, b3, b4, b5, b6, b7, b8, c1, c2⟩ := e
  have ht : h.ts = h'.ts := ts_eq h1 h2 (by omega) (fun i hi => by
    rcases (by omega : i = 0 ∨ i = 1 ∨ i = 2 ∨ i = 3 ∨ i = 4 ∨ i = 5 ∨ i = 6 ∨ i = 7 ∨ i = 8) with rfl | rfl | rfl | rfl | rfl | rfl | rfl | rfl | rfl <;> assumption)
  obtain ⟨k, k0, k1, k2, ts⟩ := h
  obtain ⟨k', k0', k1', k2', ts'⟩ := h'
  simp only at *
  subst a2 a3 a4 a5 ht
  exact ⟨by omega, rfl, by omega⟩

/-! ### A chain's shape -/
def parE (es : En) (c : List St) : Nat := if c = [] then 0 else fnd es c.dropLast
def inE (es : En) (c : List St) : Nat := match c.getLast? with
  | none => 0
  | some s => if s.hd.k = 3 then fnd es (c.dropLast ++ s.subs) else 0
def shE (es : En) (c : List St) : Sp := match c.getLast? with
  | none => zSp
  | some s => shp (parE es c) s.hd (inE es c)
theorem snoc_of {c : List St} (h : c ≠ []) : ∃ d hd subs, c = d ++ [St.mk hd subs] := ⟨c.dropLast, (c.getLast h).hd, (c.getLast h).subs, by rw [St.eta, List.dropLast_concat_getLast]⟩
theorem parE_nil (es : En) : parE es [] = 0 := rfl
theorem inE_nil (es : En) : inE es [] = 0 := rfl
theorem shE_nil (es : En) : shE es [] = zSp := rfl
theorem parE_snoc (es : En) (d : List St) (s : St) : parE es (d ++ [s]) = fnd es d := by unfold parE; simp
theorem inE_snoc (es : En) (d : List St) (hd : SH) (subs : List St) : inE es (d ++ [St.mk hd subs]) = if hd.k = 3 then fnd es (d ++ subs) else 0 := by
  unfold inE; simp [St.hd, St.subs]
theorem shE_snoc (es : En) (d : List St) (hd : SH) (subs : List St) : shE es (d ++ [St.mk hd subs]) = shp (fnd es d) hd (if hd.k = 3 then fnd es (d ++ subs) else 0) := by
  unfold shE
  rw [parE_snoc, inE_snoc]
  simp [St.hd]
theorem shE_top {es : En} {c : List St} (hg : ∀ s ∈ c, Gd s) (h : shE es c = zSp) : c = [] := by
  by_cases hc : c = []
  · exact hc
  · obtain ⟨d, hd, subs, rfl⟩ := snoc_of hc
    rw [shE_snoc] at h
    have := ((hg _ (List.mem_append_right _ List.mem_cons_self)).hd).1.k
    have e := congrArg Sp.k h
    unfold shp zSp at e
    simp only at e
    omega
/-- Unlike chains that are there have unlike shapes. -/
theorem shE_inj {es : En} (ok : EsOK es) {c d : List St} (hc : fnd es c ≠ 0) (hgc : ∀ s ∈ c, Gd s) (hgd : ∀ s ∈ d, Gd s) (h : shE es c = shE es d) : c = d := by
  by_cases h1 : c = []
  · subst h1
    rw [shE_nil] at h
    exact (shE_top hgd h.symm).symm
  · by_cases h2 : d = []
    · subst h2
      rw [shE_nil] at h
      exact shE_top hgc h
    · obtain ⟨c, hd, subs, rfl⟩ := snoc_of h1
      obtain ⟨d, hd', subs', rfl⟩ := snoc_of h2
      rw [shE_snoc, shE_snoc] at h
      have g1 := (hgc _ (List.mem_append_right _ List.mem_cons_self)).hd
      have g2 := (hgd _ (List.mem_append_right _ List.mem_cons_self)).hd
      obtain ⟨e1, rfl, e3⟩ := shp_inj g1.1.tl g2.1.tl h
      have hp := fnd_parent ok hc
      have := fnd_inj ok e1 hp.1
      subst this
      by_cases hk : hd.k = 3
      · rw [if_pos hk, if_pos hk] at e3
        have hi := fnd_inner ok hk (g1.2.2 hk).1 hc
        have := List.append_cancel_left (fnd_inj ok e3 hi.1)
        rw [this]
      · rw [g1.2.1 hk, g2.2.1 hk]

/-! ### Which number a shape has -/
def NmOK (es : En) (nm : Sp → Option Nat) : Prop := ∀ s n, nm s = some n ↔ ∃ c, ent es n = some c ∧ shE es c = s
theorem NmOK.top {es : En} {nm : Sp → Option Nat} (h : NmOK es nm) : nm zSp = some 1 := (h _ _).2 ⟨[], rfl, rfl⟩
/-- The look-up by a step's shape finds the chain with it. -/
theorem NmOK.find {es : En} {nm : Sp → Option Nat} (h : NmOK es nm) (ok : EsOK es) {d : List St} {hd : SH} {subs : List St} (hg : Gd (.mk hd subs)) :
    (nm (shp (fnd es d) hd (if hd.k = 3 then fnd es (d ++ subs) else 0))).getD 0 = fnd es (d ++ [St.mk hd subs]) := by
  obtain ⟨g1, g2, g3⟩ := hg.hd
  by_cases hz : fnd es (d ++ [St.mk hd subs]) = 0
  · rw [hz]
    cases e : nm (shp (fnd es d) hd (if hd.k = 3 then fnd es (d ++ subs) else 0)) with
    | none => rfl
    | some n =>
      exfalso
      obtain ⟨c, hc, hs⟩ := (h _ _).1 e
      have hgc := ent_gd ok hc
      have hcn := (ent_fnd ok).1 hc
      by_cases h1 : c = []
      · subst h1
        rw [shE_nil] at hs
        have e := congrArg Sp.k hs
        unfold shp zSp at e
        simp only at e
        have := g1.k
        omega
      · obtain ⟨c, hd', subs', rfl⟩ := snoc_of h1
        rw [shE_snoc] at hs
        have gg := (hgc _ (List.mem_append_right _ List.mem_cons_self)).hd
        obtain ⟨e1, rfl, e3⟩ := shp_inj gg.1.tl g1.tl hs
        have hp := fnd_parent ok (by omega : fnd es (c ++ [St.mk hd' subs']) ≠ 0)
        have := fnd_inj ok e1 hp.1
        subst this
        by_cases hk : hd'.k = 3
        · rw [if_pos hk, if_pos hk] at e3
          have hi := fnd_inner ok hk (gg.2.2 hk).1 (by omega : fnd es (c ++ [St.mk hd' subs']) ≠ 0)
          have := List.append_cancel_left (fnd_inj ok e3 hi.1)
          subst this
          omega
        · have e4 := gg.2.1 hk
          have e5 := g2 hk
          subst e4 e5
          omega
  · rw [(h _ (fnd es (d ++ [St.mk hd subs]))).2 ⟨_, (ent_fnd ok).2 ⟨hz, rfl⟩, shE_snoc ..⟩]
    rfl

/-! ### What is kept of a node -/
structure Nd where
  sp : Sp
  kids : List Nat
  outer : List Nat
  li : Int
  us : Int
def kidsE (es : En) (n : Nat) : List Nat := (List.range (es.length + 2)).filter fun m => match ent es m with
  | some c => decide (parE es c = n)
  | none => false
def outerE (es : En) (n : Nat) : List Nat := (List.range (es.length + 2)).filter fun m => match ent es m with
  | some c => decide (inE es c = n)
  | none => false
def ndE (es : En) (U E : Nat → Int) (n : Nat) : Option Nd := (ent es n).map fun c => ⟨shE es c, kidsE es n, outerE es n, E n, U n⟩
def addK (f : Nat → Option Nd) (i n : Nat) (j : Nat) : Option Nd := if j = i then (f j).map (fun x => { x with kids := x.kids ++ [n] }) else f j
def addO (f : Nat → Option Nd) (i n : Nat) (j : Nat) : Option Nd := if j = i then (f j).map (fun x => { x with outer := x.outer ++ [n] }) else f j
def lessK (f : Nat → Option Nd) (i n : Nat) (j : Nat) : Option Nd := if j = i then (f j).map (fun x => { x with kids := x.kids.filter (fun m => decide (m ≠ n)) }) else f j
def lessO (f : Nat → Option Nd) (i n : Nat) (j : Nat) : Option Nd := if j = i then (f j).map (fun x => { x with outer := x.outer.filter (fun m => decide (m ≠ n)) }) else f j
def setN (f : Nat → Option Nd) (n : Nat) (x : Option Nd) (j : Nat) : Option Nd := if j = n then x else f j

/-! ### One more -/
section
variable {es : En} {d : List St} {hd : SH} {subs : List St}
theorem ent_more (c : List St) (n : Nat) : ent (es ++ [(c, true)]) n = if n = es.length + 2 then some c else ent es n := by
  by_cases h2 : 2 ≤ n
  · have key : ∀ x, ent (es ++ [(c, true)]) n = some x ↔ (if n = es.length + 2 then some c else ent es n) = some x := fun x => by
      rw [ent_two h2, List.getElem?_append]
      by_cases hlt : n - 2 < es.length
      · rw [if_pos hlt, if_neg (by omega), ent_two h2]
      · rw [if_neg hlt]
        by_cases he : n = es.length + 2
        · rw [if_pos he]
          have : n - 2 - es.length = 0 := by omega
          rw [this]; simp
        · rw [if_neg he, ent_two h2, List.getElem?_eq_none (by simp; omega), List.getElem?_eq_none (by omega)]
    cases e : ent (es ++ [(c, true)]) n with
    | some x => exact ((key x).1 e).symm
    | none =>
      cases e2 : (if n = es.length + 2 then some c else ent es n) with
      | none => rfl
      | some x => rw [(key x).2 e2] at e; cases e
  · rw [if_neg (by omega)]
    rcases (by omega : n = 0 ∨ n = 1) with rfl | rfl <;> rfl
theorem fnd_old {c x : List St} (h : fnd es x ≠ 0) : fnd (es ++ [(c, true)]) x = fnd es x := by rw [fnd_more, if_pos h]
/-- A new chain whose parent and inner node are there. -/
structure NewC (es : En) (d : List St) (hd : SH) (subs : List St) : Prop where
  ok : EsOK es
  gd : Gd (.mk hd subs)
  gdd : ∀ s ∈ d, Gd s
  no : fnd es (d ++ [St.mk hd subs]) = 0
  low : ∀ x ∈ chSL (d ++ [St.mk hd subs]) [], x ≠ d ++ [St.mk hd subs] → fnd es x ≠ 0
theorem NewC.parent (h : NewC es d hd subs) : fnd es d ≠ 0 := by
  by_cases hd0 : d = []
  · rw [hd0, fnd_nil]; decide
  · exact h.low d (chain_parent _ hd0) (fun e => by have := congrArg List.length e; simp at this)
theorem NewC.inner (h : NewC es d hd subs) (hk : hd.k = 3) : fnd es (d ++ subs) ≠ 0 := by
  refine h.low _ (chain_inner hk (h.gd.hd.2.2 hk).1) (fun e => ?_)
  have e2 : subs = [St.mk hd subs] := List.append_cancel_left e
  have e3 := congrArg cntL e2
  rw [cntL, St.cnt, cntL] at e3
  omega
theorem NewC.next (h : NewC es d hd subs) : EsOK (es ++ [(d ++ [St.mk hd subs], true)]) := h.ok.more (by simp) (fun s hs => by
  rcases List.mem_append.1 hs with hs | hs
  · exact h.gdd s hs
  · rw [List.mem_singleton.1 hs]; exact h.gd) h.no h.low
theorem NewC.par (h : NewC es d hd subs) {n : Nat} {x : List St} (hx : ent es n = some x) : parE (es ++ [(d ++ [St.mk hd subs], true)]) x = parE es x ∧ inE (es ++ [(d ++ [St.mk hd subs], true)]) x = inE es x ∧ shE (es ++ [(d ++ [St.mk hd subs], true)]) x = shE es x := by
  have hn := (ent_fnd h.ok).1 hx
  by_cases h1 : x = []
  · subst h1; exact ⟨rfl, rfl, rfl⟩
  · obtain ⟨x, hd', subs', rfl⟩ := snoc_of h1
    have hz : fnd es (x ++ [St.mk hd' subs']) ≠ 0 := by omega
    have hp := fnd_old (c := d ++ [St.mk hd subs]) (fnd_parent h.ok hz).1
    have hi : (if hd'.k = 3 then fnd (es ++ [(d ++ [St.mk hd subs], true)]) (x ++ subs') else 0) = if hd'.k = 3 then fnd es (x ++ subs') else 0 := by
      split
      · rename_i hk
        have gg := (ent_gd h.ok hx _ (List.mem_append_right _ List.mem_cons_self)).hd
        exact fnd_old (fnd_inner h.ok hk (gg.2.2 hk).1 hz).1
      · rfl
    rw [parE_snoc, parE_snoc, inE_snoc, inE_snoc, shE_snoc, shE_snoc, hp, hi]
    exact ⟨rfl, rfl, rfl⟩
theorem NewC.self (h : NewC es d hd subs) : parE (es ++ [(d ++ [St.mk hd subs], true)]) (d ++ [St.mk hd subs]) = fnd es d ∧ inE (es ++ [(d ++ [St.mk hd subs], true)]) (d ++ [St.mk hd subs]) = (if hd.k = 3 then fnd es (d ++ subs) else 0) ∧ shE (es ++ [(d ++ [St.mk hd subs], true)]) (d ++ [St.mk hd subs]) = shp (fnd es d) hd (if hd.k = 3 then fnd es (d ++ subs) else 0) := by
  have hi : (if hd.k = 3 then fnd (es ++ [(d ++ [St.mk hd subs], true)]) (d ++ subs) else 0) = if hd.k = 3 then fnd es (d ++ subs) else 0 := by
    split
    · rename_i hk; exact fnd_old (h.inner hk)
    · rfl
  rw [parE_snoc, inE_snoc, shE_snoc, fnd_old h.parent, hi]
  exact ⟨rfl, rfl, rfl⟩
theorem rel_more (R : En → List St → Nat) (hR : ∀ n x, ent es n = some x → R (es ++ [(d ++ [St.mk hd subs], true)]) x = R es x) (m : Nat) :
    ((List.range ((es ++ [(d ++ [St.mk hd subs], true)]).length + 2)).filter fun k => match ent (es ++ [(d ++ [St.mk hd subs], true)]) k with
      | some c => decide (R (es ++ [(d ++ [St.mk hd subs], true)]) c = m)
      | none => false) = ((List.range (es.length + 2)).filter fun k => match ent es k with
      | some c => decide (R es c = m)
      | none => false) ++ if R (es ++ [(d ++ [St.mk hd subs], true)]) (d ++ [St.mk hd subs]) = m then [es.length + 2] else [] := by
  rw [List.length_append, List.length_singleton, show es.length + 1 + 2 = (es.length + 2) + 1 by omega, List.range_succ, List.filter_append]
  congr 1
  · apply List.filter_congr
    intro k hk
    have hk' := List.mem_range.1 hk
    rw [ent_more, if_neg (by omega)]
    cases e : ent es k with
    | none => rfl
    | some x => simp only; rw [hR k x e]
  · rw [List.filter_cons, List.filter_nil, ent_more, if_pos rfl]
    simp
theorem NewC.kids (h : NewC es d hd subs) (m : Nat) : kidsE (es ++ [(d ++ [St.mk hd subs], true)]) m = kidsE es m ++ if fnd es d = m then [es.length + 2] else [] := by
  have := rel_more parE (fun n x hx => (h.par hx).1) m
  rw [h.self.1] at this
  exact this
theorem NewC.outer (h : NewC es d hd subs) (m : Nat) : outerE (es ++ [(d ++ [St.mk hd subs], true)]) m = outerE es m ++ if (if hd.k = 3 then fnd es (d ++ subs) else 0) = m then [es.length + 2] else [] := by
  have := rel_more inE (fun n x hx => (h.par hx).2.1) m
  rw [h.self.2.1] at this
  exact this
theorem par_lt {es : En} (ok : EsOK es) {n : Nat} {x : List St} (hx : ent es n = some x) : parE es x < n ∧ inE es x < n := by
  have hn := (ent_fnd ok).1 hx
  by_cases h1 : x = []
  · subst h1
    rw [parE_nil, inE_nil]; omega
  · obtain ⟨x, hd', subs', rfl⟩ := snoc_of h1
    have hz : fnd es (x ++ [St.mk hd' subs']) ≠ 0 := by omega
    have gg := (ent_gd ok hx _ (List.mem_append_right _ List.mem_cons_self)).hd
    rw [parE_snoc, inE_snoc]
    have := fnd_parent ok hz
    refine ⟨by omega, ?_⟩
    split
    · rename_i hk
      have := fnd_inner ok hk (gg.2.2 hk).1 hz
      omega
    · omega
theorem kidsE_none (ok : EsOK es) {m : Nat} (hm : es.length + 2 ≤ m) : kidsE es m = [] ∧ outerE es m = [] := by
  constructor
  · unfold kidsE
    rw [List.filter_eq_nil_iff]
    intro k hk
    have hk' := List.mem_range.1 hk
    cases e : ent es k with
    | none => simp
    | some x =>
      have := par_lt ok e
      simp; omega
  · unfold outerE
    rw [List.filter_eq_nil_iff]
    intro k hk
    have hk' := List.mem_range.1 hk
    cases e : ent es k with
    | none => simp
    | some x =>
      have := par_lt ok e
      simp; omega
theorem NewC.nd (h : NewC es d hd subs) {U E : Nat → Int} (hU : U (es.length + 2) = 0) (hE : E (es.length + 2) = 0) :
    ndE (es ++ [(d ++ [St.mk hd subs], true)]) U E = addO (addK (setN (ndE es U E) (es.length + 2) (some ⟨shp (fnd es d) hd (if hd.k = 3 then fnd es (d ++ subs) else 0), [], [], 0, 0⟩)) (fnd es d) (es.length + 2)) (if hd.k = 3 then fnd es (d ++ subs) else 0) (es.length + 2) := by
  funext j
  obtain ⟨q, hq⟩ : ∃ q, (if hd.k = 3 then fnd es (d ++ subs) else 0) = q := ⟨_, rfl⟩
  have hqlt : q < es.length + 2 := by rw [← hq]; split; exact Nat.lt_succ_of_le fnd_lt; omega
  have hplt : fnd es d < es.length + 2 := Nat.lt_succ_of_le fnd_lt
  have hk := h.kids j
  have ho := h.outer j
  have hs := h.self.2.2
  rw [hq] at ho hs ⊢
  have hnew := kidsE_none h.ok (m := es.length + 2) (Nat.le_refl _)
  unfold ndE addO addK setN
  rw [ent_more, hk, ho]
  by_cases hj : j = es.length + 2
  · subst hj
    rw [if_pos rfl, if_neg (by omega), if_neg (by omega), if_pos rfl, hnew.1, hnew.2, if_neg (by omega), if_neg (by omega), hU, hE, Option.map_some, hs]
    rfl
  · rw [if_neg hj, if_neg hj]
    cases e : ent es j with
    | none => simp [e]
    | some x =>
      have hx := (h.par e).2.2
      simp only [Option.map_some, hx, e]
      by_cases h1 : q = j <;> by_cases h2 : fnd es d = j
      · rw [if_pos h1, if_pos h2, if_pos h1.symm, if_pos h2.symm]; rfl
      · rw [if_pos h1, if_neg h2, if_pos h1.symm, if_neg (fun e => h2 e.symm), List.append_nil]; rfl
      · rw [if_neg h1, if_pos h2, if_neg (fun e => h1 e.symm), if_pos h2.symm, List.append_nil]
      · rw [if_neg h1, if_neg h2, if_neg (fun e => h1 e.symm), if_neg (fun e => h2 e.symm), List.append_nil, List.append_nil]
theorem NewC.nm (h : NewC es d hd subs) {nm : Sp → Option Nat} (hm : NmOK es nm) : NmOK (es ++ [(d ++ [St.mk hd subs], true)]) (fun s => if s = shp (fnd es d) hd (if hd.k = 3 then fnd es (d ++ subs) else 0) then some (es.length + 2) else nm s) := by
  intro s n
  have hs := h.self.2.2
  have ok' := h.next
  obtain ⟨t, ht⟩ : ∃ t, shp (fnd es d) hd (if hd.k = 3 then fnd es (d ++ subs) else 0) = t := ⟨_, rfl⟩
  rw [ht] at hs ⊢
  by_cases hst : s = t
  · simp only [if_pos hst]
    constructor
    · intro e
      cases e
      exact ⟨_, by rw [ent_more, if_pos rfl], by rw [hs, hst]⟩
    · rintro ⟨c, hc, hcs⟩
      rw [ent_more] at hc
      split at hc
      · rename_i hn; rw [hn]
      · rename_i hn
        exfalso
        have e1 : shE (es ++ [(d ++ [St.mk hd subs], true)]) c = shE (es ++ [(d ++ [St.mk hd subs], true)]) (d ++ [St.mk hd subs]) := by rw [hcs, hst, hs]
        have hcn := (ent_fnd h.ok).1 hc
        have h0 : fnd (es ++ [(d ++ [St.mk hd subs], true)]) c ≠ 0 := by rw [fnd_old (by omega)]; omega
        have := shE_inj ok' h0 (ent_gd h.ok hc) (fun s hs => by
          rcases List.mem_append.1 hs with hs | hs
          · exact h.gdd s hs
          · rw [List.mem_singleton.1 hs]; exact h.gd) e1
        rw [this] at hcn
        have := h.no
        omega
  · simp only [if_neg hst]
    rw [hm s n]
    constructor
    · rintro ⟨c, hc, hcs⟩
      have := ent_le hc
      exact ⟨c, by rw [ent_more, if_neg (by omega)]; exact hc, by rw [(h.par hc).2.2]; exact hcs⟩
    · rintro ⟨c, hc, hcs⟩
      rw [ent_more] at hc
      split at hc
      · cases hc
        exact absurd (hcs.symm.trans hs) hst
      · rw [(h.par hc).2.2] at hcs
        exact ⟨c, hc, hcs⟩
end
end
end
section
section
open Go.RowKit
set_option maxRecDepth 100000

/-- A chain that no other one asks for. -/
structure GoneC (es : En) (n : Nat) (c : List St) : Prop where
  ok : EsOK es
  hc : ent es n = some c
  hn : 2 ≤ n
  last : ∀ m x, ent es m = some x → c ∈ chSL x [] → x = c
section
variable {es : En} {n : Nat} {c : List St}
theorem GoneC.next (h : GoneC es n c) : EsOK (killE es n) := h.ok.kill h.hc h.hn h.last
theorem GoneC.old (h : GoneC es n c) {m : Nat} {x : List St} (hx : ent (killE es n) m = some x) : m ≠ n ∧ ent es m = some x := by
  rw [ent_kill h.hn] at hx
  split at hx
  · cases hx
  · exact ⟨by assumption, hx⟩
theorem GoneC.ne (h : GoneC es n c) {m : Nat} {x : List St} (hx : ent (killE es n) m = some x) : x ≠ c := fun e => by
  obtain ⟨h1, h2⟩ := h.old hx
  rw [e] at h2
  have a := (ent_fnd h.ok).1 h2
  have b := (ent_fnd h.ok).1 h.hc
  omega
theorem GoneC.par (h : GoneC es n c) {m : Nat} {x : List St} (hx : ent (killE es n) m = some x) : parE (killE es n) x = parE es x ∧ inE (killE es n) x = inE es x ∧ shE (killE es n) x = shE es x := by
  obtain ⟨h1, h2⟩ := h.old hx
  have hne := h.ne hx
  by_cases e : x = []
  · subst e; exact ⟨rfl, rfl, rfl⟩
  · obtain ⟨d, hd, subs, rfl⟩ := snoc_of e
    have gg := (ent_gd h.ok h2 _ (List.mem_append_right _ List.mem_cons_self)).hd
    have hp : fnd (killE es n) d = fnd es d := by
      rw [fnd_kill h.ok h.hc h.hn d h.next, if_neg (fun e2 => ?_)]
      subst e2
      by_cases hd0 : d = []
      · subst hd0
        have := (ent_fnd h.ok).1 h.hc
        rw [fnd_nil] at this
        have := h.hn
        omega
      · exact hne (h.last m _ h2 (chain_parent _ hd0))
    have hi : (if hd.k = 3 then fnd (killE es n) (d ++ subs) else 0) = if hd.k = 3 then fnd es (d ++ subs) else 0 := by
      split
      · rename_i hk
        rw [fnd_kill h.ok h.hc h.hn _ h.next, if_neg (fun e2 => ?_)]
        exact hne (h.last m _ h2 (by rw [← e2]; exact chain_inner hk (gg.2.2 hk).1))
      · rfl
    rw [parE_snoc, parE_snoc, inE_snoc, inE_snoc, shE_snoc, shE_snoc, hp, hi]
    exact ⟨rfl, rfl, rfl⟩
theorem GoneC.rel (h : GoneC es n c) (R : En → List St → Nat) (hR : ∀ k x, ent (killE es n) k = some x → R (killE es n) x = R es x) (m : Nat) :
    ((List.range ((killE es n).length + 2)).filter fun k => match ent (killE es n) k with
      | some c => decide (R (killE es n) c = m)
      | none => false) = (((List.range (es.length + 2)).filter fun k => match ent es k with
      | some c => decide (R es c = m)
      | none => false)).filter fun k => decide (k ≠ n) := by
  rw [killE_length, List.filter_filter]
  apply List.filter_congr
  intro k _
  by_cases hk : k = n
  · subst hk
    rw [ent_kill h.hn, if_pos rfl]
    simp
  · have e := ent_kill (es := es) (m := k) h.hn
    rw [if_neg hk] at e
    rw [e]
    cases e2 : ent es k with
    | none => simp
    | some x =>
      simp only
      rw [hR k x (e.trans e2)]
      simp [hk]
theorem GoneC.kids (h : GoneC es n c) (m : Nat) : kidsE (killE es n) m = (kidsE es m).filter fun k => decide (k ≠ n) := h.rel parE (fun _ _ hx => (h.par hx).1) m
theorem GoneC.outer (h : GoneC es n c) (m : Nat) : outerE (killE es n) m = (outerE es m).filter fun k => decide (k ≠ n) := h.rel inE (fun _ _ hx => (h.par hx).2.1) m
theorem filter_stay {l : List Nat} {n : Nat} (h : n ∉ l) : (l.filter fun k => decide (k ≠ n)) = l := by
  rw [List.filter_eq_self]
  intro k hk
  simp
  rintro rfl
  exact h hk
theorem mem_kidsE {es : En} {n m : Nat} : m ∈ kidsE es n ↔ ∃ c, ent es m = some c ∧ parE es c = n := by
  unfold kidsE
  rw [List.mem_filter, List.mem_range]
  cases e : ent es m with
  | none => simp
  | some x => simp; intro _; have := ent_le e; omega
theorem mem_outerE {es : En} {n m : Nat} : m ∈ outerE es n ↔ ∃ c, ent es m = some c ∧ inE es c = n := by
  unfold outerE
  rw [List.mem_filter, List.mem_range]
  cases e : ent es m with
  | none => simp
  | some x => simp; intro _; have := ent_le e; omega
theorem kidsE_rise (es : En) (n : Nat) : (kidsE es n).Pairwise (· < ·) := List.Pairwise.filter _ List.pairwise_lt_range
theorem outerE_rise (es : En) (n : Nat) : (outerE es n).Pairwise (· < ·) := List.Pairwise.filter _ List.pairwise_lt_range
theorem kidsE_le (es : En) (n : Nat) : (kidsE es n).length ≤ es.length + 2 := by
  have := List.length_filter_le (fun m => match ent es m with | some c => decide (parE es c = n) | none => false) (List.range (es.length + 2))
  rw [List.length_range] at this
  exact this
theorem outerE_le (es : En) (n : Nat) : (outerE es n).length ≤ es.length + 2 := by
  have := List.length_filter_le (fun m => match ent es m with | some c => decide (inE es c = n) | none => false) (List.range (es.length + 2))
  rw [List.length_range] at this
  exact this
theorem GoneC.nd (h : GoneC es n c) (U E : Nat → Int) : ndE (killE es n) U E = lessO (lessK (setN (ndE es U E) n none) (parE es c) n) (inE es c) n := by
  funext j
  unfold ndE lessO lessK setN
  rw [h.kids, h.outer]
  by_cases hj : j = n
  · subst hj
    rw [ent_kill h.hn, if_pos rfl]
    simp
  · have e := ent_kill (es := es) (m := j) h.hn
    rw [if_neg hj] at e
    rw [e, if_neg hj]
    cases e2 : ent es j with
    | none => simp [e2]
    | some x =>
      have hx := (h.par (e.trans e2)).2.2
      simp only [Option.map_some, hx, e2]
      by_cases h1 : j = parE es c <;> by_cases h2 : j = inE es c
      · rw [if_pos h1, if_pos h2]; rfl
      · have ho : n ∉ outerE es j := fun hm => by
          obtain ⟨y, hy, hy2⟩ := mem_outerE.1 hm
          rw [h.hc] at hy; cases hy; exact h2 hy2.symm
        rw [if_pos h1, if_neg h2, filter_stay ho]
      · have ho : n ∉ kidsE es j := fun hm => by
          obtain ⟨y, hy, hy2⟩ := mem_kidsE.1 hm
          rw [h.hc] at hy; cases hy; exact h1 hy2.symm
        rw [if_neg h1, if_pos h2, filter_stay ho]; rfl
      · have ho : n ∉ outerE es j := fun hm => by
          obtain ⟨y, hy, hy2⟩ := mem_outerE.1 hm
          rw [h.hc] at hy; cases hy; exact h2 hy2.symm
        have hk : n ∉ kidsE es j := fun hm => by
          obtain ⟨y, hy, hy2⟩ := mem_kidsE.1 hm
          rw [h.hc] at hy; cases hy; exact h1 hy2.symm
        rw [if_neg h1, if_neg h2, filter_stay ho, filter_stay hk]
theorem GoneC.nm (h : GoneC es n c) {nm : Sp → Option Nat} (hm : NmOK es nm) : NmOK (killE es n) (fun s => if s = shE es c then none else nm s) := by
  intro s m
  by_cases hs : s = shE es c
  · simp only [if_pos hs]
    constructor
    · intro e; cases e
    · rintro ⟨x, hx, hxs⟩
      exfalso
      rw [(h.par hx).2.2, hs] at hxs
      have h2 := (h.old hx).2
      have a := (ent_fnd h.ok).1 h2
      exact h.ne hx (shE_inj h.ok (by omega) (ent_gd h.ok h2) (ent_gd h.ok h.hc) hxs)
  · simp only [if_neg hs]
    rw [hm s m]
    constructor
    · rintro ⟨x, hx, hxs⟩
      have hmn : m ≠ n := fun e => by
        rw [e, h.hc] at hx
        cases hx
        exact hs hxs.symm
      have e := ent_kill (es := es) (m := m) h.hn
      rw [if_neg hmn] at e
      exact ⟨x, e.trans hx, by rw [(h.par (e.trans hx)).2.2]; exact hxs⟩
    · rintro ⟨x, hx, hxs⟩
      rw [(h.par hx).2.2] at hxs
      exact ⟨x, (h.old hx).2, hxs⟩
end
end
end
end Go.Proofs.YtljefbfjehblpaaGreat
