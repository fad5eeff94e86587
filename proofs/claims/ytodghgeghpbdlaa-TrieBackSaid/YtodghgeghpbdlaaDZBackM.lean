/- Layer trie: the numbers that there are, in their order; a list added and removed leaves them as they were. No program. -/
import Derived.Test.YtodghgeghpbdlaaA15
namespace Go.Proofs.Ytodghgeghpbdlaa
section
open Go.RowKit
set_option maxRecDepth 100000

/-- The numbers that there are, rising. -/
def alv (es : En) : List Nat := (List.range (es.length + 2)).filter (fun n => (ent es n).isSome)
theorem alv_mem {es : En} {n : Nat} : n ∈ alv es ↔ ent es n ≠ none := by
  unfold alv
  rw [List.mem_filter, List.mem_range]
  constructor
  · rintro ⟨_, h⟩ e
    rw [e] at h; cases h
  · intro h
    cases e : ent es n with
    | none => exact absurd e h
    | some c => exact ⟨by have := ent_le e; omega, rfl⟩
theorem alv_rise (es : En) : (alv es).Pairwise (· < ·) := List.Pairwise.filter _ List.pairwise_lt_range
theorem alv_len (es : En) : (alv es).length ≤ es.length + 2 := by
  have := List.length_filter_le (fun n => (ent es n).isSome) (List.range (es.length + 2))
  rw [List.length_range] at this
  exact this
theorem rise_eqN : ∀ {a b : List Nat}, a.Pairwise (· < ·) → b.Pairwise (· < ·) → (∀ x, x ∈ a ↔ x ∈ b) → a = b
  | [], [], _, _, _ => rfl
  | [], y :: s, _, _, h => absurd ((h y).2 (by simp)) (by simp)
  | x :: r, [], _, _, h => absurd ((h x).1 (by simp)) (by simp)
  | x :: r, y :: s, ha, hb, h => by
    obtain ⟨a1, a2⟩ := List.pairwise_cons.1 ha
    obtain ⟨b1, b2⟩ := List.pairwise_cons.1 hb
    have hxy : x = y := by
      have h1 := (h x).1 (by simp)
      have h2 := (h y).2 (by simp)
      rcases List.mem_cons.1 h1 with e | e
      · exact e
      · rcases List.mem_cons.1 h2 with e2 | e2
        · exact e2.symm
        · have := b1 x e; have := a1 y e2; omega
    subst hxy
    rw [rise_eqN a2 b2 (fun z => ?_)]
    constructor
    · intro hz
      rcases List.mem_cons.1 ((h z).1 (List.mem_cons_of_mem _ hz)) with e | e
      · have := a1 z hz; omega
      · exact e
    · intro hz
      rcases List.mem_cons.1 ((h z).2 (List.mem_cons_of_mem _ hz)) with e | e
      · have := b1 z hz; omega
      · exact e
section
variable {ls : List (List St)} {es : En} {U E : Nat → Int} {l : List St}
theorem usesL_snocE (ls : List (List St)) (l x : List St) : usesL ((ls ++ [l]).erase l) x = usesL ls x := by
  have h1 := usesL_erase (ls := ls ++ [l]) (l := l) (x := x) (by simp)
  rw [usesL_snoc] at h1
  simp only [List.mem_cons] at h1
  by_cases e : x = [] ∨ x ∈ chSL l []
  · simp only [e, if_true] at h1; omega
  · simp only [e, if_false] at h1; omega
theorem goes_new {x : List St} (h : TLS ls es U E) (hg : goes (ls ++ [l]) l x = true) : x ≠ [] ∧ fnd es x = 0 := by
  unfold goes at hg
  have hg := of_decide_eq_true hg
  rw [usesL_snocE] at hg
  refine ⟨hg.1, ?_⟩
  by_cases e : fnd es x = 0
  · exact e
  · have := (h.tl.all x hg.1).1 e; omega
/-- Behind Add and Remove each chain has the number that it had. -/
theorem back_fnd (h : TLS ls es U E) (hl : Rl l) {es2 : En} {U1 U2 : Nat → Int} {out : List Nat} (r : RemI (ls ++ [l]) l (addAll es (chSL l [])) U1 ([] :: chSL l []) es2 U2 out) (x : List St) : fnd es2 x = fnd es x := by
  rw [r.fn]
  by_cases h0 : fnd es x = 0
  · rw [h0]
    split
    · rfl
    · rename_i hn
      have hx : x ≠ [] := fun e => by rw [e, fnd_nil] at h0; cases h0
      by_cases e : fnd (addAll es (chSL l [])) x = 0
      · exact e
      · have h1 := ((h.add hl).tl.all x hx).1 e
        have h2 : usesL ls x = 0 := by
          by_cases e2 : 0 < usesL ls x
          · exact absurd h0 ((h.tl.all x hx).2 e2)
          · omega
        rw [usesL_snoc, h2] at h1
        exfalso
        refine hn ⟨?_, ?_⟩
        · simp only [List.mem_cons]
          by_cases e3 : x = [] ∨ x ∈ chSL l []
          · exact e3
          · exact absurd h1 (by simp [e3])
        · unfold goes
          rw [usesL_snocE]
          exact decide_eq_true ⟨hx, h2⟩
  · rw [if_neg, addAll_old _ h0]
    rintro ⟨_, hg⟩
    exact h0 (goes_new h hg).2
theorem back_alv (h : TLS ls es U E) (hl : Rl l) {es2 : En} {U1 U2 : Nat → Int} {out : List Nat} (r : RemI (ls ++ [l]) l (addAll es (chSL l [])) U1 ([] :: chSL l []) es2 U2 out) (n : Nat) : ent es2 n = ent es n := by
  have hb := back_fnd h hl r
  cases e : ent es n with
  | none =>
    cases e2 : ent es2 n with
    | none => rfl
    | some c =>
      have h1 := (ent_fnd r.ok).1 e2
      rw [hb] at h1
      rw [(ent_fnd h.tl.ok).2 h1] at e
      cases e
  | some c =>
    have h1 := (ent_fnd h.tl.ok).1 e
    rw [← hb] at h1
    exact (ent_fnd r.ok).2 h1
theorem back_all (h : TLS ls es U E) (hl : Rl l) {es2 : En} {U1 U2 : Nat → Int} {out : List Nat} (r : RemI (ls ++ [l]) l (addAll es (chSL l [])) U1 ([] :: chSL l []) es2 U2 out) : alv es2 = alv es :=
  rise_eqN (alv_rise _) (alv_rise _) (fun n => by rw [alv_mem, alv_mem, back_alv h hl r])
/-- Numbers that are given anew rise. -/
theorem addAll_up : ∀ (D : List (List St)) (es : En), D.Nodup → D.Pairwise (fun x y => fnd es x = 0 → fnd es y = 0 → fnd (addAll es D) x < fnd (addAll es D) y)
  | [], _, _ => List.Pairwise.nil
  | c :: r, es, hn => by
    obtain ⟨h1, h2⟩ := List.nodup_cons.1 hn
    have hz : ∀ y ∈ r, fnd es y = 0 → fnd (addC es c) y = 0 := fun y hy h0 => by
      unfold addC
      split
      · rw [fnd_more, h0]
        have : ¬ c = y := fun e => h1 (e ▸ hy)
        simp [this]
      · exact h0
    refine List.pairwise_cons.2 ⟨fun y hy hc0 hy0 => ?_, (addAll_up r (addC es c) h2).imp_of_mem (fun {a b} ha hb h g1 g2 => h (hz a ha g1) (hz b hb g2))⟩
    show fnd (addAll (addC es c) r) c < fnd (addAll (addC es c) r) y
    have e1 : addC es c = es ++ [(c, true)] := by unfold addC; rw [if_pos hc0]
    have e2 : fnd (addC es c) c = es.length + 2 := by rw [e1, fnd_more, hc0]; simp
    rw [addAll_old r (by omega : fnd (addC es c) c ≠ 0), e2]
    have := addAll_new r (addC es c) (hz y hy hy0) (addAll_has hy)
    rw [e1, List.length_append, List.length_singleton] at this
    rw [e1]
    omega
/-- Those that go: falling, and not there any more. -/
theorem back_out (h : TLS ls es U E) (hl : Rl l) {es2 : En} {U1 U2 : Nat → Int} {out : List Nat} (r : RemI (ls ++ [l]) l (addAll es (chSL l [])) U1 ([] :: chSL l []) es2 U2 out) : out.Pairwise (· > ·) ∧ ∀ n ∈ out, ent es2 n = none := by
  rw [r.out]
  constructor
  · rw [List.pairwise_map]
    have h0 := addAll_up (chSL l []) es (chSL_nodup l [])
    have h1 : ([] :: chSL l []).Pairwise (fun x y => goes (ls ++ [l]) l x = true → goes (ls ++ [l]) l y = true → fnd (addAll es (chSL l [])) x < fnd (addAll es (chSL l [])) y) :=
      List.pairwise_cons.2 ⟨fun y _ hg => absurd rfl (goes_new h hg).1, h0.imp (fun {a b} q g1 g2 => q (goes_new h g1).2 (goes_new h g2).2)⟩
    have h2 := (List.pairwise_reverse.2 (h1.imp (S := fun y x => goes (ls ++ [l]) l y = true → goes (ls ++ [l]) l x = true → fnd (addAll es (chSL l [])) y < fnd (addAll es (chSL l [])) x) (fun {a b} q => q)))
    refine (List.Pairwise.filter _ h2).imp_of_mem (fun {a b} ha hb q => ?_)
    exact q (List.mem_filter.1 hb).2 (List.mem_filter.1 ha).2
  · intro n hn
    obtain ⟨x, hx, rfl⟩ := List.mem_map.1 hn
    have hg := goes_new h (List.mem_filter.1 hx).2
    rw [back_alv h hl r]
    cases e : ent es (fnd (addAll es (chSL l [])) x) with
    | none => rfl
    | some y =>
      have hy := (ent_fnd h.tl.ok).1 e
      have hy2 := addAll_old (chSL l []) (by omega : fnd es y ≠ 0)
      have := fnd_inj (h.add hl).tl.ok (c := y) (d := x) (by omega) (by omega)
      subst this
      omega
end
end
end Go.Proofs.Ytodghgeghpbdlaa
