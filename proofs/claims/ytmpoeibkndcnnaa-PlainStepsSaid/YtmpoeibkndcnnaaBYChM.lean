/- Layer plain, plain mathematics: the chains of good steps, for PlainSteps. No program. -/
import Derived.Test.YtmpoeibkndcnnaaA6
namespace Go.Proofs.Ytmpoeibkndcnnaa
open Go.RowKit
set_option maxRecDepth 100000

/-- A chain is not empty, of good steps, and has no more Pos than there are. -/
theorem chS_good : (∀ (s : St) (ab x : List St), s.goodS → (∀ c ∈ ab, c.goodS) → x ∈ s.chs ab → x ≠ [] ∧ (∀ c ∈ x, c.goodS) ∧ posSL x ≤ posSL ab + s.posS) ∧ ∀ l ab x : List St, (∀ c ∈ l, c.goodS) → (∀ c ∈ ab, c.goodS) → x ∈ chSL l ab → x ≠ [] ∧ (∀ c ∈ x, c.goodS) ∧ posSL x ≤ posSL ab + posSL l := by
  refine St.ind2 (fun hd subs ih ab x hg hab hx => ?_) (fun ab x _ _ hx => by simp [chSL_nil] at hx) (fun a l ha hl ab x hg hab hx => ?_)
  · rw [chsS_mk] at hx
    obtain ⟨_, _, _, hs⟩ := goodS_mk.1 hg
    rcases List.mem_append.1 hx with hx | hx
    · split at hx
      · obtain ⟨i1, i2, i3⟩ := ih ab x hs hab hx
        exact ⟨i1, i2, by rw [posS_mk]; omega⟩
      · cases hx
    · rw [List.mem_singleton.1 hx]
      refine ⟨by simp, fun c hc => ?_, by rw [posSL_append, posSL_cons, posSL_nil]; omega⟩
      rcases List.mem_append.1 hc with hc | hc
      · exact hab c hc
      · rw [List.mem_singleton.1 hc]; exact hg
  · rw [chSL_cons] at hx
    rw [posSL_cons]
    rcases List.mem_append.1 hx with hx | hx
    · obtain ⟨i1, i2, i3⟩ := ha ab x (hg a List.mem_cons_self) hab hx
      exact ⟨i1, i2, by omega⟩
    · obtain ⟨i1, i2, i3⟩ := hl (ab ++ [a]) x (fun c hc => hg c (List.mem_cons_of_mem _ hc)) (fun c hc => by
        rcases List.mem_append.1 hc with hc | hc
        · exact hab c hc
        · rw [List.mem_singleton.1 hc]; exact hg a List.mem_cons_self) hx
      refine ⟨i1, i2, ?_⟩
      rw [posSL_append, posSL_cons, posSL_nil] at i3
      omega
theorem chS_len : (∀ (s : St) (ab x : List St), x ∈ s.chs ab → x.length ≤ ab.length + s.cnt) ∧ ∀ l ab x : List St, x ∈ chSL l ab → x.length ≤ ab.length + cntL l := by
  refine St.ind2 (fun hd subs ih ab x hx => ?_) (fun ab x hx => by simp [chSL_nil] at hx) (fun a l ha hl ab x hx => ?_)
  · rw [chsS_mk] at hx
    rw [St.cnt]
    rcases List.mem_append.1 hx with hx | hx
    · split at hx
      · have := ih ab x hx; omega
      · cases hx
    · rw [List.mem_singleton.1 hx, List.length_append]
      simp
  · rw [chSL_cons] at hx
    rw [cntL]
    rcases List.mem_append.1 hx with hx | hx
    · have := ha ab x hx; omega
    · have := hl (ab ++ [a]) x hx
      rw [List.length_append, List.length_singleton] at this
      have h1 : 1 ≤ a.cnt := by obtain ⟨h, s⟩ := a; rw [St.cnt]; omega
      omega
end Go.Proofs.Ytmpoeibkndcnnaa
