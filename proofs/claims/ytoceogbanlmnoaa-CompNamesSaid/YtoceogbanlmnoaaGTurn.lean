/- Layer comp: plain mathematics: conditions with other names of variables have the same steps. -/
import Derived.Test.YtoceogbanlmnoaaGF
import Derived.Test.YtoceogbanlmnoaaDRuleM
namespace Go.Proofs.Ytoceogbanlmnoaa
open Go.RowKit
set_option maxRecDepth 100000

def Hd.vok (h : Hd) : Prop := (h.x0 = true → 1 ≤ h.n0 ∧ h.n0 ≤ 32) ∧ (h.x1 = true → 1 ≤ h.n1 ∧ h.n1 ≤ 32) ∧ (h.x2 = true → 1 ≤ h.n2 ∧ h.n2 ≤ 32)
theorem okTm_v {x : Bool} {n : Int} (h : okTm x n = true) : x = true → 1 ≤ n ∧ n ≤ 32 := by
  rintro rfl
  unfold okTm at h
  simpa using h
theorem chk_vok {hd : Hd} {subs : List Sh} {d : Int} (h : (Sh.mk hd subs).chk d = 0) : hd.vok := by
  by_cases hk : hd.k = 3
  · simp only [Sh.chk] at h
    by_cases h3 : 3 < d
    · rw [if_pos h3] at h; omega
    · rw [if_neg h3, if_pos hk] at h
      by_cases hs : hd.sameT zeroH = false
      · rw [if_pos hs] at h; omega
      · have hs' : hd.sameT zeroH = true := by simpa using hs
        unfold Hd.sameT at hs'
        obtain ⟨⟨a, _⟩, ⟨b, _⟩, c, _⟩ := of_decide_eq_true hs'
        exact ⟨fun e => absurd (a.symm.trans e) (by decide), fun e => absurd (b.symm.trans e) (by decide), fun e => absurd (c.symm.trans e) (by decide)⟩
  · obtain ⟨_, hf, _, _⟩ := chk_fine h hk
    obtain ⟨f0, f1, f2⟩ := fine_all hf
    exact ⟨okTm_v f0, okTm_v f1, okTm_v f2⟩
theorem kF_turn (b : Int) (x : Bool) (n : Int) : kF x (turnT b x n) = kF x n := by cases x <;> simp [kF, turnT]
theorem dec_turn {b v : Int} (hv : 1 ≤ v ∧ v ≤ 32) (x : Bool) (n : Int) : decide (true = x ∧ turnN b v = turnT b x n) = decide (true = x ∧ v = n) := by
  rw [decide_eq_decide]
  cases x
  · simp
  · have := @turnT_same b true n v hv
    simp only [Bool.true_and] at this
    constructor
    · rintro ⟨_, e⟩
      rw [← e] at this
      simp at this
      exact ⟨rfl, this.symm⟩
    · rintro ⟨_, e⟩
      subst e
      simp at this
      exact ⟨rfl, this.symm⟩
theorem hitF_turn {b v : Int} (hv : 1 ≤ v ∧ v ≤ 32) (h : Hd) : hitF (h.turn b) (turnN b v) = hitF h v := by
  show first3 (decide (true = h.x0 ∧ turnN b v = turnT b h.x0 h.n0)) (decide (true = h.x1 ∧ turnN b v = turnT b h.x1 h.n1)) (decide (true = h.x2 ∧ turnN b v = turnT b h.x2 h.n2)) = _
  rw [dec_turn hv, dec_turn hv, dec_turn hv]
  rfl
theorem fpL_turn {b v : Int} (hv : 1 ≤ v ∧ v ≤ 32) : ∀ (ch : List Sh) (back : Nat), fpL (turnL b ch) (turnN b v) back = fpL ch v back
  | [], back => by rw [turnL]; rfl
  | s :: r, back => by
    have hh : (s.turn b).hd = s.hd.turn b := by cases s; rw [turn_mk]; rfl
    have hk : (s.hd.turn b).k = s.hd.k := rfl
    rw [turnL, fpL, fpL, hh, hk, hitF_turn hv, fpL_turn hv r, fpL_turn hv r]
theorem turnT_v {b n : Int} (h : 1 ≤ n ∧ n ≤ 32) : turnT b true n = turnN b n := if_pos ⟨rfl, h⟩
theorem tstL_turn (b : Int) (ch : List Sh) (h : Hd) (hv : h.vok) : tstL (turnL b ch) (h.turn b) = tstL ch h := by
  obtain ⟨k, x0, x1, x2, n0, n1, n2⟩ := h
  obtain ⟨v0, v1, v2⟩ := hv
  unfold tstL tst0 tst1 tst2 Hd.turn
  simp only
  cases x0 <;> cases x1 <;> cases x2 <;> simp only [if_true, if_false, Bool.false_eq_true, false_and, true_and] <;>
    (first | rfl | skip) <;>
    (try rw [turnT_v (v0 rfl)]) <;> (try rw [turnT_v (v1 rfl)]) <;> (try rw [turnT_v (v2 rfl)]) <;>
    (try rw [fpL_turn (v0 rfl)]) <;> (try rw [fpL_turn (v1 rfl)]) <;> (try rw [fpL_turn (v2 rfl)]) <;>
    (try simp only [turnN_inj (v1 rfl) (v0 rfl)]) <;> (try simp only [turnN_inj (v2 rfl) (v0 rfl)]) <;> (try simp only [turnN_inj (v2 rfl) (v1 rfl)])
theorem turnL_append (b : Int) (x y : List Sh) : turnL b (x ++ y) = turnL b x ++ turnL b y := by rw [turnL_eq, turnL_eq, turnL_eq, List.map_append]
theorem st_turn (b : Int) : (∀ s : Sh, (∃ d, s.chk d = 0) → ∀ ch, (s.turn b).st (turnL b ch) = s.st ch) ∧ ∀ l : List Sh, (∃ d, chkL l d = 0) → ∀ ch, stL (turnL b l) (turnL b ch) = stL l ch := by
  refine Sh.ind2 (fun hd subs ih h ch => ?_) (fun _ ch => by rw [turnL, stL_nil, stL_nil]) (fun a l ha hl h ch => ?_)
  · obtain ⟨d, hd'⟩ := h
    rw [turn_mk, st_mk, st_mk]
    show (if hd.k = 3 then _ else _) = _
    by_cases hk : hd.k = 3
    · rw [if_pos hk, if_pos hk]
      rcases chk_zero hd' with ⟨_, _, hs⟩ | ⟨h2, _⟩
      · rw [ih ⟨_, hs⟩]; rfl
      · have : hd.k = 1 ∨ hd.k = 2 := h2
        omega
    · rw [if_neg hk, if_neg hk, tstL_turn b ch hd (chk_vok hd')]
      show St.mk ⟨hd.k, kF hd.x0 (turnT b hd.x0 hd.n0), kF hd.x1 (turnT b hd.x1 hd.n1), kF hd.x2 (turnT b hd.x2 hd.n2), _⟩ [] = _
      rw [kF_turn, kF_turn, kF_turn]
  · obtain ⟨d, h⟩ := h
    obtain ⟨h1, h2⟩ := (chkL_cons _ _ _).1 h
    rw [turnL, stL_cons, stL_cons, ha ⟨d, h1⟩]
    have e : turnL b ch ++ [a.turn b] = turnL b (ch ++ [a]) := by rw [turnL_append, turnL, turnL]
    rw [e, hl ⟨d, h2⟩]
theorem stL_turn (b : Int) (l : List Sh) (h : ∃ d, chkL l d = 0) : stL (turnL b l) [] = stL l [] := by
  have := (st_turn b).2 l h []
  rwa [turnL] at this
end Go.Proofs.Ytoceogbanlmnoaa
