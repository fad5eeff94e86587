/- Layer rule: slices.Equal of two rows of numbers; the program's within: whether a way goes to something in a scope. -/
import Derived.Test.YtpdofapbbpihlaaDSeek
namespace Go.Proofs.Ytpdofapbbpihlaa
open Go.RowKit

theorem Kid.keptN {w w' : World} {B : Nat} {u : Value} {way : List Nat} (h : Kid w B u way) (k : Kept Nil w w') : Kid w' B u way := h.kept k (fun _ _ _ _ g => g)
theorem take_eq_succ {p q : List Nat} {j x y : Nat} (hp : p[j]? = some x) (hq : q[j]? = some y) (h : p.take j = q.take j) (e : x = y) : p.take (j + 1) = q.take (j + 1) := by
  subst e
  rw [List.take_add_one, List.take_add_one, hp, hq, h]
set_option maxHeartbeats 1000000 in
theorem equal_any (w : World) {B1 B2 : Nat} {u1 u2 : Value} {p q : List Nat} (h1 : Kid w B1 u1 p) (h2 : Kid w B2 u2 q) (hp : p.length ≤ 1000) :
    Calls Try.prog 53 #[u1, u2] w fun e w' => e = .returned (.bool (decide (p = q))) ∧ Kept Nil w w' := by
  obtain ⟨g1, c1, cs1, rfl, _, _, b1, r1⟩ := h1
  obtain ⟨g2, c2, cs2, rfl, _, _, b2, r2⟩ := h2
  by_cases hl : p.length = q.length
  · have HP : Hid (p.length = p.length) := Lib.hid rfl
    rw [← hl]
    generalize hn : p.length = n at *
    have HPn := Lib.hid hn
    have HQn := Lib.hid hl
    have R1 := Lib.hid r1
    have R2 := Lib.hid r2
    have B1 := Lib.hid b1
    have B2 := Lib.hid b2
    clear hn hl r1 r2 b1 b2 HP
    go_enter Try.func53, Try.ntmps53
    go_wp2_with fail
    go_loopw [5, 13] (fun _ i wr => ∃ j : Nat, j ≤ n ∧ i = .int .i64 j ∧ Hid (p.take j = q.take j) ∧ Kept Nil w wr) (fun _ i _ => n - (intOf i).toNat)
    case atStart => exact ⟨0, by omega, rfl, Lib.hid (by simp), Kept.refl _ _⟩
    case round =>
      obtain ⟨j, hj, rfl, HT, hK⟩ := hrel
      have HK := Lib.hid hK
      clear hK
      by_cases hlt : j < n
      · obtain ⟨x, hx⟩ : ∃ x, p[j]? = some x := ⟨_, List.getElem?_eq_getElem (by have := HPn.out; omega)⟩
        obtain ⟨y, hy⟩ : ∃ y, q[j]? = some y := ⟨_, List.getElem?_eq_getElem (by have := HQn.out; omega)⟩
        have z1 := (B1.out.kept HK.out id).cell j
        have z2 := (B2.out.kept HK.out id).cell j
        rw [R1.out j x hx] at z1
        rw [R2.out j y hy] at z2
        have HX := Lib.hid hx
        have HY := Lib.hid hy
        clear hx hy
        by_cases hxy : x = y
        · subst hxy
          go_wp2_with fail
          go_quiet (fail)
          go_wp2_with fail
          go_roundw
          case rel => exact ⟨j + 1, by omega, by go_num, Lib.hid (take_eq_succ HX.out HY.out HT.out rfl), HK.out.drewN _⟩
          case measure => simp [intOf]; omega
        · have hxi : ((x : Int) == (y : Int)) = false := by simp; omega
          have hxn : ((x : Int) != (y : Int)) = true := by simp; omega
          go_wp2_with fail
          go_quiet (fail)
          go_wp2_with fail
          go_ret
          exact ⟨ret_bool (by
            rw [eq_comm, decide_eq_false_iff_not]
            intro e
            subst e
            have h1 := HX.out
            rw [HY.out] at h1
            cases h1
            exact hxy rfl), HK.out.drewN _⟩
      · obtain rfl : j = n := by omega
        have HE : Hid (p = q) := Lib.hid (by
          have h := HT.out
          rwa [List.take_of_length_le (by have := HPn.out; omega), List.take_of_length_le (by have := HQn.out; omega)] at h)
        go_wp2_with fail
        go_ret
        exact ⟨ret_bool (by rw [eq_comm, decide_eq_true_eq]; exact HE.out), HK.out⟩
  · have HE : Hid (¬ p = q) := Lib.hid (fun e => hl (by rw [e]))
    generalize p.length = n at *
    generalize q.length = m at *
    have h1 : ((n : Int) == (m : Int)) = false := by simp; omega
    have h2 : ((n : Int) != (m : Int)) = true := by simp; omega
    clear r1 r2 b1 b2
    go_enter Try.func53, Try.ntmps53
    go_wp2_with fail
    go_ret
    exact ⟨ret_bool (by rw [eq_comm, decide_eq_false_iff_not]; exact HE.out), Kept.refl _ _⟩
/-- A way in a scope, or not. -/
theorem within_any (w : World) {B1 B2 : Nat} {u1 u2 : Value} {p q : List Nat} (h1 : Kid w B1 u1 p) (h2 : Kid w B2 u2 q) (hq : q.length ≤ 1000) :
    Calls Try.prog 40 #[u1, u2] w fun e w' => e = .returned (.bool (decide (q <+: p))) ∧ Kept Nil w w' := by
  have K1 := h1
  obtain ⟨g1, c1, cs1, rfl, hc1, hb1, b1, r1⟩ := h1
  by_cases hl : q.length ≤ p.length
  · have HE : Hid (decide (p.take q.length = q) = decide (q <+: p)) := Lib.hid (by
      refine decide_eq_decide.2 ?_
      rw [List.prefix_iff_eq_take]
      exact ⟨Eq.symm, Eq.symm⟩)
    have hlen : (p.take q.length).length = q.length := by rw [List.length_take]; omega
    have HC := Lib.hid (equal_any w (u1 := .slice (some ⟨g1, 0, none⟩) q.length c1) (p := p.take q.length) ⟨g1, c1, cs1, by rw [hlen], by omega, hb1, b1, fun j x hj => r1 j x (by
      rw [List.getElem?_take] at hj
      split at hj
      · exact hj
      · cases hj)⟩ h2 (by omega))
    obtain ⟨g2, c2, cs2, rfl, hc2, _, _, _⟩ := h2
    rw [HE.out] at HC
    generalize decide (q <+: p) = r at HC
    clear K1 r1 b1 HE hlen
    generalize p.length = n at *
    generalize q.length = m at *
    go_enter Try.func40, Try.ntmps40
    go_wp2_with fail
    refine HC.out.mono ?_
    rintro e w2 ⟨rfl, k2⟩
    go_wp2_with fail
    go_ret
    exact ⟨rfl, k2⟩
  · have HE : Hid (decide (q <+: p) = false) := Lib.hid (by
      rw [decide_eq_false_iff_not]
      exact fun e => hl e.length_le)
    rw [HE.out]
    obtain ⟨g2, c2, cs2, rfl, _, _, _, _⟩ := h2
    clear K1 r1 b1 HE
    generalize p.length = n at *
    generalize q.length = m at *
    go_enter Try.func40, Try.ntmps40
    go_wp2_with fail
    go_ret
    exact ⟨rfl, Kept.refl _ _⟩
end Go.Proofs.Ytpdofapbbpihlaa
