/- The law's own comparisons: two lists of numbers, two lists of keys. -/
import Derived.Test.YthiijlngoikhkaaOAw
namespace Go.Proofs.Ythiijlngoikhkaa
open Go.RowKit Go.Maps Go.WideMaps
set_option maxRecDepth 100000

theorem take_eq_succ {α : Type} {xs ys : List α} {j : Nat} {x y : α} (h : xs.take j = ys.take j) (hx : xs[j]? = some x) (hy : ys[j]? = some y) (e : x = y) : xs.take (j + 1) = ys.take (j + 1) := by
  rw [List.take_add_one, List.take_add_one, h, hx, hy, e]
theorem In.one {w : World} {a : Option Addr} {len : Nat} {xs : List Int} (h : In cN 1 w a len xs) {j : Nat} {x : Int} (hj : xs[j]? = some x) : ∃ b o, a = some ⟨b, o, none⟩ ∧ b < w.heap.size ∧ w.cell? ⟨b, o + j, none⟩ = some (.int .i64 x) := by
  obtain ⟨b, o, e, hb, hc⟩ := h.at_ hj
  have := hc 0 _ rfl
  rw [Nat.mul_one] at this
  exact ⟨b, o, e, hb, this⟩
set_option maxHeartbeats 4000000 in
theorem ints_any {w : World} {a a' : Option Addr} {n n' c c' : Nat} {xs ys : List Int} (hx : In cN 1 w a n xs) (hy : In cN 1 w a' n' ys) (hn : n ≤ 100000) (hn' : n' ≤ 100000) :
    Calls Try.prog 26 #[.slice a n c, .slice a' n' c'] w fun e w' => e = .returned (.bool (decide (xs = ys))) ∧ Kept Nil w w' := by
  by_cases hl : n = n'
  · subst hl
    have HX := Lib.hid hx
    have HY := Lib.hid hy
    clear hx hy
    go_enter Try.func26, Try.ntmps26
    go_wp2_with fail
    go_loopw [5, 13] (fun _ i wr => ∃ j : Nat, j ≤ n ∧ i = .int .i64 j ∧ xs.take j = ys.take j ∧ Kept Nil w wr) (fun _ i _ => n - (intOf i).toNat)
    case atStart => exact ⟨0, Nat.zero_le _, rfl, by simp, Kept.refl _ _⟩
    case round =>
      obtain ⟨j, hj, rfl, hE, hK⟩ := hrel
      have HE := Lib.hid hE
      have HK := Lib.hid hK
      clear hE hK
      by_cases hjn : j < n
      · obtain ⟨x, hxj⟩ : ∃ x, xs[j]? = some x := ⟨xs[j]'(by have := HX.out.1; omega), by simp⟩
        obtain ⟨y, hyj⟩ : ∃ y, ys[j]? = some y := ⟨ys[j]'(by have := HY.out.1; omega), by simp⟩
        obtain ⟨b, o, rfl, hb, q⟩ := (HX.out.kept HK.out).one hxj
        obtain ⟨b', o', rfl, hb', q'⟩ := (HY.out.kept HK.out).one hyj
        have HXJ := Lib.hid (And.intro hxj hyj)
        clear hxj hyj
        by_cases e : x = y
        · subst e
          go_wp2_with fail
          go_quiet (fail)
          go_wp2_with fail
          go_roundw
          case rel => exact ⟨j + 1, hjn, by go_num, take_eq_succ HE.out HXJ.out.1 HXJ.out.2 rfl, HK.out.drewN _⟩
          case measure => simp [intOf]; omega
        · have hne : (x != y) = true := bne_iff_ne.2 e
          have hd := Lib.hid (show decide (xs = ys) = false from decide_eq_false (fun e2 => e (by
            have h1 := HXJ.out.1
            rw [e2, HXJ.out.2] at h1
            injection h1 with h1
            exact h1.symm)))
          clear e
          go_wp2_with fail
          go_quiet (fail)
          go_wp2_with fail
          go_ret
          exact ⟨ret_bool hd.out.symm, HK.out.drewN _⟩
      · obtain rfl : j = n := by omega
        have hd := Lib.hid (show decide (xs = ys) = true from decide_eq_true (by
          have := HE.out
          rwa [List.take_of_length_le (by rw [HX.out.1]; exact Nat.le_refl _), List.take_of_length_le (by rw [HY.out.1]; exact Nat.le_refl _)] at this))
        go_wp2_with fail
        go_ret
        exact ⟨ret_bool hd.out.symm, HK.out⟩
  · have hd := Lib.hid (show decide (xs = ys) = false from decide_eq_false (fun e => hl (by rw [← hx.1, ← hy.1, e])))
    have hne : (n != n') = true := bne_iff_ne.2 hl
    have hne2 : ((n : Int) != (n' : Int)) = true := bne_iff_ne.2 (by omega)
    clear hl hx hy
    go_enter Try.func26, Try.ntmps26
    go_wp2_with fail
    go_ret
    exact ⟨ret_bool hd.out.symm, Kept.refl _ _⟩
end Go.Proofs.Ythiijlngoikhkaa
