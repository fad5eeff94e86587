/- Layer rule: the reference's own: does a variable stand in a condition's own terms? -/
import Derived.Test.YtpdofapbbpihlaaCRefHas
namespace Go.Proofs.Ytpdofapbbpihlaa
open Go.RowKit

set_option maxHeartbeats 2000000 in
theorem refOwn_any (k : Int) (x0 x1 x2 : Bool) (n0 n1 n2 : Int) (len : Nat) (v : Int) (a : Option Addr) (cap : Nat) (w : World) :
    Calls Try.prog 31 #[vR ⟨k, x0, x1, x2, n0, n1, n2⟩ (.slice a len cap), .int .i64 v] w fun e w' => e = .returned (.bool (decide (k < 3) && ownN x0 x1 x2 n0 n1 n2 v)) ∧ Kept Nil w w' := by
  have B0 := Lib.hid (Blk.new w 59 (arrR ⟨k, x0, x1, x2, n0, n1, n2⟩ (.slice a len cap)))
  have K0 := Lib.hid ((Kept.refl Nil w).alloc (.cells (arrR ⟨k, x0, x1, x2, n0, n1, n2⟩ (.slice a len cap)) 59))
  have e1 := isV_true
  have e0 := isV_false
  have HO : Hid (ownN x0 x1 x2 n0 n1 n2 v = ((x0 && n0 == v) || ((x1 && n1 == v) || (x2 && n2 == v)))) := Lib.hid rfl
  go_enter Try.func31, Try.ntmps31
  go_wp2_with fail
  go_loopw [5] (fun i wr => ((i = .int .i64 0) ∨ (i = .int .i64 1 ∧ (decide (k < 3) && (x0 && n0 == v)) = false) ∨ (i = .int .i64 2 ∧ (decide (k < 3) && (x0 && n0 == v)) = false ∧ (decide (k < 3) && (x1 && n1 == v)) = false) ∨ (i = .int .i64 3 ∧ (decide (k < 3) && ownN x0 x1 x2 n0 n1 n2 v) = false)) ∧ Blk wr w.heap.size 59 (arrR ⟨k, x0, x1, x2, n0, n1, n2⟩ (.slice a len cap)) ∧ Kept Nil w wr) (fun i _ => (3 - intOf i).toNat)
  case atStart => exact ⟨.inl rfl, B0.out, K0.out⟩
  case round =>
    obtain ⟨hrel, hB, hK⟩ := hrel
    have HB := Lib.hid hB
    have HK := Lib.hid hK
    have c0 := hB.cell 0
    have c1 := hB.cell 1
    have c2 := hB.cell 2
    have c3 := hB.cell 3
    have c4 := hB.cell 4
    have c5 := hB.cell 5
    have c6 := hB.cell 6
    have c7 := hB.cell 7
    simp only [arrR] at c0 c1 c2 c3 c4 c5 c6 c7
    simp at c0 c1 c2 c3 c4 c5 c6 c7
    clear hB hK B0 K0
    rcases hrel with rfl | ⟨rfl, h0⟩ | ⟨rfl, h0, h1⟩ | ⟨rfl, h0⟩
    · by_cases hk : k < 3
      · cases x0
        · have Q : Hid ((decide (k < 3) && (false && n0 == v)) = false) := Lib.hid (by simp)
          go_wp2_with fail
          go_roundw
          case rel => exact ⟨.inr (.inl ⟨rfl, Q.out⟩), HB.out, HK.out⟩
          case measure => decide
        · by_cases hn : n0 = v
          · subst hn
            go_wp2_with fail
            go_ret
            exact ⟨by rw [HO.out]; simp [hk], HK.out⟩
          · have hn' : (n0 == v) = false := by simpa using hn
            have Q : Hid ((decide (k < 3) && (true && n0 == v)) = false) := Lib.hid (by rw [hn']; simp)
            clear hn
            go_wp2_with fail
            go_roundw
            case rel => exact ⟨.inr (.inl ⟨rfl, Q.out⟩), HB.out, HK.out⟩
            case measure => decide
      · have hk' : decide (k < 3) = false := decide_eq_false hk
        have Q : Hid ((decide (k < 3) && (x0 && n0 == v)) = false) := Lib.hid (by rw [hk']; rfl)
        clear hk
        go_wp2_with fail
        go_roundw
        case rel => exact ⟨.inr (.inl ⟨rfl, Q.out⟩), HB.out, HK.out⟩
        case measure => decide
    · have P0 := Lib.hid h0
      clear h0
      by_cases hk : k < 3
      · cases x1
        · have Q : Hid ((decide (k < 3) && (false && n1 == v)) = false) := Lib.hid (by simp)
          go_wp2_with fail
          go_roundw
          case rel => exact ⟨.inr (.inr (.inl ⟨rfl, P0.out, Q.out⟩)), HB.out, HK.out⟩
          case measure => decide
        · by_cases hn : n1 = v
          · subst hn
            go_wp2_with fail
            go_ret
            exact ⟨by rw [HO.out]; simp [hk], HK.out⟩
          · have hn' : (n1 == v) = false := by simpa using hn
            have Q : Hid ((decide (k < 3) && (true && n1 == v)) = false) := Lib.hid (by rw [hn']; simp)
            clear hn
            go_wp2_with fail
            go_roundw
            case rel => exact ⟨.inr (.inr (.inl ⟨rfl, P0.out, Q.out⟩)), HB.out, HK.out⟩
            case measure => decide
      · have hk' : decide (k < 3) = false := decide_eq_false hk
        have Q : Hid ((decide (k < 3) && (x1 && n1 == v)) = false) := Lib.hid (by rw [hk']; rfl)
        clear hk
        go_wp2_with fail
        go_roundw
        case rel => exact ⟨.inr (.inr (.inl ⟨rfl, P0.out, Q.out⟩)), HB.out, HK.out⟩
        case measure => decide
    · have P0 := Lib.hid h0
      clear h0
      have P1 := Lib.hid h1
      clear h1
      by_cases hk : k < 3
      · cases x2
        · have Q : Hid ((decide (k < 3) && (false && n2 == v)) = false) := Lib.hid (by simp)
          go_wp2_with fail
          go_roundw
          case rel => exact ⟨.inr (.inr (.inr ⟨rfl, by rw [HO.out, Bool.and_or_distrib_left, Bool.and_or_distrib_left, P0.out, P1.out, show (decide (k < 3) && (false && n2 == v)) = false from Q.out]; rfl⟩)), HB.out, HK.out⟩
          case measure => decide
        · by_cases hn : n2 = v
          · subst hn
            go_wp2_with fail
            go_ret
            exact ⟨by rw [HO.out]; simp [hk], HK.out⟩
          · have hn' : (n2 == v) = false := by simpa using hn
            have Q : Hid ((decide (k < 3) && (true && n2 == v)) = false) := Lib.hid (by rw [hn']; simp)
            clear hn
            go_wp2_with fail
            go_roundw
            case rel => exact ⟨.inr (.inr (.inr ⟨rfl, by rw [HO.out, Bool.and_or_distrib_left, Bool.and_or_distrib_left, P0.out, P1.out, show (decide (k < 3) && (true && n2 == v)) = false from Q.out]; rfl⟩)), HB.out, HK.out⟩
            case measure => decide
      · have hk' : decide (k < 3) = false := decide_eq_false hk
        have Q : Hid ((decide (k < 3) && (x2 && n2 == v)) = false) := Lib.hid (by rw [hk']; rfl)
        clear hk
        go_wp2_with fail
        go_roundw
        case rel => exact ⟨.inr (.inr (.inr ⟨rfl, by rw [HO.out, Bool.and_or_distrib_left, Bool.and_or_distrib_left, P0.out, P1.out, show (decide (k < 3) && (x2 && n2 == v)) = false from Q.out]; rfl⟩)), HB.out, HK.out⟩
        case measure => decide
    · have HE := Lib.hid h0
      clear h0 c0 c1 c2 c3 c4 c5 c6 c7
      go_wp2_with fail
      go_ret
      exact ⟨by rw [HE.out]; rfl, HK.out⟩
end Go.Proofs.Ytpdofapbbpihlaa
