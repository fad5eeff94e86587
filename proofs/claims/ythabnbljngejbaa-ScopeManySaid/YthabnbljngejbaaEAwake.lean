/- Layer scope: the law's own example. -/
import Derived.Test.YthabnbljngejbaaEEach
import Derived.Test.YthabnbljngejbaaEOwn
import Derived.Test.YthabnbljngejbaaEBound
namespace Go.Proofs.Ythabnbljngejbaa
open Go.RowKit

theorem one_any (n : Int) (w : World) : Calls Try.prog 17 #[.int .i64 n] w fun e w' => e = .returned (vA ⟨1, false, false, true, n, 1, n⟩ (.slice none 0 0)) ∧ Kept Nil w w' := by
  go_enter Try.func17, Try.ntmps17
  go_wp2
  exact bodyPost_ret (v := vA ⟨1, false, false, true, n, 1, n⟩ (.slice none 0 0)) (by simp [results, Try.results17, go_sem]) rfl ⟨rfl, (Kept.refl _ _).alloc _⟩
abbrev hOne (n : Int) : Hd := ⟨1, false, false, true, n, 1, n⟩
abbrev hNcc : Hd := ⟨3, false, false, false, 0, 0, 0⟩
def exIn : List Sh := [.mk (hOne 2) [], .mk (hOne 3) []]
def exL : List Sh := [.mk (hOne 1) [], .mk hNcc exIn, .mk (hOne 4) []]
theorem exL_few : countL exL ≤ 16 := by decide +kernel
theorem exL_right : chkL exL 1 = 0 := by decide +kernel
theorem exL_chains : (chL exL []).length = 5 ∧ ((chL exL [])[2]?).map List.length = some 3 := by decide +kernel
theorem exL_own : ownL exL 3 = [0, 3, 4] := by decide +kernel
theorem exL_bound : bdL exL 32 = [(1, 0, 2), (4, 1, 2)] := by decide +kernel
abbrev cells16 : Array Value := #[.int .i64 1, .bool false, .int .i64 2, .bool false, .int .i64 1, .bool true, .int .i64 2, .slice none 0 0, .int .i64 1, .bool false, .int .i64 3, .bool false, .int .i64 1, .bool true, .int .i64 3, .slice none 0 0]
abbrev cells24 (g : Nat) : Array Value := #[.int .i64 1, .bool false, .int .i64 1, .bool false, .int .i64 1, .bool true, .int .i64 1, .slice none 0 0, .int .i64 3, .bool false, .int .i64 0, .bool false, .int .i64 0, .bool false, .int .i64 0, .slice (some ⟨g, 0, none⟩) 2 2, .int .i64 1, .bool false, .int .i64 4, .bool false, .int .i64 1, .bool true, .int .i64 4, .slice none 0 0]
theorem exL_holds {W : World} {G g : Nat} (b : Blk W g 38 cells16) (b' : Blk W G 38 (cells24 g)) : Holds cA W (fun b _ => b < W.heap.size) (.slice (some ⟨G, 0, none⟩) exL.length 3) exL := by
  have hin : Holds cA W (fun b _ => b < W.heap.size) (.slice (some ⟨g, 0, none⟩) exIn.length 2) exIn := by
    refine .row g 0 2 exIn (fun _ => .slice none 0 0) (by decide) b.lt (fun i x hi => ?_) (fun i x hi => ?_)
    · have hl := (List.getElem?_eq_some_iff.1 hi).1
      have : i = 0 ∨ i = 1 := by simp [exIn] at hl; omega
      rcases this with rfl | rfl
      · cases hi; exact World.rangeAt_of_block b 0 8
      · cases hi; exact World.rangeAt_of_block b 8 8
    · have hl := (List.getElem?_eq_some_iff.1 hi).1
      have : i = 0 ∨ i = 1 := by simp [exIn] at hl; omega
      rcases this with rfl | rfl <;> (cases hi; exact .nil none 0)
  refine .row G 0 3 exL (fun i => if i = 1 then .slice (some ⟨g, 0, none⟩) 2 2 else .slice none 0 0) (by decide) b'.lt (fun i x hi => ?_) (fun i x hi => ?_)
  · have hl := (List.getElem?_eq_some_iff.1 hi).1
    have : i = 0 ∨ i = 1 ∨ i = 2 := by simp [exL] at hl; omega
    rcases this with rfl | rfl | rfl
    · cases hi; exact World.rangeAt_of_block b' 0 8
    · cases hi; exact World.rangeAt_of_block b' 8 8
    · cases hi; exact World.rangeAt_of_block b' 16 8
  · have hl := (List.getElem?_eq_some_iff.1 hi).1
    have : i = 0 ∨ i = 1 ∨ i = 2 := by simp [exL] at hl; omega
    rcases this with rfl | rfl | rfl
    · cases hi; exact .nil none 0
    · cases hi; exact hin
    · cases hi; exact .nil none 0
set_option maxHeartbeats 4000000 in
theorem awake_any (w : World) : Calls Try.prog 7 #[] w fun e w' => e = .returned (.bool true) ∧ Kept Nil w w' := by
  have C1 := Lib.hid (fun n W => one_any n W)
  have CC : Hid (∀ W G g, Blk W g 38 cells16 → Blk W G 38 (cells24 g) → Calls Try.prog 8 #[.slice (some ⟨G, 0, none⟩) 3 3] W fun e w' => ∃ a' n' c', e = .returned (.slice a' n' c') ∧ Lists cA w' (fun b _ => b < w'.heap.size) (.slice a' n' c') (chL exL []) ∧ Kept Nil W w') := Lib.hid fun W G g b b' => chains_any exL exL_few exL_right _ _ 3 W (exL_holds b b') (fun _ _ h => h)
  have CO : Hid (∀ W G g, Blk W g 38 cells16 → Blk W G 38 (cells24 g) → Calls Try.prog 12 #[.slice (some ⟨G, 0, none⟩) 3 3] W fun e w' => ∃ a' n' c', e = .returned (.slice a' n' c') ∧ Ints w' (.slice a' n' c') [0, 3, 4] ∧ Kept Nil W w') := Lib.hid fun W G g b b' => by
    have := own_any exL exL_few exL_right _ _ 3 W (exL_holds b b')
    rw [show exL.length = 3 from rfl, exL_own] at this
    exact this
  have CB : Hid (∀ W G g, Blk W g 38 cells16 → Blk W G 38 (cells24 g) → Calls Try.prog 18 #[.slice (some ⟨G, 0, none⟩) 3 3] W fun e w' => ∃ a' n' c', e = .returned (.slice a' n' c') ∧ Places w' (.slice a' n' c') [(1, 0, 2), (4, 1, 2)] ∧ Kept Nil W w') := Lib.hid fun W G g b b' => by
    have := bound_any exL (by decide) _ _ 3 W (exL_holds b b')
    rw [exL_bound] at this
    exact this
  go_enter Try.func7, Try.ntmps7
  go_wp2_with fail
  refine (C1.out 1 _).mono ?_
  rintro e w1 ⟨rfl, k1⟩
  have K1 := Lib.hid k1
  clear k1
  go_wp2_with fail
  refine (C1.out 2 _).mono ?_
  rintro e w2 ⟨rfl, k2⟩
  have K2 := Lib.hid (K1.out.trans k2 (fun _ _ g => g))
  clear k2 K1
  go_wp2_with fail
  refine (C1.out 3 _).mono ?_
  rintro e w3 ⟨rfl, k3⟩
  have K3 := Lib.hid (K2.out.trans k3 (fun _ _ g => g))
  clear k3 K2
  go_wp2_with fail
  have B3 := Lib.hid (Blk.new w3 38 cells16)
  refine (C1.out 4 _).mono ?_
  rintro e w4 ⟨rfl, k4⟩
  have B4 := Lib.hid (B3.out.kept k4 id)
  have K4 := Lib.hid ((K3.out.alloc _).trans k4 (fun _ _ g => g))
  clear k4 K3 B3
  go_wp2_with fail
  have BG := Lib.hid (Blk.new w4 38 (cells24 w3.heap.size))
  have Bg := Lib.hid (B4.out.alloc (.cells (cells24 w3.heap.size) 38))
  have KG := Lib.hid (K4.out.alloc (.cells (cells24 w3.heap.size) 38))
  refine (CC.out _ _ _ Bg.out BG.out).mono ?_
  rintro e w5 ⟨a1, n1, c1, rfl, h1, k5⟩
  have L1 := Lib.hid h1
  have Bg5 := Lib.hid (Bg.out.kept k5 id)
  have BG5 := Lib.hid (BG.out.kept k5 id)
  have K5 := Lib.hid (KG.out.trans k5 (fun _ _ g => g))
  clear h1 k5 BG Bg KG K4 B4 CC C1
  go_wp2_with fail
  refine (CO.out _ _ _ Bg5.out BG5.out).mono ?_
  rintro e w6 ⟨a2, n2, c2, rfl, h2, k6⟩
  have L2 := Lib.hid h2
  have Bg6 := Lib.hid (Bg5.out.kept k6 id)
  have BG6 := Lib.hid (BG5.out.kept k6 id)
  have K6 := Lib.hid (K5.out.trans k6 (fun _ _ g => g))
  have L16 := Lib.hid (L1.out.kept k6)
  clear h2 k6 BG5 Bg5 K5 CO L1
  go_wp2_with fail
  refine (CB.out _ _ _ Bg6.out BG6.out).mono ?_
  rintro e w7 ⟨a3, n3, c3, rfl, h3, k7⟩
  have K7 := Lib.hid (K6.out.trans k7 (fun _ _ g => g))
  obtain ⟨a1', c1', e1, _, f1⟩ := L16.out.kept k7
  obtain ⟨a2', c2', e2, f2⟩ := L2.out.kept k7
  obtain ⟨a3', c3', e3, f3⟩ := h3
  cases e1
  cases e2
  cases e3
  obtain ⟨x, hx, hx3⟩ := Option.map_eq_some_iff.1 exL_chains.2
  obtain ⟨g1, b1, d1, rfl, z1, _⟩ := f1 2 x hx
  obtain ⟨g2, rfl, z2⟩ := f2 1 3 rfl
  obtain ⟨g2', e2', z3⟩ := f2 2 4 rfl
  cases e2'
  obtain ⟨g3, rfl, z4⟩ := f3 1 (4, 1, 2) rfl
  have z40 := z4 0 _ rfl
  have z41 := z4 1 _ rfl
  have z42 := z4 2 _ rfl
  rw [hx3] at z1
  simp at z2 z3 z40 z41 z42
  rw [exL_chains.1]
  clear f1 f2 f3 z4 hx hx3 k7 L16 L2 Bg6 BG6 K6 CB
  simp only [List.length_cons, List.length_nil, Nat.reduceAdd]
  go_wp2_with fail
  go_ret
  exact ⟨rfl, K7.out⟩
end Go.Proofs.Ythabnbljngejbaa
