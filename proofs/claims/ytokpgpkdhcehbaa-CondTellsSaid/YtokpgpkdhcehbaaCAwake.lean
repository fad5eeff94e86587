/- Layer cond: Size; the law's own example. -/
import Derived.Test.YtokpgpkdhcehbaaCSize
import Derived.Test.YtokpgpkdhcehbaaCCheck2
namespace Go.Proofs.Ytokpgpkdhcehbaa
open Go.RowKit

theorem bigSize_any (s : Sh) (hc : s.count ≤ 5000) (ok : Nat → Nat → Prop) (a : Option Addr) (cap : Nat) (w : World) (h : Holds cA w ok (.slice a s.subs.length cap) s.subs) :
    Calls Try.prog 14 #[vA s.hd (.slice a s.subs.length cap)] w fun e w' => e = .returned (.int .i64 (if s.chk 1 = 0 then (s.count : Int) else 0)) ∧ Kept Nil w w' := by
  have C := Lib.hid (fun w' (k : Kept Nil w w') => right_any s hc ok a cap w' (h.keptN k))
  have D := Lib.hid (fun w' (k : Kept Nil w w') => size_any s hc ok a cap w' (h.keptN k))
  generalize s.chk 1 = v at C ⊢
  generalize s.subs.length = len at C D ⊢
  generalize s.count = cnt at D ⊢
  generalize s.hd = hd at C D ⊢
  obtain ⟨k, x0, x1, x2, n0, n1, n2⟩ := hd
  have K0 := Lib.hid ((Kept.refl Nil w).alloc (.cells #[.int .i64 k, .bool x0, .int .i64 n0, .bool x1, .int .i64 n1, .bool x2, .int .i64 n2, .slice a len cap] 27))
  have B0 := Lib.hid (Blk.new w 27 #[.int .i64 k, .bool x0, .int .i64 n0, .bool x1, .int .i64 n1, .bool x2, .int .i64 n2, .slice a len cap])
  clear h
  go_enter Try.func14, Try.ntmps14
  go_wp2_with fail
  refine (C.out _ K0.out).mono ?_
  rintro e w2 ⟨rfl, k2⟩
  have K2 := Lib.hid (K0.out.trans k2 (fun _ _ g => g))
  have B2 := Lib.hid (B0.out.kept k2 id)
  clear k2
  by_cases hv : v = 0
  · subst hv
    go_wp2_with ((with_reducible refine wpList_load_A rfl (.tmp 1) rfl _ _ rfl ⟨k, x0, x1, x2, n0, n1, n2⟩ (.slice a len cap) ?_ ?_)
                 · exact World.rangeAt_of_block B2.out 0 8)
    refine (D.out _ K2.out).mono ?_
    rintro e w3 ⟨rfl, k3⟩
    go_wp2_with fail
    go_ret
    exact ⟨rfl, K2.out.trans k3 (fun _ _ g => g)⟩
  · have hv' : (v == 0) = false := by simpa using hv
    go_wp2_with fail
    go_ret
    exact ⟨by simp, K2.out⟩

/-- The example: a condition in one in one in one. -/
def exT : Nat → Sh
  | 0 => .mk ⟨1, false, false, true, 1, 1, 1⟩ []
  | n + 1 => .mk ⟨3, false, false, false, 0, 0, 0⟩ [exT n]
theorem ex0 : (exT 0).chk 1 = 0 := by simp [exT, Sh.chk, Hd.fine, fine, okTm]
theorem ex3 : (exT 3).chk 1 = 5 := by simp [exT, Sh.chk, chkL, Hd.sameT, zeroH]
theorem ex2 : (exT 2).chk 1 = 0 := by simp [exT, Sh.chk, chkL, Hd.sameT, zeroH, Hd.fine, fine, okTm]
theorem ex2c : (exT 2).count = 3 := by simp [exT, Sh.count, countL]

abbrev arrA (h : Hd) (v : Value) : Array Value := #[.int .i64 h.k, .bool h.x0, .int .i64 h.n0, .bool h.x1, .int .i64 h.n1, .bool h.x2, .int .i64 h.n2, v]
theorem wpList_store_A {ops : Array Oper} {rest : List Oper} {o : Oper} {a : Act} {w : World} {Q : Exit → Act → World → Prop} (hgd : o.guard = none) (x y : Operand) (ho : o.op = .store 27 x y)
    (g : Nat) (h : Hd) (s : Option Addr) (n c : Nat) (hx : a.eval x = .pointer (some ⟨g, 0, none⟩)) (hy : a.eval y = vA h (.slice s n c)) (h0 : Hd) (v0 : Value) (hg : Blk w g 27 (arrA h0 v0))
    (hn : ∀ W, Kept (fun k => k = g) w W → Blk W g 27 (arrA h (.slice s n c)) → wpList Try.prog ops Q rest (a.put o.dst undef) W) : wpList Try.prog ops Q (o :: rest) a w :=
  wpList_store_rowW hgd _ x y ho g _ hx hy _ _ hg infoA8 rfl (by simp [Value.oneCell']) hn
set_option maxHeartbeats 1000000 in
theorem awake_any (w : World) : Calls Try.prog 8 #[] w fun e w' => e = .returned (.bool true) ∧ Kept Nil w w' := by
  have C := Lib.hid (fun n (hc : (exT n).count ≤ 5000) W ok a cap h => check_any (exT n) hc ok a cap W 1 h)
  have B0 := Lib.hid (Blk.new w 27 (arrA ⟨1, false, false, true, 1, 1, 1⟩ (.slice none 0 0)))
  have K0 := Lib.hid ((Kept.refl Nil w).alloc (.cells (arrA ⟨1, false, false, true, 1, 1, 1⟩ (.slice none 0 0)) 27))
  have C0 : Hid (∀ W, Calls Try.prog 9 #[vA ⟨1, false, false, true, 1, 1, 1⟩ (.slice none 0 0), .int .i64 1] W fun e w' => e = .returned (.int .i64 0) ∧ Kept Nil W w') := Lib.hid fun W => by
    have := C.out 0 (by simp [exT, Sh.count, countL]) W (fun _ _ => True) none 0 (.nil none 0)
    rw [show max (1 : Int) 1 = 1 by omega, ex0] at this
    exact this
  go_enter Try.func8, Try.ntmps8
  go_wp2_with fail
  refine (C0.out _).mono ?_
  rintro e w2 ⟨rfl, k2⟩
  have K2 := Lib.hid (K0.out.trans k2 (fun _ _ g => g))
  have B2 := Lib.hid (B0.out.kept k2 id)
  clear k2 K0 B0
  go_wp2_with fail
  go_loopw [10] (fun i wr => ∃ j : Nat, j ≤ 3 ∧ i = .int .i64 j ∧ Kept Nil w wr ∧ ∃ a cap, Blk wr w.heap.size 27 (arrA (exT j).hd (.slice a (exT j).subs.length cap)) ∧ Holds cA wr (fun b _ => b ≠ w.heap.size) (.slice a (exT j).subs.length cap) (exT j).subs) (fun i _ => 3 - (intOf i).toNat)
  case atStart => exact ⟨0, by omega, rfl, K2.out, none, 0, B2.out, .nil none 0⟩
  case round =>
    obtain ⟨j, hj, rfl, hK, a, cap, hB, hH⟩ := hrel
    have HK := Lib.hid hK
    have HB := Lib.hid hB
    have HH := Lib.hid hH
    have hlw : w.heap.size < wr.heap.size := hB.lt
    clear hK hB hH K2 B2
    by_cases hlt : j < 3
    · have HS : Hid (exT (j + 1) = .mk ⟨3, false, false, false, 0, 0, 0⟩ [exT j]) := rfl
      generalize hT : exT j = T at HB HH HS
      obtain ⟨⟨k, x0, x1, x2, n0, n1, n2⟩, sb⟩ := T
      change Hid (Blk wr w.heap.size 27 (arrA ⟨k, x0, x1, x2, n0, n1, n2⟩ (.slice a sb.length cap))) at HB
      change Hid (Holds cA wr _ (.slice a sb.length cap) sb) at HH
      have HT := Lib.hid hT
      clear hT
      obtain ⟨len, hlen⟩ : ∃ len, len = sb.length := ⟨_, rfl⟩
      rw [← hlen] at HB HH
      clear hlen
      go_wp2_with (first
        | ((with_reducible refine wpList_load_A rfl (.tmp 1) rfl _ _ rfl ⟨k, x0, x1, x2, n0, n1, n2⟩ (.slice a len cap) ?_ ?_)
           · exact World.rangeAt_of_block HB.out 0 8)
        | ((with_reducible refine wpList_store_A rfl (.tmp 1) _ rfl _ ⟨3, false, false, false, 0, 0, 0⟩ _ _ _ rfl rfl ⟨k, x0, x1, x2, n0, n1, n2⟩ (.slice a len cap) ?_ ?_)
           · exact HB.out.alloc _
           intro W kW bW
           have KW := Lib.hid kW
           have BW := Lib.hid bW
           clear kW bW))
      go_roundw
      case rel =>
        have BN := Blk.new wr 27 (arrA ⟨k, x0, x1, x2, n0, n1, n2⟩ (.slice a len cap))
        have BN2 := BN.kept (F := fun k => k = w.heap.size) KW.out (show ¬ (wr.heap.size = w.heap.size) by omega)
        refine ⟨j + 1, by omega, by go_num, ?_, some ⟨wr.heap.size, 0, none⟩, 1, ?_, ?_⟩
        · exact (HK.out.alloc _).trans KW.out (fun i hi e => by omega)
        · rw [HS.out]; exact BW.out
        · rw [HS.out]
          refine .row wr.heap.size 0 1 [.mk ⟨k, x0, x1, x2, n0, n1, n2⟩ sb] (fun _ => .slice a len cap) (by show wr.heap.size ≠ w.heap.size; omega) (fun i x hi => ?_) (fun i x hi => ?_)
          · have hi0 : i = 0 := by have := (List.getElem?_eq_some_iff.1 hi).1; simp at this; exact this
            subst hi0
            cases hi
            exact World.rangeAt_of_block BN2 0 8
          · have hi0 : i = 0 := by have := (List.getElem?_eq_some_iff.1 hi).1; simp at this; exact this
            subst hi0
            cases hi
            exact (HH.out.keptN ((Kept.refl Nil wr).alloc _)).kept KW.out (fun b o hb e => hb e)
      case measure => simp [intOf]; omega
    · obtain rfl : j = 3 := by omega
      have hH2 := HH.out
      have hB2 := HB.out
      change Blk wr w.heap.size 27 (arrA ⟨3, false, false, false, 0, 0, 0⟩ (.slice a 1 cap)) at hB2
      change Holds cA wr _ (.slice a 1 cap) [exT 2] at hH2
      obtain ⟨b, o, a', cap', rfl, hok, hr, hs⟩ := hH2.at_ (i := 0) (hd := ⟨3, false, false, false, 0, 0, 0⟩) (sb := [exT 1]) rfl
      change wr.rangeAt b (o + 0 * 8) (cA ⟨3, false, false, false, 0, 0, 0⟩ (.slice a' 1 cap')) at hr
      rw [Nat.zero_mul, Nat.add_zero] at hr
      change Holds cA wr _ (.slice a' 1 cap') [exT 1] at hs
      have HR := Lib.hid hr
      have HS := Lib.hid hs
      have HB2 := Lib.hid hB2
      have C3 : Hid (∀ W, Kept Nil wr W → Calls Try.prog 9 #[vA ⟨3, false, false, false, 0, 0, 0⟩ (.slice (some ⟨b, o, none⟩) 1 cap), .int .i64 1] W fun e w' => e = .returned (.int .i64 5) ∧ Kept Nil W w') := Lib.hid fun W kW => by
        have := C.out 3 (by simp [exT, Sh.count, countL]) W _ (some ⟨b, o, none⟩) cap (HH.out.keptN kW)
        rw [show max (1 : Int) 1 = 1 by omega, ex3] at this
        exact this
      have C2 : Hid (∀ W, Kept Nil wr W → Calls Try.prog 9 #[vA ⟨3, false, false, false, 0, 0, 0⟩ (.slice a' 1 cap'), .int .i64 1] W fun e w' => e = .returned (.int .i64 0) ∧ Kept Nil W w') := Lib.hid fun W kW => by
        have := C.out 2 (by simp [exT, Sh.count, countL]) W _ a' cap' (HS.out.keptN kW)
        rw [show max (1 : Int) 1 = 1 by omega, ex2] at this
        exact this
      have CS : Hid (∀ W, Kept Nil wr W → Calls Try.prog 14 #[vA ⟨3, false, false, false, 0, 0, 0⟩ (.slice a' 1 cap')] W fun e w' => e = .returned (.int .i64 3) ∧ Kept Nil W w') := Lib.hid fun W kW => by
        have := bigSize_any (exT 2) (by simp [exT, Sh.count, countL]) _ a' cap' W (HS.out.keptN kW)
        rw [ex2, if_pos rfl, ex2c] at this
        exact this
      clear hH2 hB2 hr hs hok hlt
      have c7 : wr.cell? ⟨w.heap.size, 7, none⟩ = some (.slice (some ⟨b, o, none⟩) 1 cap) := HB2.out.cell 7
      have LB : Hid (∀ W, Kept Nil wr W → W.rangeAt w.heap.size 0 (cA ⟨3, false, false, false, 0, 0, 0⟩ (.slice (some ⟨b, o, none⟩) 1 cap)) ∧ W.rangeAt b o (cA ⟨3, false, false, false, 0, 0, 0⟩ (.slice a' 1 cap')) ∧ W.cell? ⟨w.heap.size, 7, none⟩ = some (.slice (some ⟨b, o, none⟩) 1 cap)) :=
        Lib.hid fun W k => ⟨World.rangeAt_of_block (HB2.out.kept k id) 0 8, rangeAt_kept k id HR.out, (HB2.out.kept k id).cell 7⟩
      clear c7
      go_wp2_with (refine wpList_load_AG rfl (.tmp 1) rfl _ _ rfl ⟨3, false, false, false, 0, 0, 0⟩ (.slice (some ⟨b, o, none⟩) 1 cap) ((LB.out _ (Kept.refl _ _)).1) ?_)
      refine (C3.out _ (Kept.refl _ _)).mono ?_
      rintro e w3 ⟨rfl, k3⟩
      have l3 := (LB.out _ k3).2.1
      have c3 := (LB.out _ k3).2.2
      go_wp2_with (refine wpList_load_AG rfl _ rfl _ _ rfl ⟨3, false, false, false, 0, 0, 0⟩ (.slice a' 1 cap') l3 ?_)
      refine (C2.out _ k3).mono ?_
      rintro e w4 ⟨rfl, k4⟩
      have k5 := k3.trans k4 (fun _ _ g => g)
      have l4 := (LB.out _ k5).2.1
      have c4 := (LB.out _ k5).2.2
      have K5 := Lib.hid k5
      clear k5 k4 c3 l3 k3
      go_wp2_with (refine wpList_load_AG rfl _ rfl _ _ rfl ⟨3, false, false, false, 0, 0, 0⟩ (.slice a' 1 cap') l4 ?_)
      refine (CS.out _ K5.out).mono ?_
      rintro e w6 ⟨rfl, k6⟩
      go_wp2_with fail
      go_ret
      exact ⟨rfl, (HK.out.trans K5.out (fun _ _ g => g)).trans k6 (fun _ _ g => g)⟩
end Go.Proofs.Ytokpgpkdhcehbaa
