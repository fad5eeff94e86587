/- Layer scope: the program's right tells true of right conditions, few enough. -/
import Derived.Test.YthabnbljngejbaaERows
namespace Go.Proofs.Ythabnbljngejbaa
open Go.RowKit

theorem mem_count5 {l : List Sh} {x : Sh} {n : Nat} (hc : countL l ≤ n) (h : x ∈ l) : x.count ≤ n := Nat.le_trans (count_mem h) hc
set_option maxHeartbeats 2000000 in
theorem scopeRight_any (l : List Sh) (hc : countL l ≤ 16) (hk : chkL l 1 = 0) (ok : Nat → Nat → Prop) (a : Option Addr) (cap : Nat) (w : World) (h : Holds cA w ok (.slice a l.length cap) l) :
    Calls Try.prog 19 #[.slice a l.length cap] w fun e w' => e = .returned (.bool true) ∧ Kept Nil w w' := by
  obtain ⟨len, hlen⟩ : ∃ n, l.length = n := ⟨_, rfl⟩
  have HH := Lib.hid h
  have HC := Lib.hid hc
  have HCk := Lib.hid hk
  rw [hlen] at HH ⊢
  have HL := Lib.hid hlen
  have hLen : len ≤ 16 := by have := length_countL l; omega
  clear h hc hk hlen
  go_enter Try.func19, Try.ntmps19
  go_wp2_with fail
  go_loopw [3, 8] (fun n i wr => ∃ j m : Nat, j ≤ len ∧ i = .int .i64 j ∧ n = .int .i64 m ∧ m = countL (l.take j) ∧ Kept Nil w wr) (fun _ i _ => len - (intOf i).toNat)
  case atStart => exact ⟨0, 0, by omega, rfl, rfl, by rw [List.take_zero]; rfl, Kept.refl _ _⟩
  case round =>
    obtain ⟨j, m, hj, rfl, rfl, hm, hK⟩ := hrel
    have HK := Lib.hid hK
    have HM := Lib.hid hm
    clear hK hm
    by_cases hlt : j < len
    · obtain ⟨⟨⟨k', x0', x1', x2', n0', n1', n2'⟩, sb⟩, hx⟩ : ∃ x, l[j]? = some x := ⟨_, List.getElem?_eq_getElem (by have := HL.out; omega)⟩
      obtain ⟨b, o, a', cap', rfl, hok, hr, hs⟩ := (HH.out.keptN HK.out).at_ hx
      have hm5 := mem_count5 (Nat.le_trans HC.out (show 16 ≤ 5000 by decide)) (List.mem_of_getElem? hx)
      have hck := chkL_all.1 HCk.out _ (List.mem_of_getElem? hx)
      have hsum := countL_take_succ hx
      have hle := countL_take_le l (j + 1)
      have HX1 : Hid (∀ W, Kept Nil wr W → Calls Try.prog 29 #[vA ⟨k', x0', x1', x2', n0', n1', n2'⟩ (.slice a' sb.length cap'), .int .i64 1] W fun e w' => e = .returned (.int .i64 0) ∧ Kept Nil W w') := Lib.hid fun W kW => by
        have := check_any _ hm5 ok a' cap' W 1 (hs.keptN kW)
        rw [show max (1 : Int) 1 = 1 by omega, hck] at this
        exact this
      have HX2 : Hid (∀ W, Kept Nil wr W → Calls Try.prog 24 #[vA ⟨k', x0', x1', x2', n0', n1', n2'⟩ (.slice a' sb.length cap')] W fun e w' => e = .returned (.int .i64 ((Sh.mk ⟨k', x0', x1', x2', n0', n1', n2'⟩ sb).count : Int)) ∧ Kept Nil W w') := Lib.hid fun W kW => by
        have := bigSize_any _ hm5 ok a' cap' W (hs.keptN kW)
        rw [if_pos hck] at this
        exact this
      have HRng := Lib.hid hr
      have h16 : m + (Sh.mk ⟨k', x0', x1', x2', n0', n1', n2'⟩ sb).count ≤ 16 := by have := HC.out; have := HM.out; omega
      have HS : Hid (m + (Sh.mk ⟨k', x0', x1', x2', n0', n1', n2'⟩ sb).count = countL (l.take (j + 1))) := Lib.hid (by rw [HM.out, hsum])
      generalize (Sh.mk ⟨k', x0', x1', x2', n0', n1', n2'⟩ sb).count = c at HX2 HS h16
      generalize sb.length = len' at HX1 HX2 HRng
      clear hx hr hs hok hm5 hck hsum hle
      have hw : IntKind.i64.wrap ((m : Int) + (c : Int)) = ((m + c : Nat) : Int) := by rw [IntKind.wrap_i64]; omega
      go_wp2_with ((with_reducible refine wpList_load_A rfl (.tmp 10) rfl _ _ rfl ⟨k', x0', x1', x2', n0', n1', n2'⟩ (.slice a' len' cap') ?_ ?_)
                   · exact HRng.out)
      have KA := Lib.hid ((Kept.refl Nil wr).alloc (.cells (arrA ⟨k', x0', x1', x2', n0', n1', n2'⟩ (.slice a' len' cap')) 38))
      refine (HX1.out _ KA.out).mono ?_
      rintro e w2 ⟨rfl, k2⟩
      have K2 := Lib.hid (KA.out.trans k2 (fun _ _ g => g))
      have B2 := Lib.hid ((Blk.new wr 38 (arrA ⟨k', x0', x1', x2', n0', n1', n2'⟩ (.slice a' len' cap'))).kept k2 id)
      clear k2 KA
      go_wp2_with ((with_reducible refine wpList_load_A rfl (.tmp 5) rfl _ _ rfl ⟨k', x0', x1', x2', n0', n1', n2'⟩ (.slice a' len' cap') ?_ ?_)
                   · exact World.rangeAt_of_block B2.out 0 8)
      refine (HX2.out _ K2.out).mono ?_
      rintro e w3 ⟨rfl, k3⟩
      have K3 := Lib.hid (HK.out.trans (K2.out.trans k3 (fun _ _ g => g)) (fun _ _ g => g))
      clear k3
      go_wp2_with fail
      go_roundw
      case rel => exact ⟨j + 1, m + c, by omega, by go_num, by go_num, HS.out, K3.out⟩
      case measure => simp [intOf]; omega
    · obtain rfl : j = len := by omega
      go_wp2_with fail
      go_ret
      exact ⟨rfl, HK.out⟩
end Go.Proofs.Ythabnbljngejbaa
