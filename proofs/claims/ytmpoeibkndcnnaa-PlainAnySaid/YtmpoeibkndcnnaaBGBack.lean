/- Layer comp: the program's Back. -/
import Derived.Test.YtmpoeibkndcnnaaA4
namespace Go.Proofs.Ytmpoeibkndcnnaa
open Go.RowKit
set_option maxRecDepth 100000

/-- How many Pos there are. -/
def posN : List St → Nat
  | [] => 0
  | s :: r => (if s.hd.k = 1 then 1 else 0) + posN r
theorem posN_append : ∀ a b : List St, posN (a ++ b) = posN a + posN b
  | [], b => by simp [posN]
  | s :: r, b => by rw [List.cons_append, posN, posN, posN_append r b]; omega
theorem posN_take_succ {l : List St} {j : Nat} {x : St} (h : l[j]? = some x) : posN (l.take (j + 1)) = posN (l.take j) + (if x.hd.k = 1 then 1 else 0) := by
  rw [List.take_add_one, h, posN_append]
  simp [posN]
theorem posN_le : ∀ l : List St, posN l ≤ l.length
  | [] => by simp [posN]
  | s :: r => by
    have := posN_le r
    rw [posN, List.length_cons]
    split <;> omega
set_option maxHeartbeats 2000000 in
theorem back_any (l : List St) (hc : l.length ≤ 5000) (ok : Nat → Nat → Prop) (a : Option Addr) (cap : Nat) (w : World) (h : SHolds w ok (.slice a l.length cap) l) :
    Calls Try.prog 42 #[.slice a l.length cap] w fun e w' => e = .returned (.int .i64 (posN l : Int)) ∧ Kept Nil w w' := by
  have HH := Lib.hid h
  obtain ⟨len, hlen⟩ : ∃ len, l.length = len := ⟨_, rfl⟩
  rw [hlen] at HH hc ⊢
  have HL := Lib.hid hlen
  clear h hlen
  go_enter Try.func42, Try.ntmps42
  go_wp2_with fail
  go_loopw [3, 8] (fun u i wr => ∃ j m : Nat, j ≤ len ∧ m ≤ j ∧ i = .int .i64 j ∧ u = .int .i64 m ∧ Hid (m = posN (l.take j)) ∧ Kept Nil w wr) (fun _ i _ => len - (intOf i).toNat)
  case atStart => exact ⟨0, 0, by omega, by omega, rfl, rfl, Lib.hid rfl, Kept.refl _ _⟩
  case round =>
    obtain ⟨j, m, hj, hm, rfl, rfl, HM, hK⟩ := hrel
    have HK := Lib.hid hK
    clear hK
    by_cases hlt : j < len
    · obtain ⟨⟨⟨k', k0', k1', k2', ts'⟩, sb⟩, hx⟩ : ∃ x, l[j]? = some x := ⟨_, List.getElem?_eq_getElem (by have := HL.out; omega)⟩
      obtain ⟨b, o, ta', tc', a', cap', rfl, _, hr, ht, hs⟩ := (HH.out.keptN HK.out).at_ hx
      have HRow : Hid (wr.rangeAt b (o + j * 6) (cS ⟨k', k0', k1', k2', ts'⟩ (.slice ta' ts'.length tc') (.slice a' sb.length cap'))) := Lib.hid hr
      have HN : Hid (posN (l.take (j + 1)) = posN (l.take j) + (if k' = 1 then 1 else 0)) := Lib.hid (posN_take_succ hx)
      clear hx hr ht hs
      generalize ts'.length = tn' at HRow
      generalize sb.length = sn' at HRow
      by_cases hk : k' = 1
      · subst hk
        have HE : Hid (m + 1 = posN (l.take (j + 1))) := Lib.hid (by rw [HN.out, ← HM.out, if_pos rfl])
        clear HN
        go_wp2_with ((with_reducible refine wpList_load_S rfl (.tmp 10) rfl _ _ rfl ⟨1, k0', k1', k2', ts'⟩ (.slice ta' tn' tc') (.slice a' sn' cap') ?_ ?_)
                     · exact HRow.out)
        go_roundw
        case rel => exact ⟨j + 1, m + 1, by omega, by omega, by go_num, by go_num, HE, HK.out.alloc _⟩
        case measure => simp [intOf]; omega
      · have hkb : (k' == 1) = false := by simpa using hk
        have HE : Hid (m = posN (l.take (j + 1))) := Lib.hid (by rw [HN.out, ← HM.out, if_neg hk]; rfl)
        clear HN
        go_wp2_with ((with_reducible refine wpList_load_S rfl (.tmp 10) rfl _ _ rfl ⟨k', k0', k1', k2', ts'⟩ (.slice ta' tn' tc') (.slice a' sn' cap') ?_ ?_)
                     · exact HRow.out)
        go_roundw
        case rel => exact ⟨j + 1, m, by omega, by omega, by go_num, rfl, HE, HK.out.alloc _⟩
        case measure => simp [intOf]; omega
    · obtain rfl : len = j := by omega
      have HE : Hid (m = posN l) := Lib.hid (by rw [HM.out, ← HL.out]; simp)
      go_wp2_with fail
      go_ret
      exact ⟨by rw [HE.out]; rfl, HK.out⟩
end Go.Proofs.Ytmpoeibkndcnnaa
