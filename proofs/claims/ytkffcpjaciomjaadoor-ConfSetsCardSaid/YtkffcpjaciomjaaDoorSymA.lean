/- Layer sym: contracts of the small functions: fits, Right (both). -/
import Derived.Test.YtkffcpjaciomjaaDoorFrame
import Derived.WalkSpells
import Derived.WalkLawsBesides
import Derived.ProofKit
import Derived.Outline
import Derived.BigQuiet
import Derived.Deep.QuietTactic
import Derived.Laws.RangeAny
namespace Go.Proofs.YtkffcpjaciomjaaDoor
open Go.RowKit

/-- A sign of a name, as a number. -/
def okSign (r : Int) : Bool := decide ((97 ≤ r ∧ r ≤ 122) ∨ (65 ≤ r ∧ r ≤ 90) ∨ (48 ≤ r ∧ r ≤ 57) ∨ r = 45 ∨ r = 95)

theorem fits_any (r : Int) (w : World) :
    Calls Tryd.prog 53 #[.int .i32 r] w fun e w' => e = .returned (.bool (okSign r)) ∧ w = w' := by
  go_enter Tryd.func53, Tryd.ntmps53
  go_wp2
  all_goals go_ret
  all_goals refine ⟨ret_bool ?_, rfl⟩
  all_goals unfold okSign
  all_goals rw [Bool.eq_iff_iff]
  all_goals (simp; try omega)

/-- The bytes are those of a name. -/
def okBytes (l : List UInt8) : Bool := l.all fun c => okSign c.toNat
def okName (s : ByteArray) : Bool := decide (1 ≤ s.size ∧ s.size ≤ 32) && okBytes s.data.toList

theorem okBytes_take (s : ByteArray) (k : Nat) (h : k < s.size) : okBytes (s.data.toList.take (k + 1)) = (okBytes (s.data.toList.take k) && okSign s[k].toNat) := by
  unfold okBytes
  rw [List.take_succ_eq_append_getElem (by simpa using h), List.all_append]
  simp
  rfl
theorem okBytes_bad (s : ByteArray) (k : Nat) (h : k < s.size) (hb : okSign s[k].toNat = false) : okBytes s.data.toList = false := by
  unfold okBytes
  rw [List.all_eq_false]
  exact ⟨s[k], by exact Array.mem_toList_iff.2 (Array.getElem_mem _), by simpa using hb⟩
theorem okName_short (s : ByteArray) (h : s.size < 1 ∨ 32 < s.size) : okName s = false := by
  unfold okName
  rw [decide_eq_false (by omega), Bool.false_and]
theorem okName_good (s : ByteArray) (h1 : 1 ≤ s.size) (h2 : s.size ≤ 32) (h : okBytes (s.data.toList.take s.size) = true) : okName s = true := by
  unfold okName
  rw [List.take_of_length_le (by simp)] at h
  rw [decide_eq_true ⟨h1, h2⟩, h]; rfl
theorem okName_bad (s : ByteArray) (k : Nat) (h : k < s.size) (hb : okSign s[k].toNat = false) : okName s = false := by
  unfold okName
  rw [okBytes_bad s k h hb, Bool.and_false]
theorem okSign_high (r : Int) (h : 128 ≤ r) : okSign r = false := by
  unfold okSign
  exact decide_eq_false (by omega)

theorem okSign_cases {r : Int} (h : okSign r = true) : (97 ≤ r ∧ r ≤ 122) ∨ (65 ≤ r ∧ r ≤ 90) ∨ (48 ≤ r ∧ r ≤ 57) ∨ (45 ≤ r ∧ r ≤ 45) ∨ (95 ≤ r ∧ r ≤ 95) := by
  unfold okSign at h
  have := of_decide_eq_true h
  omega
theorem okSign_not {r : Int} (h : okSign r = false) : (r ≤ 44 ∧ r ≤ 44) ∨ (46 ≤ r ∧ r ≤ 47) ∨ (58 ≤ r ∧ r ≤ 64) ∨ (91 ≤ r ∧ r ≤ 94) ∨ (96 ≤ r ∧ r ≤ 96) ∨ (123 ≤ r ∧ 123 ≤ r) := by
  unfold okSign at h
  have := of_decide_eq_false h
  omega

theorem right_any (s : ByteArray) (w : World) (hs : s.size ≤ maxLen) :
    Calls Tryd.prog 35 #[.string s] w fun e w' => e = .returned (.bool (okName s)) ∧ Kept Nil w w' := by
  unfold maxLen at hs
  by_cases h1 : s.size < 1
  · have E := Lib.hid (okName_short s (.inl h1))
    go_enter Tryd.func35, Tryd.ntmps35
    go_wp2
    go_ret
    exact ⟨ret_bool E.out.symm, Kept.refl _ _⟩
  by_cases h2 : 32 < s.size
  · have E := Lib.hid (okName_short s (.inr h2))
    go_enter Tryd.func35, Tryd.ntmps35
    go_wp2
    go_ret
    exact ⟨ret_bool E.out.symm, Kept.refl _ _⟩
  go_enter Tryd.func35, Tryd.ntmps35
  go_wp2
  go_loopw [4] (fun _ w' => ∃ pos : Nat, pos ≤ s.size ∧ okBytes (s.data.toList.take pos) = true ∧ w' = w.iter s pos) (fun _ w' => s.size - w'.iterPos w.heap.size)
  case atStart => exact ⟨0, Nat.zero_le _, rfl, rfl⟩
  case round =>
    obtain ⟨pos, hp, hok, rfl⟩ := hrel
    have HO := Lib.hid hok
    clear hok
    by_cases hlt : pos < s.size
    · have hnx : ∀ ty, (Instr.next (.pointer (some ⟨w.heap.size, 0, none⟩)) true ty).run Tryd.prog (w.iter s pos) = _ := fun ty => run_next_any w s pos ty hlt
      by_cases hb : okSign s[pos].toNat = true
      · have hasc : s[pos].toNat < 128 := by
          rcases Nat.lt_or_ge s[pos].toNat 128 with h | h
          · exact h
          · rw [okSign_high _ (by omega)] at hb; cases hb
        rw [decode_ascii s pos hlt hasc] at hnx
        have HB := Lib.hid hb
        clear hb
        go_wp2_with (go_at_call 53; refine (fits_any _ _).mono ?_; rintro e w' ⟨rfl, rfl⟩; rw [HB.out])
        go_roundw
        case rel => exact ⟨pos + 1, hlt, by rw [okBytes_take s pos hlt, HO.out, HB.out]; rfl, rfl⟩
        case measure => simp; omega
      · have hb' : okSign (Utf8.decode s pos).1 = false := by
          rcases Nat.lt_or_ge s[pos].toNat 128 with h | h
          · rw [decode_ascii s pos hlt h]; simpa using hb
          · exact okSign_high _ (by have := (decode_high s pos hlt h).1; omega)
        have hw : 1 ≤ (Utf8.decode s pos).2 := by
          rcases Nat.lt_or_ge s[pos].toNat 128 with h | h
          · rw [decode_ascii s pos hlt h]; exact Nat.le_refl _
          · exact (decode_high s pos hlt h).2
        have hn : okName s = false := okName_bad s pos hlt (by simpa using hb)
        have HB := Lib.hid hb'
        have HN := Lib.hid hn
        clear hb hb' hn
        go_wp2_with (go_at_call 53; refine (fits_any _ _).mono ?_; rintro e w' ⟨rfl, rfl⟩; rw [HB.out])
        go_ret
        exact ⟨ret_bool HN.out.symm, (Kept.refl _ _).alloc _⟩
    · have hnx : ∀ ty, (Instr.next (.pointer (some ⟨w.heap.size, 0, none⟩)) true ty).run Tryd.prog (w.iter s pos) = _ := fun ty => run_next_end w s pos ty hlt
      have he : pos = s.size := by omega
      have hn : okName s = true := okName_good s (by omega) (by omega) (by rw [← he]; exact HO.out)
      have HN := Lib.hid hn
      clear he hn
      go_wp2
      go_ret
      exact ⟨ret_bool HN.out.symm, (Kept.refl _ _).alloc _⟩

set_option maxHeartbeats 1000000 in
theorem refRight_any (s : ByteArray) (w : World) (hs : s.size ≤ maxLen) :
    Calls Tryd.prog 38 #[.string s] w fun e w' => e = .returned (.bool (okName s)) ∧ w = w' := by
  unfold maxLen at hs
  by_cases h1 : s.size < 1
  · have E := Lib.hid (okName_short s (.inl h1))
    go_enter Tryd.func38, Tryd.ntmps38
    go_wp2
    go_ret
    exact ⟨ret_bool E.out.symm, rfl⟩
  by_cases h2 : 32 < s.size
  · have E := Lib.hid (okName_short s (.inr h2))
    go_enter Tryd.func38, Tryd.ntmps38
    go_wp2
    go_ret
    exact ⟨ret_bool E.out.symm, rfl⟩
  go_enter Tryd.func38, Tryd.ntmps38
  go_wp2
  go_loop [3, 4] (fun i _ => ∃ k : Nat, k ≤ s.size ∧ okBytes (s.data.toList.take k) = true ∧ i = .int .i64 k) (fun i _ => s.size - (intOf i).toNat)
  case atStart => exact ⟨0, Nat.zero_le _, rfl, rfl⟩
  case round =>
    obtain ⟨k, hk, hok, rfl⟩ := hrel
    have HO := Lib.hid hok
    clear hok
    by_cases hlt : k < s.size
    · by_cases hb : okSign s[k].toNat = true
      · have HT : Hid (okBytes (s.data.toList.take (k + 1)) = true) := by
          show okBytes (s.data.toList.take (k + 1)) = true
          rw [okBytes_take s k hlt, HO.out, hb]; rfl
        have hc := okSign_cases hb
        clear hb
        rcases hc with hc | hc | hc | hc | hc
        all_goals obtain ⟨hc1, hc2⟩ := hc
        all_goals (first | (have d1 : decide ((s[k].toNat : Int) ≤ 122) = true := decide_eq_true (by omega)) | (have d1 : decide ((s[k].toNat : Int) ≤ 122) = false := decide_eq_false (by omega)))
        all_goals (first | (have d2 : decide ((s[k].toNat : Int) ≤ 90) = true := decide_eq_true (by omega)) | (have d2 : decide ((s[k].toNat : Int) ≤ 90) = false := decide_eq_false (by omega)))
        all_goals (first | (have d3 : decide ((s[k].toNat : Int) ≤ 57) = true := decide_eq_true (by omega)) | (have d3 : decide ((s[k].toNat : Int) ≤ 57) = false := decide_eq_false (by omega)))
        all_goals (first | (have d4 : ((s[k].toNat : Int) != 45) = true := bne_iff_ne.2 (by omega)) | (have d4 : ((s[k].toNat : Int) != 45) = false := by rw [bne_eq_false_iff_eq]; omega))
        all_goals (first | (have d5 : ((s[k].toNat : Int) != 95) = true := bne_iff_ne.2 (by omega)) | (have d5 : ((s[k].toNat : Int) != 95) = false := by rw [bne_eq_false_iff_eq]; omega))
        all_goals
          go_wp2
          go_round
          case rel => exact ⟨k + 1, hlt, HT.out, by go_num⟩
          case measure => simp [intOf]; omega
      · have HN : Hid (okName s = false) := okName_bad s k hlt (by simpa using hb)
        have hc := okSign_not (by simpa using hb)
        clear hb
        rcases hc with hc | hc | hc | hc | hc | hc
        all_goals obtain ⟨hc1, hc2⟩ := hc
        all_goals (first | (have d1 : decide ((s[k].toNat : Int) ≤ 122) = true := decide_eq_true (by omega)) | (have d1 : decide ((s[k].toNat : Int) ≤ 122) = false := decide_eq_false (by omega)))
        all_goals (first | (have d2 : decide ((s[k].toNat : Int) ≤ 90) = true := decide_eq_true (by omega)) | (have d2 : decide ((s[k].toNat : Int) ≤ 90) = false := decide_eq_false (by omega)))
        all_goals (first | (have d3 : decide ((s[k].toNat : Int) ≤ 57) = true := decide_eq_true (by omega)) | (have d3 : decide ((s[k].toNat : Int) ≤ 57) = false := decide_eq_false (by omega)))
        all_goals (first | (have d4 : ((s[k].toNat : Int) != 45) = true := bne_iff_ne.2 (by omega)) | (have d4 : ((s[k].toNat : Int) != 45) = false := by rw [bne_eq_false_iff_eq]; omega))
        all_goals (first | (have d5 : ((s[k].toNat : Int) != 95) = true := bne_iff_ne.2 (by omega)) | (have d5 : ((s[k].toNat : Int) != 95) = false := by rw [bne_eq_false_iff_eq]; omega))
        all_goals go_wp2
        all_goals go_ret
        all_goals exact ⟨ret_bool HN.out.symm, rfl⟩
    · have he : k = s.size := by omega
      have hn : okName s = true := okName_good s (by omega) (by omega) (by rw [← he]; exact HO.out)
      have HN := Lib.hid hn
      clear he hn
      go_wp2
      go_ret
      exact ⟨ret_bool HN.out.symm, rfl⟩
end Go.Proofs.YtkffcpjaciomjaaDoor
