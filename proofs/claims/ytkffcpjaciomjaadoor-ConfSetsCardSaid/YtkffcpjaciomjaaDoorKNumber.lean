/- The reference's own numbers and words: Number, Words, Parse of retiaryref02. -/
import Derived.Test.YtkffcpjaciomjaaDoorTMath
import Derived.Test.YtkffcpjaciomjaaDoorThree
import Derived.OneCell
import Derived.Laws.Concat
namespace Go.Proofs.YtkffcpjaciomjaaDoor
open Go.RowKit

theorem ret_i {a b : Int} (h : a = b) : Ending.returned (.int .i64 a) = .returned (.int .i64 b) := by rw [h]
/-- What the digits ahead spell. -/
def sofar (s : ByteArray) (k : Nat) : Option Nat := numF 0 (s.data.toList.take k)
theorem numF_snoc : ∀ (l : List UInt8) (a : Nat) (c : UInt8), numF a (l ++ [c]) = (numF a l).bind fun n => if c.toNat < 48 ∨ 57 < c.toNat then none else some (n * 10 + (c.toNat - 48))
  | [], a, c => by
    show numF a [c] = _
    rw [numF]
    rfl
  | d :: r, a, c => by
    show numF a (d :: (r ++ [c])) = _
    rw [numF, numF]
    by_cases h : d.toNat < 48 ∨ 57 < d.toNat
    · rw [if_pos h, if_pos h]; rfl
    · rw [if_neg h, if_neg h, numF_snoc r]
theorem sofar_next (s : ByteArray) (k : Nat) (h : k < s.size) {n : Nat} (e : sofar s k = some n) (hb : ¬ (s[k].toNat < 48 ∨ 57 < s[k].toNat)) : sofar s (k + 1) = some (n * 10 + (s[k].toNat - 48)) := by
  unfold sofar at *
  rw [List.take_succ_eq_append_getElem (by simpa using h), numF_snoc, e]
  show (if s[k].toNat < 48 ∨ 57 < s[k].toNat then none else _) = _
  rw [if_neg hb]
  rfl
theorem numF_none : ∀ (l m : List UInt8) (a : Nat), numF a l = none → numF a (l ++ m) = none
  | [], m, a, h => by rw [numF] at h; cases h
  | d :: r, m, a, h => by
    show numF a (d :: (r ++ m)) = none
    rw [numF] at h ⊢
    by_cases hd : d.toNat < 48 ∨ 57 < d.toNat
    · rw [if_pos hd]
    · rw [if_neg hd] at h ⊢; exact numF_none r m _ h
theorem sofar_bad (s : ByteArray) (k : Nat) (h : k < s.size) {n : Nat} (e : sofar s k = some n) (hb : s[k].toNat < 48 ∨ 57 < s[k].toNat) : numF 0 s.data.toList = none := by
  have e1 : sofar s (k + 1) = none := by
    unfold sofar at *
    rw [List.take_succ_eq_append_getElem (by simpa using h), numF_snoc, e]
    show (if s[k].toNat < 48 ∨ 57 < s[k].toNat then none else _) = _
    rw [if_pos hb]
  rw [← List.take_append_drop (k + 1) s.data.toList]
  exact numF_none _ _ _ e1
theorem sofar_all (s : ByteArray) : sofar s s.size = numF 0 s.data.toList := by unfold sofar; rw [List.take_of_length_le (by simp)]
theorem sofar_bound (s : ByteArray) : ∀ k n, sofar s k = some n → n < 10 ^ k := by
  intro k
  unfold sofar
  have key : ∀ (l : List UInt8) (a n : Nat), numF a l = some n → n < (a + 1) * 10 ^ l.length := by
    intro l
    induction l with
    | nil => intro a n h; rw [numF] at h; cases h; simp
    | cons c r ih =>
      intro a n h
      rw [numF] at h
      by_cases hc : c.toNat < 48 ∨ 57 < c.toNat
      · rw [if_pos hc] at h; cases h
      · rw [if_neg hc] at h
        have := ih _ _ h
        have h2 : (a * 10 + (c.toNat - 48) + 1) * 10 ^ r.length ≤ ((a + 1) * 10) * 10 ^ r.length := Nat.mul_le_mul_right _ (by omega)
        rw [List.length_cons, Nat.pow_succ, Nat.mul_comm (10 ^ r.length) 10, ← Nat.mul_assoc]
        omega
  intro n h
  have := key _ _ _ h
  rw [Nat.zero_add, Nat.one_mul] at this
  exact Nat.lt_of_lt_of_le this (Nat.pow_le_pow_right (by decide) (List.length_take_le _ _))
theorem numL_bad1 {s : ByteArray} (h : s.size = 0 ∨ 9 < s.size) : numL s.data.toList = -1 := by
  unfold numL
  rw [if_pos]
  rcases h with h | h
  · exact .inl (by apply List.eq_nil_of_length_eq_zero; rw [Array.length_toList]; exact h)
  · exact .inr (.inl (by rw [Array.length_toList]; exact h))
theorem numL_bad2 {s : ByteArray} (h : 1 < s.size) (h0 : s[0].toNat = 48) : numL s.data.toList = -1 := by
  unfold numL
  rw [if_pos]
  refine .inr (.inr ⟨by rw [Array.length_toList]; exact h, ?_⟩)
  rw [List.head?_eq_getElem?, List.getElem?_eq_getElem (by rw [Array.length_toList]; exact Nat.lt_trans Nat.zero_lt_one h)]
  congr 1
  exact UInt8.toNat_inj.1 h0
theorem numL_go {s : ByteArray} (h : 1 ≤ s.size) (h9 : s.size ≤ 9) (h0 : s.size = 1 ∨ (∃ h : 0 < s.size, s[0].toNat ≠ 48)) : numL s.data.toList = match numF 0 s.data.toList with | some n => n | none => -1 := by
  have hl : s.data.toList.length = s.size := Array.length_toList
  have hn : ¬ (s.data.toList = [] ∨ 9 < s.data.toList.length ∨ (1 < s.data.toList.length ∧ s.data.toList.head? = some 48)) := by
    rintro (e | e | ⟨e, e'⟩)
    · rw [e] at hl; simp at hl; omega
    · omega
    · rcases h0 with h0 | ⟨_, h0⟩
      · omega
      · rw [List.head?_eq_getElem?, List.getElem?_eq_getElem (by omega)] at e'
        apply h0
        have e2 : s[0] = 48 := Option.some.inj e'
        rw [e2]; rfl
  unfold numL
  rw [if_neg hn]
  rfl

set_option maxRecDepth 100000 in
set_option maxHeartbeats 2000000 in
theorem refNumber_any (s : ByteArray) (hs : s.size ≤ 100000) (w : World) :
    Calls Tryd.prog 44 #[.string s] w fun e w' => e = .returned (.int .i64 (numL s.data.toList)) ∧ w = w' := by
  by_cases z0 : s.size = 0
  · have H := Lib.hid (numL_bad1 (.inl z0))
    obtain rfl : s = ⟨#[]⟩ := ByteArray.ext (Array.eq_empty_of_size_eq_zero z0)
    go_enter Tryd.func44, Tryd.ntmps44
    go_wp2
    go_ret
    exact ⟨ret_i H.out.symm, rfl⟩
  have e0 : s.toList.isEmpty = false := by
    rw [ByteArray.toList_eq, List.isEmpty_eq_false_iff]
    intro e
    apply z0
    have := congrArg List.length e
    rw [Array.length_toList] at this
    exact this
  by_cases z9 : 9 < s.size
  · have H := Lib.hid (numL_bad1 (.inr z9))
    go_enter Tryd.func44, Tryd.ntmps44
    go_wp2
    go_ret
    exact ⟨ret_i H.out.symm, rfl⟩
  have hpos : 0 < s.size := by omega
  by_cases z1 : 1 < s.size ∧ s[0].toNat = 48
  · obtain ⟨z1, z2⟩ := z1
    have H := Lib.hid (numL_bad2 z1 z2)
    have hb : ((s[0].toNat : Int) == 48) = true := by rw [z2]; rfl
    clear z2
    go_enter Tryd.func44, Tryd.ntmps44
    go_wp2
    go_ret
    exact ⟨ret_i H.out.symm, rfl⟩
  have HN := Lib.hid (numL_go (s := s) (by omega) (by omega) (by
    by_cases h1 : s.size = 1
    · exact .inl h1
    · exact .inr ⟨hpos, fun e => z1 ⟨by omega, e⟩⟩))
  have zz : s.size = 1 ∨ (1 < s.size ∧ ((s[0].toNat : Int) == 48) = false) := by
    by_cases h1 : s.size = 1
    · exact .inl h1
    · exact .inr ⟨by omega, by rw [beq_eq_false_iff_ne]; intro e; exact z1 ⟨by omega, by omega⟩⟩
  clear z1 z0
  have HB : ∀ k n, sofar s k = some n → k ≤ s.size → n < 10 ^ 9 := fun k n h hk => Nat.lt_of_lt_of_le (sofar_bound s k n h) (Nat.pow_le_pow_right (by decide) (by omega))
  have HBB := Lib.hid HB
  clear HB
  rcases zz with zz | ⟨zz, hb⟩
  · have zd : decide ((1 : Int) < (s.size : Int)) = false := decide_eq_false (by omega)
    have z2 : s.size ≤ 1 := by omega
    clear zz
    go_enter Tryd.func44, Tryd.ntmps44
    go_wp2
    go_loop [3, 4] (fun m i => ∃ k n : Nat, k ≤ s.size ∧ Hid (sofar s k = some n) ∧ m = .int .i64 n ∧ i = .int .i64 k) (fun _ i => s.size - (intOf i).toNat)
    case atStart => exact ⟨0, 0, Nat.zero_le _, rfl, rfl, rfl⟩
    case round =>
      obtain ⟨k, n, hk, HS, rfl, rfl⟩ := hrel
      have hn := HBB.out k n HS.out hk
      by_cases hlt : k < s.size
      · by_cases h1 : s[k].toNat < 48
        · have H := Lib.hid (sofar_bad s k hlt HS.out (.inl h1))
          have c1 : decide ((s[k].toNat : Int) < 48) = true := decide_eq_true (by omega)
          go_wp2
          go_ret
          exact ⟨ret_i (by rw [HN.out, H.out]), rfl⟩
        · by_cases h2 : 57 < s[k].toNat
          · have H := Lib.hid (sofar_bad s k hlt HS.out (.inr h2))
            have c1 : decide ((s[k].toNat : Int) < 48) = false := decide_eq_false (by omega)
            have c2 : decide ((57 : Int) < (s[k].toNat : Int)) = true := decide_eq_true (by omega)
            go_wp2
            go_ret
            exact ⟨ret_i (by rw [HN.out, H.out]), rfl⟩
          · have H := Lib.hid (sofar_next s k hlt HS.out (by omega))
            have c1 : decide ((s[k].toNat : Int) < 48) = false := decide_eq_false (by omega)
            have c2 : decide ((57 : Int) < (s[k].toNat : Int)) = false := decide_eq_false (by omega)
            have b1 : (48 : Int) ≤ (s[k].toNat : Int) := by omega
            have b2 : (s[k].toNat : Int) ≤ 57 := by omega
            go_wp2
            go_round
            case rel => exact ⟨k + 1, n * 10 + (s[k].toNat - 48), hlt, H, by (congr 1; omega), by go_num⟩
            case measure => simp [intOf]; omega
      · have he : k = s.size := by omega
        have H := Lib.hid (show numF 0 s.data.toList = some n by rw [← sofar_all, ← he]; exact HS.out)
        clear he
        go_wp2
        go_ret
        exact ⟨ret_i (by rw [HN.out, H.out]), rfl⟩
  · go_enter Tryd.func44, Tryd.ntmps44
    go_wp2
    go_loop [3, 4] (fun m i => ∃ k n : Nat, k ≤ s.size ∧ Hid (sofar s k = some n) ∧ m = .int .i64 n ∧ i = .int .i64 k) (fun _ i => s.size - (intOf i).toNat)
    case atStart => exact ⟨0, 0, Nat.zero_le _, rfl, rfl, rfl⟩
    case round =>
      obtain ⟨k, n, hk, HS, rfl, rfl⟩ := hrel
      have hn := HBB.out k n HS.out hk
      by_cases hlt : k < s.size
      · by_cases h1 : s[k].toNat < 48
        · have H := Lib.hid (sofar_bad s k hlt HS.out (.inl h1))
          have c1 : decide ((s[k].toNat : Int) < 48) = true := decide_eq_true (by omega)
          go_wp2
          go_ret
          exact ⟨ret_i (by rw [HN.out, H.out]), rfl⟩
        · by_cases h2 : 57 < s[k].toNat
          · have H := Lib.hid (sofar_bad s k hlt HS.out (.inr h2))
            have c1 : decide ((s[k].toNat : Int) < 48) = false := decide_eq_false (by omega)
            have c2 : decide ((57 : Int) < (s[k].toNat : Int)) = true := decide_eq_true (by omega)
            go_wp2
            go_ret
            exact ⟨ret_i (by rw [HN.out, H.out]), rfl⟩
          · have H := Lib.hid (sofar_next s k hlt HS.out (by omega))
            have c1 : decide ((s[k].toNat : Int) < 48) = false := decide_eq_false (by omega)
            have c2 : decide ((57 : Int) < (s[k].toNat : Int)) = false := decide_eq_false (by omega)
            have b1 : (48 : Int) ≤ (s[k].toNat : Int) := by omega
            have b2 : (s[k].toNat : Int) ≤ 57 := by omega
            go_wp2
            go_round
            case rel => exact ⟨k + 1, n * 10 + (s[k].toNat - 48), hlt, H, by (congr 1; omega), by go_num⟩
            case measure => simp [intOf]; omega
      · have he : k = s.size := by omega
        have H := Lib.hid (show numF 0 s.data.toList = some n by rw [← sofar_all, ← he]; exact HS.out)
        clear he
        go_wp2
        go_ret
        exact ⟨ret_i (by rw [HN.out, H.out]), rfl⟩
end Go.Proofs.YtkffcpjaciomjaaDoor
