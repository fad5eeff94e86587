/- Layer key: the contract of the reference's Text. -/
import Derived.Test.YtjknibgbbhiooaaDoorKDigits
import Derived.Test.YtjknibgbbhiooaaDoorBlk
namespace Go.Proofs.YtjknibgbbhiooaaDoor
open Go.RowKit
set_option maxRecDepth 100000

theorem empty_app (s : ByteArray) : (⟨#[]⟩ : ByteArray) ++ s = s := by
  apply ByteArray.ext
  simp
/-- What came in lies as it was laid. -/
structure TIn (w : World) (d : Array Value) (W : World) : Prop where
  kept : Kept Nil w W
  b0 : Blk W w.heap.size 22 d
theorem TIn.step {w W W' : World} {d : Array Value} (h : TIn w d W) (k : Kept Nil W W') : TIn w d W' := ⟨h.kept.trans k (fun _ _ g => g), h.b0.kept k id⟩
theorem TIn.start (w : World) (d : Array Value) : TIn w d (w.alloc (.cells d 22)) := ⟨(Kept.refl _ _).alloc _, Blk.new _ _ _⟩

set_option maxHeartbeats 2000000 in
theorem refText_any (t : T3) (w : World) (ht : okKT t = true) :
    Calls Tryd.prog 21 #[arr t] w fun e w' => e = .returned (.string (ktxt t)) ∧ Kept Nil w w' := by
  obtain ⟨a, b, c⟩ := t
  obtain ⟨⟨a0, a1⟩, ⟨b0, b1⟩, c0, c1⟩ := (show (0 ≤ a ∧ a ≤ 4096) ∧ (0 ≤ b ∧ b ≤ 4096) ∧ (0 ≤ c ∧ c ≤ 4096) from okKT_iff.1 ht)
  show Calls Tryd.prog 21 #[.agg #[.int .i64 a, .int .i64 b, .int .i64 c]] w _
  obtain ⟨P1, hP1⟩ : ∃ P, P = fstr a := ⟨_, rfl⟩
  obtain ⟨P2, hP2⟩ : ∃ P, P = P1 ++ ⟨#[32]⟩ ++ fstr b := ⟨_, rfl⟩
  obtain ⟨P3, hP3⟩ : ∃ P, P = P2 ++ ⟨#[32]⟩ ++ fstr c := ⟨_, rfl⟩
  have HX := Lib.hid (show ktxt (a, b, c) = P3 by rw [hP3, hP2, hP1]; rfl)
  have z1 : P1.size ≤ 21 := by rw [hP1]; exact fstr_size a0 a1
  have e1 : (⟨#[32]⟩ : ByteArray).size = 1 := rfl
  have z2 : P2.size ≤ 43 := by have := fstr_size b0 b1; rw [hP2, ByteArray.size_append, ByteArray.size_append, e1]; omega
  have CD : Hid (∀ (n : Int) (W : World), n ≠ 0 → 0 ≤ n → n ≤ 4096 → Calls Tryd.prog 29 #[.int .i64 n] W fun e w' => e = .returned (.string (fstr n)) ∧ Kept Nil W w') := Lib.hid fun n W h h0 h1 => by rw [fstr_num h]; exact digits_int n (by omega) h1 W
  have ZN : Hid (∀ n : Int, 0 ≤ n → n ≤ 4096 → (fstr n).size ≤ 21) := Lib.hid fun n h0 h1 => fstr_size h0 h1
  have HP1 := Lib.hid hP1
  have HP2 := Lib.hid hP2
  have HP3 := Lib.hid hP3
  clear hP1 hP2 hP3 ht
  have S0 := Lib.hid (TIn.start w #[.int .i64 a, .int .i64 b, .int .i64 c])
  go_enter Tryd.func21, Tryd.ntmps21
  go_wp2_with fail
  go_loopw [3, 4] (fun s i wr => Hid (TIn w #[.int .i64 a, .int .i64 b, .int .i64 c] wr) ∧ ((s = .string ⟨#[]⟩ ∧ i = .int .i64 0) ∨ (s = .string P1 ∧ i = .int .i64 1) ∨ (s = .string P2 ∧ i = .int .i64 2) ∨ (s = .string P3 ∧ i = .int .i64 3))) (fun _ i _ => (3 - intOf i).toNat)
  case atStart => exact ⟨S0, .inl ⟨rfl, rfl⟩⟩
  case round =>
    obtain ⟨S, hrel⟩ := hrel
    obtain ⟨p0, p1, p2⟩ := (show _ ∧ _ ∧ _ from ⟨S.out.b0.cell 0, S.out.b0.cell 1, S.out.b0.cell 2⟩)
    simp at p0 p1 p2
    clear S0
    rcases hrel with ⟨rfl, rfl⟩ | ⟨rfl, rfl⟩ | ⟨rfl, rfl⟩ | ⟨rfl, rfl⟩
    · by_cases h0 : a = 0
      · have g0 : (a == 0) = true := beq_iff_eq.2 h0
        have HQ : Hid (P1 = ⟨#[42]⟩) := Lib.hid (HP1.out.trans (by rw [h0, fstr_zero]))
        clear h0
        go_wp2_with fail
        go_roundw
        case rel => exact ⟨S, .inr (.inl ⟨by rw [HQ.out]; first | rfl | (rw [empty_app]), rfl⟩)⟩
        case measure => decide
      · have g0 : (a == 0) = false := beq_eq_false_iff_ne.2 h0
        have CI : Hid (∀ W : World, Calls Tryd.prog 29 #[.int .i64 a] W fun e w' => e = .returned (.string (fstr a)) ∧ Kept Nil W w') := Lib.hid fun W => CD.out a W h0 a0 a1
        have zz : (fstr a).size ≤ 21 := ZN.out a a0 a1
        clear h0
        go_wp2_with fail
        refine (CI.out _).mono ?_
        rintro e w1 ⟨rfl, k1⟩
        have S1 := Lib.hid (S.out.step k1)
        clear p0 p1 p2
        go_wp2_with fail
        go_roundw
        case rel => exact ⟨S1, .inr (.inl ⟨by rw [HP1.out]; first | rfl | (rw [empty_app]), rfl⟩)⟩
        case measure => decide
    · by_cases h0 : b = 0
      · have g0 : (b == 0) = true := beq_iff_eq.2 h0
        have HQ : Hid (P2 = P1 ++ ⟨#[32]⟩ ++ ⟨#[42]⟩) := Lib.hid (HP2.out.trans (by rw [h0, fstr_zero]))
        clear h0
        go_wp2_with fail
        go_roundw
        case rel => exact ⟨S, .inr (.inr (.inl ⟨by rw [HQ.out], rfl⟩))⟩
        case measure => decide
      · have g0 : (b == 0) = false := beq_eq_false_iff_ne.2 h0
        have CI : Hid (∀ W : World, Calls Tryd.prog 29 #[.int .i64 b] W fun e w' => e = .returned (.string (fstr b)) ∧ Kept Nil W w') := Lib.hid fun W => CD.out b W h0 b0 b1
        have zz : (fstr b).size ≤ 21 := ZN.out b b0 b1
        clear h0
        go_wp2_with fail
        refine (CI.out _).mono ?_
        rintro e w1 ⟨rfl, k1⟩
        have S1 := Lib.hid (S.out.step k1)
        clear p0 p1 p2
        go_wp2_with fail
        go_roundw
        case rel => exact ⟨S1, .inr (.inr (.inl ⟨by rw [HP2.out], rfl⟩))⟩
        case measure => decide
    · by_cases h0 : c = 0
      · have g0 : (c == 0) = true := beq_iff_eq.2 h0
        have HQ : Hid (P3 = P2 ++ ⟨#[32]⟩ ++ ⟨#[42]⟩) := Lib.hid (HP3.out.trans (by rw [h0, fstr_zero]))
        clear h0
        go_wp2_with fail
        go_roundw
        case rel => exact ⟨S, .inr (.inr (.inr (⟨by rw [HQ.out], rfl⟩)))⟩
        case measure => decide
      · have g0 : (c == 0) = false := beq_eq_false_iff_ne.2 h0
        have CI : Hid (∀ W : World, Calls Tryd.prog 29 #[.int .i64 c] W fun e w' => e = .returned (.string (fstr c)) ∧ Kept Nil W w') := Lib.hid fun W => CD.out c W h0 c0 c1
        have zz : (fstr c).size ≤ 21 := ZN.out c c0 c1
        clear h0
        go_wp2_with fail
        refine (CI.out _).mono ?_
        rintro e w1 ⟨rfl, k1⟩
        have S1 := Lib.hid (S.out.step k1)
        clear p0 p1 p2
        go_wp2_with fail
        go_roundw
        case rel => exact ⟨S1, .inr (.inr (.inr (⟨by rw [HP3.out], rfl⟩)))⟩
        case measure => decide
    · go_wp2_with fail
      go_ret
      exact ⟨ret_s HX.out.symm, S.out.kept⟩
end Go.Proofs.YtjknibgbbhiooaaDoor
