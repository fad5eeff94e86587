/- A call of AlphaPlays: its cells; may it be? -/
import Derived.Test.YthiijlngoikhkaaORefU
namespace Go.Proofs.Ythiijlngoikhkaa
open Go.RowKit Go.Maps
set_option maxRecDepth 100000

/-- May a call be? -/
def fineO (k t : T3) (n : Nat) (fs : List F4) : Bool := okKT k && (okT t && (decide (n ≤ 20) && fs.all (fun f => okT f.2)))
theorem fineO_iff {k t : T3} {n : Nat} {fs : List F4} : fineO k t n fs = true ↔ okKT k = true ∧ okT t = true ∧ n ≤ 20 ∧ ∀ f ∈ fs, okT f.2 = true := by
  unfold fineO
  simp [List.all_eq_true]
abbrev vO (kd : Int) (k t : T3) (i : Int) (a : Option Addr) (n c : Nat) : Value := .agg #[.int .i64 kd, .int .i64 k.1, .int .i64 k.2.1, .int .i64 k.2.2, .int .i64 t.1, .int .i64 t.2.1, .int .i64 t.2.2, .int .i64 i, .slice a n c]
set_option maxHeartbeats 4000000 in
theorem fine_any {w : World} (kd : Int) (k t : T3) (i : Int) {a : Option Addr} {n c : Nat} {fs : List F4} (h : In cF 4 w a n fs) (hm : n ≤ maxLen) :
    Calls Try.prog 8 #[vO kd k t i a n c] w fun e w' => e = .returned (.bool (fineO k t n fs)) ∧ Kept Nil w w' := by
  unfold maxLen at hm
  have HIn := Lib.hid h
  clear h
  have HB := Lib.hid (Blk.new w 34 #[.int .i64 kd, .int .i64 k.1, .int .i64 k.2.1, .int .i64 k.2.2, .int .i64 t.1, .int .i64 t.2.1, .int .i64 t.2.2, .int .i64 i, .slice a n c])
  have K1 := Lib.hid ((Kept.refl Nil w).alloc (.cells #[.int .i64 kd, .int .i64 k.1, .int .i64 k.2.1, .int .i64 k.2.2, .int .i64 t.1, .int .i64 t.2.1, .int .i64 t.2.2, .int .i64 i, .slice a n c] 34))
  go_enter Try.func8, Try.ntmps8
  go_wp2_with fail
  refine (kRefRight_any k _).mono ?_
  rintro e w1 ⟨rfl, k1⟩
  have B1 := Lib.hid (HB.out.kept k1 (fun e => e))
  have K2 := Lib.hid (K1.out.trans k1 (fun _ _ e => e))
  have t4 := B1.out.cell 4
  have t5 := B1.out.cell 5
  have t6 := B1.out.cell 6
  simp at t4 t5 t6
  clear k1
  by_cases hk : okKT k = true
  rotate_left
  · have hk' : okKT k = false := by simpa using hk
    have hd := Lib.hid (show fineO k t n fs = false from by unfold fineO; rw [hk']; rfl)
    rw [hk']
    go_wp2_with fail
    go_ret
    exact ⟨ret_bool hd.out.symm, K2.out⟩
  rw [hk]
  go_wp2_with fail
  refine (refRight_any t _).mono ?_
  rintro e w2 ⟨rfl, k2⟩
  have B2 := Lib.hid (B1.out.kept k2 (fun e => e))
  have K3 := Lib.hid (K2.out.trans k2 (fun _ _ e => e))
  have t8 := B2.out.cell 8
  simp at t8
  clear k2 t4 t5 t6
  by_cases ht : okT t = true
  rotate_left
  · have ht' : okT t = false := by simpa using ht
    have hd := Lib.hid (show fineO k t n fs = false from by unfold fineO; rw [ht', hk]; rfl)
    rw [ht']
    go_wp2_with fail
    go_ret
    exact ⟨ret_bool hd.out.symm, K3.out⟩
  rw [ht]
  by_cases hn : 20 < n
  · have hd := Lib.hid (show fineO k t n fs = false from by unfold fineO; rw [ht, hk, decide_eq_false (by omega : ¬ n ≤ 20)]; rfl)
    have hdn : decide (20 < (n : Int)) = true := decide_eq_true (by omega)
    have hdn2 : decide (20 < n) = true := decide_eq_true hn
    go_wp2_with fail
    go_ret
    exact ⟨ret_bool hd.out.symm, K3.out⟩
  have hdn : decide (20 < (n : Int)) = false := decide_eq_false (by omega)
  have hdn2 : decide (20 < n) = false := decide_eq_false hn
  have hn20 : n ≤ 20 := by omega
  have HKT := Lib.hid (And.intro hk ht)
  clear hn hk ht
  go_wp2_with fail
  go_loopw [24] (fun i wr => ∃ j : Nat, j ≤ n ∧ i = .int .i64 j ∧ (∀ f ∈ fs.take j, okT f.2 = true) ∧ Kept Nil w2 wr) (fun i _ => n - (intOf i).toNat)
  case atStart => exact ⟨0, Nat.zero_le _, rfl, by simp, Kept.refl _ _⟩
  case round =>
    obtain ⟨j, hj, rfl, hA, hK⟩ := hrel
    have HA := Lib.hid hA
    have HK := Lib.hid hK
    clear hA hK
    by_cases hjn : j < n
    · obtain ⟨⟨fi, fx, fy, fz⟩, hf⟩ : ∃ f, fs[j]? = some f := ⟨fs[j]'(by rw [HIn.out.1]; exact hjn), by simp⟩
      obtain ⟨b, o, rfl, hb, p0, p1, p2, p3⟩ := ((HIn.out.kept K3.out).kept HK.out).four hf
      have HF := Lib.hid hf
      simp only at p0 p1 p2 p3
      clear hf
      go_wp2_with fail
      refine (refRight_any (fx, fy, fz) _).mono ?_
      rintro e w4 ⟨rfl, k4⟩
      have K4 := Lib.hid (((Kept.refl Nil wr).alloc (.cells #[.int .i64 fi, .int .i64 fx, .int .i64 fy, .int .i64 fz] 51)).trans k4 (fun _ _ e => e))
      clear k4
      by_cases hh : okT (fx, fy, fz) = true
      · have HH := Lib.hid hh
        rw [hh]
        go_wp2_with fail
        go_roundw
        case rel =>
          refine ⟨j + 1, hjn, by go_num, fun f hf => ?_, HK.out.trans K4.out (fun _ _ e => e)⟩
          rw [List.take_add_one, HF.out] at hf
          rcases List.mem_append.1 hf with hf | hf
          · exact HA.out f hf
          · simp at hf; rw [hf]; exact HH.out
        case measure => simp [intOf]; omega
      · have hh' : okT (fx, fy, fz) = false := by simpa using hh
        have hd := Lib.hid (show fineO k t n fs = false from by
          cases hfo : fineO k t n fs with
          | false => rfl
          | true => exact absurd ((fineO_iff.1 hfo).2.2.2 (fi, fx, fy, fz) (List.mem_of_getElem? HF.out)) hh)
        rw [hh']
        go_wp2_with fail
        go_ret
        exact ⟨ret_bool hd.out.symm, K3.out.trans (HK.out.trans K4.out (fun _ _ e => e)) (fun _ _ e => e)⟩
    · obtain rfl : n = j := by omega
      have hd := Lib.hid (show fineO k t n fs = true from fineO_iff.2 ⟨HKT.out.1, HKT.out.2, hn20, by
        have := HA.out
        rwa [List.take_of_length_le (by rw [HIn.out.1]; exact Nat.le_refl _)] at this⟩)
      go_wp2_with fail
      go_ret
      exact ⟨ret_bool hd.out.symm, K3.out.trans HK.out (fun _ _ e => e)⟩
end Go.Proofs.Ythiijlngoikhkaa
