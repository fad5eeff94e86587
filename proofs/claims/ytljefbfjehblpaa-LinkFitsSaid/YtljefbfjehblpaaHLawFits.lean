/- LinkFits: the walk over the law's own code. -/
import Derived.Test.YtljefbfjehblpaaHOpen
import Derived.Deep.DeepCutAuto
namespace Go.Proofs.Ytljefbfjehblpaa
open Go.RowKit
set_option maxRecDepth 100000

theorem fits_start (zi za : Bool) : fitsF (startF zi za) zi za = true := by cases zi <;> cases za <;> rfl
theorem fits_items {p : Bool × Bool} {zn zm : Bool} (h : fitsF p zn zm = true) (zk : Bool) : fitsF (itemsF p zn zk zm) zk zm = true := by
  obtain ⟨l, r⟩ := p
  cases l <;> cases r <;> cases zn <;> cases zm <;> cases zk <;> first | rfl | cases h
theorem fits_above {p : Bool × Bool} {zn zm : Bool} (h : fitsF p zn zm = true) (zk : Bool) : fitsF (aboveF p zm zk zn) zn zk = true := by
  obtain ⟨l, r⟩ := p
  cases l <;> cases r <;> cases zn <;> cases zm <;> cases zk <;> first | rfl | cases h

theorem ref_fits {l r : Bool} {n m : Int} (h : fitsF (l, r) (zr n) (zr m) = true) : ∃ L R : Int, (∀ W, Calls Try.prog 7 #[.agg #[.bool l, .bool r]] W fun e w' => e = .returned (.agg #[.int .i64 L, .int .i64 R]) ∧ Kept Nil W w') ∧ (∀ W, Calls Try.prog 15 #[.agg #[.int .i64 L, .int .i64 R], .int .i64 n, .int .i64 m] W fun e w' => e = .returned (.bool true) ∧ Kept Nil W w') :=
  ⟨_, _, fun W => ref_any (l, r) W, fun W => by have := refFits_any (l, r) n m W; rw [h] at this; exact this⟩
theorem start_fits (n m : Int) : ∃ l r, fitsF (l, r) (zr n) (zr m) = true ∧ ∀ W, Calls Try.prog 8 #[.int .i64 n, .int .i64 m] W fun e w' => e = .returned (.agg #[.bool l, .bool r]) ∧ Kept Nil W w' :=
  ⟨_, _, fits_start (zr n) (zr m), fun W => start_any n m W⟩
theorem items_fits {l r : Bool} {n m : Int} (h : fitsF (l, r) (zr n) (zr m) = true) (k : Int) : ∃ l' r', fitsF (l', r') (zr k) (zr m) = true ∧ ∀ W, Calls Try.prog 10 #[.agg #[.bool l, .bool r], .int .i64 n, .int .i64 k, .int .i64 m] W fun e w' => e = .returned (.agg #[.bool l', .bool r']) ∧ Kept Nil W w' :=
  ⟨_, _, fits_items h (zr k), fun W => items_any (l, r) n k m W⟩
theorem above_fits {l r : Bool} {n m : Int} (h : fitsF (l, r) (zr n) (zr m) = true) (k : Int) : ∃ l' r', fitsF (l', r') (zr n) (zr k) = true ∧ ∀ W, Calls Try.prog 12 #[.agg #[.bool l, .bool r], .int .i64 m, .int .i64 k, .int .i64 n] W fun e w' => e = .returned (.agg #[.bool l', .bool r']) ∧ Kept Nil W w' :=
  ⟨_, _, fits_above h (zr k), fun W => above_any (l, r) m k n W⟩

set_option maxHeartbeats 8000000 in
theorem linkFits_any (i0 : Int) (hi0 : 0 ≤ i0 ∧ i0 < 256) (a0 : Int) (ha0 : 0 ≤ a0 ∧ a0 < 256) (ab : Option Addr) (nb cb : Nat) (l : List Int) (w : World) (hb : In cB 1 w ab nb l) (hok : ∀ x ∈ l, 0 ≤ x ∧ x ≤ 255) (hm : nb ≤ maxLen) :
    Calls Try.prog 4 #[.int .u8 i0, .int .u8 a0, .slice ab nb cb] w fun e w' => e = .returned (.bool true) ∧ Kept Nil w w' := by
  have HA := Lib.hid (fun W => awake_any W)
  have HB := Lib.hid hb
  have HO := Lib.hid hok
  clear hb hok
  go_enter Try.func4, Try.ntmps4
  by_cases h100 : 100 < nb
  · have hd : decide (100 < nb) = true := decide_eq_true h100
    go_wp2_with fail
    refine (HA.out _).mono ?_
    rintro e w1 ⟨rfl, k1⟩
    go_wp2_with fail
    go_ret
    exact ⟨rfl, k1⟩
  have hd : decide (100 < nb) = false := decide_eq_false h100
  go_wp2_with fail
  generalize i0 % 5 = n
  generalize a0 % 5 = m
  obtain ⟨x, y, hf, cs⟩ := start_fits n m
  have HF := Lib.hid hf
  refine (cs _).mono ?_
  rintro e w1 ⟨rfl, k1⟩
  have K1 := Lib.hid (k1.alloc (.cells #[.bool x, .bool y] 23))
  have B1 := Lib.hid (Blk.new w1 23 #[.bool x, .bool y])
  have HG := Lib.hid k1.size
  obtain ⟨L, R, cr, cf⟩ := ref_fits hf
  have CR := Lib.hid cr
  have CF := Lib.hid cf
  clear k1 cs hf cr cf
  go_upto_region 5 with fail
  generalize w1.alloc (.cells #[.bool x, .bool y] 23) = W1 at *
  generalize w1.heap.size = g at *
  have x0 := B1.out.cell 0
  have x1 := B1.out.cell 1
  simp only [List.getElem?_toArray, List.getElem?_cons_zero, List.getElem?_cons_succ] at x0 x1
  go_wp2_with fail
  refine (CR.out _).mono ?_
  rintro e w2 ⟨rfl, k2⟩
  have K2 := Lib.hid (K1.out.trans k2 (fun _ _ g => g))
  have B2 := Lib.hid (B1.out.kept k2 id)
  clear k2 CR K1 B1 x0 x1
  go_wp2_with fail
  refine (CF.out _).mono ?_
  rintro e w3 ⟨rfl, k3⟩
  have K3 := Lib.hid (K2.out.trans k3 (fun _ _ g => g))
  have B3 := Lib.hid (B2.out.kept k3 id)
  clear k3 CF K2 B2
  go_wp2_with fail
  go_loopw [7, 8, 34] (fun nv mv i wr => ∃ (j : Nat) (n m : Int) (x y : Bool), j ≤ nb ∧ i = .int .i64 j ∧ nv = .int .i64 n ∧ mv = .int .i64 m ∧ fitsF (x, y) (zr n) (zr m) = true ∧ Kept Nil w wr ∧ Blk wr g 23 #[.bool x, .bool y]) (fun _ _ i _ => nb - (intOf i).toNat)
  case atStart => exact ⟨0, n, m, x, y, Nat.zero_le _, rfl, rfl, rfl, HF.out, K3.out, B3.out⟩
  case round =>
    clear K3 B3 HF
    obtain ⟨j, n, m, x, y, hj, rfl, rfl, rfl, hf, hK, hB⟩ := hrel
    have HK := Lib.hid hK
    have HF := Lib.hid hf
    have HB1 := Lib.hid hB
    have x0 := hB.cell 0
    have x1 := hB.cell 1
    simp only [List.getElem?_toArray, List.getElem?_cons_zero, List.getElem?_cons_succ] at x0 x1
    clear hf hK hB
    by_cases hlt : j < nb
    · obtain ⟨b, hbj⟩ : ∃ b, l[j]? = some b := ⟨_, List.getElem?_eq_getElem (by have := HB.out.1; omega)⟩
      obtain ⟨bb, off, hab, hbl, hc⟩ := (HB.out.kept HK.out).at_ hbj
      have hx := hc 0 _ rfl
      simp only [Nat.mul_one, Nat.add_zero] at hx
      have hbo := HO.out b (List.mem_of_getElem? hbj)
      obtain ⟨hb0, hb255⟩ := hbo
      have hmod := Int.emod_two_eq b
      clear hc hbj
      subst hab
      by_cases h2 : b % 2 = 0
      · have hd2 : (b % 2 == 0) = true := by simpa using h2
        clear hmod
        go_wp2_with fail
        generalize b / 2 % 5 = k
        obtain ⟨x', y', hf', cs⟩ := items_fits HF.out k
        have HF' := Lib.hid hf'
        obtain ⟨L, R, cr, cf⟩ := ref_fits hf'
        have CR := Lib.hid cr
        have CF := Lib.hid cf
        clear hf' cr cf x0 x1 hx
        refine (cs _).mono ?_
        rintro e w2 ⟨rfl, k2⟩
        have K2 := Lib.hid (HK.out.trans k2 (fun _ _ g => g))
        have B2 := Lib.hid (HB1.out.kept k2 id)
        clear k2 cs
        have y0 := B2.out.cell 0
        have y1 := B2.out.cell 1
        have f0 := B2.out.frozen 0
        have f1 := B2.out.frozen 1
        simp only [List.getElem?_toArray, List.getElem?_cons_zero, List.getElem?_cons_succ] at y0 y1
        have B3 := Lib.hid ((B2.out.set_ 0 (.bool x')).set_ 1 (.bool y'))
        have K3 := Lib.hid ((K2.out.setCell ⟨g, 0, none⟩ (.inr HG.out) (.bool x')).setCell ⟨g, 1, none⟩ (.inr HG.out) (.bool y'))
        go_upto_region 16 with fail
        generalize (w2.setCell ⟨g, 0, none⟩ (.bool x')).setCell ⟨g, 1, none⟩ (.bool y') = W3 at *
        have B3 : Hid (Blk W3 g 23 #[.bool x', .bool y']) := B3
        clear y0 y1 f0 f1 B2 K2
        have z0 := B3.out.cell 0
        have z1 := B3.out.cell 1
        simp only [List.getElem?_toArray, List.getElem?_cons_zero, List.getElem?_cons_succ] at z0 z1
        go_wp2_with fail
        refine (CR.out _).mono ?_
        rintro e w4 ⟨rfl, k4⟩
        have K4 := Lib.hid (K3.out.trans k4 (fun _ _ g => g))
        have B4 := Lib.hid (B3.out.kept k4 id)
        clear k4 K3 B3 CR z0 z1
        go_wp2_with fail
        refine (CF.out _).mono ?_
        rintro e w5 ⟨rfl, k5⟩
        have K5 := Lib.hid (K4.out.trans k5 (fun _ _ g => g))
        have B5 := Lib.hid (B4.out.kept k5 id)
        clear k5 K4 B4 CF
        go_wp2_with fail
        go_roundw
        case rel => exact ⟨j + 1, k, m, x', y', by omega, by go_num, rfl, rfl, HF'.out, K5.out, B5.out⟩
        case measure => simp [intOf]; omega
      · have hd2 : (b % 2 == 0) = false := by simpa using h2
        clear hmod
        go_wp2_with fail
        generalize b / 2 % 5 = k
        obtain ⟨x', y', hf', cs⟩ := above_fits HF.out k
        have HF' := Lib.hid hf'
        obtain ⟨L, R, cr, cf⟩ := ref_fits hf'
        have CR := Lib.hid cr
        have CF := Lib.hid cf
        clear hf' cr cf x0 x1 hx
        refine (cs _).mono ?_
        rintro e w2 ⟨rfl, k2⟩
        have K2 := Lib.hid (HK.out.trans k2 (fun _ _ g => g))
        have B2 := Lib.hid (HB1.out.kept k2 id)
        clear k2 cs
        have y0 := B2.out.cell 0
        have y1 := B2.out.cell 1
        have f0 := B2.out.frozen 0
        have f1 := B2.out.frozen 1
        simp only [List.getElem?_toArray, List.getElem?_cons_zero, List.getElem?_cons_succ] at y0 y1
        have B3 := Lib.hid ((B2.out.set_ 0 (.bool x')).set_ 1 (.bool y'))
        have K3 := Lib.hid ((K2.out.setCell ⟨g, 0, none⟩ (.inr HG.out) (.bool x')).setCell ⟨g, 1, none⟩ (.inr HG.out) (.bool y'))
        go_upto_region 16 with fail
        generalize (w2.setCell ⟨g, 0, none⟩ (.bool x')).setCell ⟨g, 1, none⟩ (.bool y') = W3 at *
        have B3 : Hid (Blk W3 g 23 #[.bool x', .bool y']) := B3
        clear y0 y1 f0 f1 B2 K2
        have z0 := B3.out.cell 0
        have z1 := B3.out.cell 1
        simp only [List.getElem?_toArray, List.getElem?_cons_zero, List.getElem?_cons_succ] at z0 z1
        go_wp2_with fail
        refine (CR.out _).mono ?_
        rintro e w4 ⟨rfl, k4⟩
        have K4 := Lib.hid (K3.out.trans k4 (fun _ _ g => g))
        have B4 := Lib.hid (B3.out.kept k4 id)
        clear k4 K3 B3 CR z0 z1
        go_wp2_with fail
        refine (CF.out _).mono ?_
        rintro e w5 ⟨rfl, k5⟩
        have K5 := Lib.hid (K4.out.trans k5 (fun _ _ g => g))
        have B5 := Lib.hid (B4.out.kept k5 id)
        clear k5 K4 B4 CF
        go_wp2_with fail
        go_roundw
        case rel => exact ⟨j + 1, n, k, x', y', by omega, by go_num, rfl, rfl, HF'.out, K5.out, B5.out⟩
        case measure => simp [intOf]; omega
    · obtain rfl : j = nb := by omega
      go_wp2_with fail
      refine (HA.out _).mono ?_
      rintro e w2 ⟨rfl, k2⟩
      go_wp2_with fail
      go_ret
      exact ⟨rfl, HK.out.trans k2 (fun _ _ g => g)⟩
end Go.Proofs.Ytljefbfjehblpaa
