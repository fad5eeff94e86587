/- Whatever the limit, WmFull returns true, and writes nothing that was there. -/
import Derived.Test.YtgnpclcoinndpaaWAwake
import Derived.Laws.StructEq
namespace Go.Proofs.Ytgnpclcoinndpaa
open Go.RowKit Go.Maps
set_option maxRecDepth 100000

/-- So many facts with one triple. -/
def nL (t : T3) (j : Nat) : List F4 := (List.range j).map fun (i : Nat) => ((i : Int) + 1, t)
theorem nL_len (t : T3) (j : Nat) : (nL t j).length = j := by simp [nL]
theorem nL_succ (t : T3) (j : Nat) : nL t (j + 1) = nL t j ++ [((j : Int) + 1, t)] := by simp [nL, List.range_succ]
theorem nL_look (t : T3) {j : Nat} {k : Int} (h1 : 1 ≤ k) (h2 : k ≤ j) : look (nL t j) k = some t := by
  induction j with
  | zero => omega
  | succ j ih =>
    rw [nL_succ]
    by_cases e : k = (j : Int) + 1
    · subst e
      refine look_snoc_same t (look_none.2 (fun x hx => ?_))
      obtain ⟨i, hi, rfl⟩ := List.mem_map.1 hx
      have := List.mem_range.1 hi
      show (i : Int) + 1 ≠ (j : Int) + 1
      omega
    · rw [look_snoc_other t e]
      exact ih (by omega)
theorem rid_len1 {t s : T3} {n : Nat} {k : Int} (hr : Rise (nL t n)) (hk : look (nL t n) k = some s) : (rid (nL t n) k).length + 1 = n := by
  have := rid_length hr hk
  rwa [nL_len] at this

/-! ### == on triples -/
theorem infoInt : (Try.prog.info? 3).isSome = true := by kernel_rfl
theorem cells1 : Try.prog.cellsOf 3 = 1 := by kernel_rfl
theorem partInt (xs : Array Value) (i : Nat) (v : Value) (h : xs[i]? = some v) (w : World) : (part 3 xs i).run Try.prog w = .ok v w := by
  simp [part, isAgg, run_underlying Try.underlying3, h]
theorem eqT_at {ty : TypeId} (hu : Try.prog.underlying ty = some (.array 3 3)) (x k : T3) (w : World) :
    (Op.equalIn 10000 ty (.agg #[.int .i64 x.1, .int .i64 x.2.1, .int .i64 x.2.2]) (.agg #[.int .i64 k.1, .int .i64 k.2.1, .int .i64 k.2.2])).run Try.prog w = .ok (decide (x = k)) w := by
  obtain ⟨a1, a2, a3⟩ := x
  obtain ⟨b1, b2, b3⟩ := k
  obtain ⟨i, hi⟩ := Option.isSome_iff_exists.1 infoInt
  have e : ∀ x y : Int, (Op.equalIn 9999 3 (.int .i64 x) (.int .i64 y)).run Try.prog w = .ok (x == y) w := fun x y => run_equalIn_int w 9998 3 .i64 .i64 x y Try.underlying3
  rw [run_equalIn_array w 9999 _ _ hu hi, cells1]
  show (Op.eqItems 9999 3 1 _ _ [0, 1, 2]).run Try.prog w = _
  have p0 : ∀ x y z : Value, (part 3 #[x, y, z] 0).run Try.prog w = .ok x w := fun x y z => partInt #[x, y, z] 0 x rfl w
  have p1 : ∀ x y z : Value, (part 3 #[x, y, z] 1).run Try.prog w = .ok y w := fun x y z => partInt #[x, y, z] 1 y rfl w
  have p2 : ∀ x y z : Value, (part 3 #[x, y, z] 2).run Try.prog w = .ok z w := fun x y z => partInt #[x, y, z] 2 z rfl w
  by_cases h1 : a1 = b1
  · by_cases h2 : a2 = b2
    · by_cases h3 : a3 = b3
      · simp [Op.eqItems, p0, p1, p2, e, h1, h2, h3]
      · simp [Op.eqItems, p0, p1, p2, e, h1, h2, h3]
    · simp [Op.eqItems, p0, p1, e, h1, h2]
  · simp [Op.eqItems, p0, e, h1]

set_option maxHeartbeats 4000000 in
theorem wmFull_any (x y : Nat) (w : World) (hx : x ≤ 65535) (hy : y ≤ 65535) :
    Calls Try.prog 4 #[.int .u16 x, .int .u16 y] w fun e w' => e = .returned (.bool true) ∧ Kept Nil w w' := by
  obtain ⟨n, hn⟩ : ∃ n : Nat, n = 1 + x % 1024 := ⟨_, rfl⟩
  have hn1 : 1 ≤ n := by omega
  have hn2 : n ≤ 1024 := by omega
  have e1 : IntKind.i64.wrap (x : Int) = (x : Int) := IntWalk.i64_in _ (by omega)
  have e2 : (1 : Int) + (x : Int) % 1024 = (n : Int) := by omega
  have e3 : IntKind.i64.wrap (y : Int) = (y : Int) := IntWalk.i64_in _ (by omega)
  have hok : okT (4096, 1, 2) = true := by decide
  clear hn
  go_enter Try.func4, Try.ntmps4
  go_wp2_with fail
  refine (new_good n hn1 hn2 w).mono ?_
  rintro e w1 ⟨p, bm, rfl, h1, k1⟩
  have H1 := Lib.hid (h1.keptN ((Kept.refl Nil w1).alloc (.cells #[.int .i64 4096, .int .i64 1, .int .i64 2] 33)))
  have K1 := Lib.hid (k1.alloc (.cells #[.int .i64 4096, .int .i64 1, .int .i64 2] 33))
  have HB1 := Lib.hid (Blk.new w1 33 #[.int .i64 4096, .int .i64 1, .int .i64 2])
  clear h1 k1
  go_wp2_with fail
  generalize w1.alloc (.cells #[.int .i64 4096, .int .i64 1, .int .i64 2] 33) = w2 at *
  generalize w1.heap.size = b at *
  go_loopw [38] (fun i wr => ∃ j : Nat, j ≤ n ∧ i = .int .i64 j ∧ Mem wr w.heap.size p bm (nL (4096, 1, 2) j) j n ∧ Kept Nil w wr ∧ Blk wr b 33 #[.int .i64 4096, .int .i64 1, .int .i64 2]) (fun i _ => n - (intOf i).toNat)
  case atStart => exact ⟨0, Nat.zero_le _, rfl, H1.out, K1.out, HB1.out⟩
  case round =>
    clear H1 K1 HB1
    obtain ⟨j, hj, rfl, hM, hK, hB⟩ := hrel
    have HM := Lib.hid hM
    have HK := Lib.hid hK
    have HB := Lib.hid hB
    have x0 := hB.cell 0
    have x1 := hB.cell 1
    have x2 := hB.cell 2
    clear hM hK hB
    by_cases hlt : j < n
    · go_wp2_with fail
      refine (add_good (t := (4096, 1, 2)) HM.out (by rw [nL_len]; exact hlt) (by omega) hok).mono ?_
      rintro e w3 ⟨rfl, h3, k3⟩
      rw [← nL_succ] at h3
      have H3 := Lib.hid h3
      have K3 := Lib.hid (HM.out.outer HK.out k3)
      have HB3 := Lib.hid (HM.out.stays HB.out (by decide) k3)
      clear h3 k3 x0 x1 x2 HM HK HB
      go_wp2_with fail
      go_roundw
      case rel => exact ⟨j + 1, hlt, by go_num, H3.out, K3.out, HB3.out⟩
      case measure => simp [intOf]; omega
    · have hjn : j = n := by omega
      subst hjn
      go_wp2_with fail
      refine (add_full (t := (4096, 1, 2)) HM.out (by rw [nL_len]; exact Nat.le_refl _) hok).mono ?_
      rintro e w3 ⟨rfl, k3⟩
      have H3 := Lib.hid (HM.out.keptN k3)
      have K3 := Lib.hid (HK.out.trans k3 (fun _ _ e => e))
      have HB3 := Lib.hid (HB.out.kept k3 (fun e => e))
      obtain ⟨m, hm⟩ : ∃ m : Nat, m = 1 + y % j := ⟨_, rfl⟩
      have hmj : m ≤ j := by have := Nat.mod_lt y hn1; omega
      have hm1 : 1 ≤ m := by omega
      have e4 : (1 : Int) + (y : Int) % (j : Int) = (m : Int) := by omega
      have hj0 : (j : Int) ≠ 0 := by omega
      clear k3 x0 x1 x2 HM HK HB hm
      go_wp2_with fail
      have hlk := nL_look (4096, 1, 2) (j := j) (k := (m : Int)) (by omega) (by omega)
      refine (remove_hit (t := (4096, 1, 2)) H3.out (k := (m : Int)) (wf_i64 (by omega)) hlk).mono ?_
      rintro e w4 ⟨rfl, h4, k4⟩
      have hlen := rid_len1 H3.out.rise hlk
      have H4 := Lib.hid h4
      have K4 := Lib.hid (H3.out.outer K3.out k4)
      have HB4 := H3.out.stays HB3.out (by decide) k4
      have k5 : Kept Nil w4 (w4.alloc (.cells #[.int .i64 4096, .int .i64 1, .int .i64 2] 33)) := (Kept.refl _ _).alloc _
      have B5 := HB4.kept k5 (fun e => e)
      have H5 := Lib.hid (H4.out.keptN k5)
      have K5 := Lib.hid (K4.out.trans k5 (fun _ _ e => e))
      have HB5 := Lib.hid B5
      have x0 := B5.cell 0
      have x1 := B5.cell 1
      have x2 := B5.cell 2
      have heq := fun W : World => eqT_at Try.underlying33 (4096, 1, 2) (4096, 1, 2) W
      simp only [decide_true] at heq
      have HL := Lib.hid hlen
      clear h4 k4 hlk hlen HB4 k5 B5 H4 K4 H3 K3 HB3
      go_wp2_with fail
      generalize w4.alloc (.cells #[.int .i64 4096, .int .i64 1, .int .i64 2] 33) = w5 at *
      clear heq
      refine (add_good (t := (4096, 1, 2)) H5.out (by have := HL.out; omega) (by omega) hok).mono ?_
      rintro e w6 ⟨rfl, h6, k6⟩
      have hm2 : look (rid (nL (4096, 1, 2) j) (m : Int) ++ [((j : Int) + 1, (4096, 1, 2))]) (m : Int) = none := by
        rw [look_snoc_other _ (by omega)]; exact look_rid_same _ _
      have hl6 : (rid (nL (4096, 1, 2) j) (m : Int) ++ [((j : Int) + 1, ((4096, 1, 2) : T3))]).length = j := by rw [List.length_append]; exact HL.out
      have H6 := Lib.hid h6
      have K6 := Lib.hid (H5.out.outer K5.out k6)
      have HL6 := Lib.hid hl6
      have HM6 := Lib.hid hm2
      clear h6 k6 H5 K5 HB5 x0 x1 x2 hl6 hm2
      go_wp2_with fail
      refine (get_miss H6.out (k := (m : Int)) (wf_i64 (by omega)) HM6.out).mono ?_
      rintro e w7 ⟨rfl, k7⟩
      have k8 : Kept Nil w7 (w7.alloc (.cells #[.int .i64 0, .int .i64 0, .int .i64 0] 33)) := (Kept.refl _ _).alloc _
      have H8 := Lib.hid ((H6.out.keptN k7).keptN k8)
      have K8 := Lib.hid ((K6.out.trans k7 (fun _ _ e => e)).trans k8 (fun _ _ e => e))
      clear k7 k8 H6 K6 HM6
      go_wp2_with fail
      generalize w7.alloc (.cells #[.int .i64 0, .int .i64 0, .int .i64 0] 33) = w8 at *
      refine (len_any H8.out).mono ?_
      rintro e w9 ⟨rfl, rfl⟩
      rw [HL6.out]
      go_wp2_with fail
      refine (last_any H8.out).mono ?_
      rintro e w9 ⟨rfl, rfl⟩
      go_wp2_with fail
      refine (awake_any _).mono ?_
      rintro e w9 ⟨rfl, k9⟩
      have K9 := Lib.hid (K8.out.trans k9 (fun _ _ e => e))
      clear k9
      go_wp2_with fail
      go_ret
      exact ⟨rfl, K9.out⟩
end Go.Proofs.Ytgnpclcoinndpaa
