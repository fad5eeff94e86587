/- Layer comp: the contracts of size, of the program and of the reference. – Layer comp: what it needs of keys: Right, of the program and of the reference; == of keys and of tests; Of. – Layer comp: the program's isField, rightTest, rightTests; slices.Equal of tests. – Layer comp: the program's rightAt, rightSubs, Right. -/
import Derived.Test.YtljefbfjehblpaaGreatA5
import Derived.Test.YtljefbfjehblpaaGreatA1
import Derived.ChangeKeysEq
import Derived.Laws.StructEq
namespace Go.Proofs.YtljefbfjehblpaaGreat
section
section
open Go.RowKit
set_option maxRecDepth 100000

set_option maxHeartbeats 1000000 in
theorem stSize_step (k k0 k1 k2 : Int) (ts : List Tst) (ta : Option Addr) (tn tc : Nat) (subs : List St) (len : Nat) (HL : Hid (subs.length = len)) (HC : Hid (cntL subs ≤ 5000))
    (IH : Hid (∀ hd sb, St.mk hd sb ∈ subs → ∀ ok ta tn tc a cap w, SHolds w ok (.slice a sb.length cap) sb → Calls Tryz.prog 76 #[vS hd (.slice ta tn tc) (.slice a sb.length cap)] w fun e w' => e = .returned (.int .i64 ((St.mk hd sb).cnt : Int)) ∧ Kept Nil w w'))
    (ok : Nat → Nat → Prop) (a : Option Addr) (cap : Nat) (w : World) (HH : Hid (SHolds w ok (.slice a len cap) subs)) :
    Calls Tryz.prog 76 #[vS ⟨k, k0, k1, k2, ts⟩ (.slice ta tn tc) (.slice a len cap)] w fun e w' => e = .returned (.int .i64 ((1 + cntL subs : Nat) : Int)) ∧ Kept Nil w w' := by
  have hLen : len ≤ 5000 := by have := length_cntL subs; have := HL.out; have := HC.out; omega
  have K0 := Lib.hid ((Kept.refl Nil w).alloc (.cells #[.int .i64 k, .int .i64 k0, .int .i64 k1, .int .i64 k2, .slice ta tn tc, .slice a len cap] 65))
  go_enter Tryz.func76, Tryz.ntmps76
  go_wp2_with fail
  go_loopw [3, 9] (fun n i wr => ∃ j : Nat, j ≤ len ∧ i = .int .i64 j ∧ n = .int .i64 ((1 + cntL (subs.take j) : Nat) : Int) ∧ Kept Nil w wr) (fun _ i _ => len - (intOf i).toNat)
  case atStart => exact ⟨0, by omega, rfl, by simp [cntL], K0.out⟩
  case round =>
    obtain ⟨j, hj, rfl, rfl, hK⟩ := hrel
    have HK := Lib.hid hK
    clear hK K0
    by_cases hlt : j < len
    · obtain ⟨⟨⟨k', k0', k1', k2', ts'⟩, sb⟩, hx⟩ : ∃ x, subs[j]? = some x := ⟨_, List.getElem?_eq_getElem (by have := HL.out; omega)⟩
      obtain ⟨b, o, ta', tc', a', cap', rfl, hok, hr, ht, hs⟩ := (HH.out.keptN HK.out).at_ hx
      have HX := Lib.hid (IH.out _ _ (List.mem_of_getElem? hx))
      have HR := Lib.hid hr
      have HS := Lib.hid hs
      have HN := Lib.hid (cntL_take_succ hx)
      have HB := Lib.hid (cntL_take_le subs (j + 1))
      clear hx hr ht hs hok
      generalize hcn : cntL (subs.take j) = cn at HN
      have HCN := Lib.hid hcn
      clear hcn
      have HC' : (St.mk ⟨k', k0', k1', k2', ts'⟩ sb).cnt + cn ≤ 5000 := by have := HN.out; have := HB.out; have := HC.out; omega
      generalize (St.mk ⟨k', k0', k1', k2', ts'⟩ sb).cnt = cx at HX HN HC'
      generalize sb.length = len' at HR HS HX
      generalize ts'.length = tn' at HR
      go_wp2_with ((with_reducible refine wpList_load_S rfl (.tmp 11) rfl _ _ rfl ⟨k', k0', k1', k2', ts'⟩ (.slice ta' tn' tc') (.slice a' len' cap') ?_ ?_)
                   · exact HR.out)
      refine (HX.out _ _ _ _ _ _ _ (HS.out.keptN ((Kept.refl Nil _).alloc _))).mono ?_
      rintro e w2 ⟨rfl, k2⟩
      go_wp2_with fail
      go_roundw
      case rel => exact ⟨j + 1, by omega, by go_num, by rw [HN.out]; go_num, (HK.out.alloc _).trans k2 (fun _ _ g => g)⟩
      case measure => simp [intOf]; omega
    · obtain rfl : j = len := by omega
      have HE : Hid (subs.take j = subs) := Lib.hid (by rw [← HL.out]; simp)
      go_wp2_with fail
      go_ret
      exact ⟨by rw [HE.out]; rfl, HK.out⟩
theorem stSize_any : ∀ s : St, s.cnt ≤ 5000 → ∀ ok ta tn tc a cap w, SHolds w ok (.slice a s.subs.length cap) s.subs →
    Calls Tryz.prog 76 #[vS s.hd (.slice ta tn tc) (.slice a s.subs.length cap)] w fun e w' => e = .returned (.int .i64 (s.cnt : Int)) ∧ Kept Nil w w' := by
  refine St.ind fun hd subs ih hc ok ta tn tc a cap w h => ?_
  have hc' : 1 + cntL subs ≤ 5000 := by simpa [St.cnt] using hc
  have := stSize_step hd.k hd.k0 hd.k1 hd.k2 hd.ts ta tn tc subs _ rfl (show _ ≤ _ by omega) (fun hd' sb hx => ih _ hx (by have := cnt_mem hx; omega)) ok a cap w h
  rw [show (St.mk hd subs).cnt = 1 + cntL subs by simp [St.cnt]]
  exact this
end
section
open Go.RowKit
set_option maxRecDepth 100000

theorem okK_iff {n : Int} : okK n = true ↔ 0 ≤ n ∧ n ≤ 4096 := by unfold okK; exact decide_eq_true_iff
theorem okK_no {n : Int} (h : okK n = false) : n < 0 ∨ 4096 < n := by unfold okK at h; have := of_decide_eq_false h; omega
theorem okK3_bad1 {a b c : Int} (h : okK a = false) : okK3 a b c = false := by unfold okK3; rw [h]; rfl
theorem okK3_bad2 {a b c : Int} (h : okK b = false) : okK3 a b c = false := by unfold okK3; rw [h]; simp
theorem okK3_bad3 {a b c : Int} (h : okK c = false) : okK3 a b c = false := by unfold okK3; rw [h]; simp
theorem okK3_good {a b c : Int} (h1 : okK a = true) (h2 : okK b = true) (h3 : okK c = true) : okK3 a b c = true := by unfold okK3; rw [h1, h2, h3]; rfl
theorem rightIdx (x0 x1 x2 : Value) : (∀ w, (Instr.index 57 (.agg #[x0, x1, x2]) (.int .i64 0)).run Tryz.prog w = .ok x0 w) ∧ (∀ w, (Instr.index 57 (.agg #[x0, x1, x2]) (.int .i64 1)).run Tryz.prog w = .ok x1 w) ∧ (∀ w, (Instr.index 57 (.agg #[x0, x1, x2]) (.int .i64 2)).run Tryz.prog w = .ok x2 w) :=
  ⟨fun _ => by kernel_rfl, fun _ => by kernel_rfl, fun _ => by kernel_rfl⟩

set_option maxHeartbeats 1000000 in
theorem keyRight_any (a b c : Int) (w : World) :
    Calls Tryz.prog 89 #[.agg #[.int .i64 a, .int .i64 b, .int .i64 c]] w fun e w' => e = .returned (.bool (okK3 a b c)) ∧ Kept Nil w w' := by
  obtain ⟨i0, i1, i2⟩ := rightIdx (.int .i64 a) (.int .i64 b) (.int .i64 c)
  go_enter Tryz.func89, Tryz.ntmps89
  go_wp2
  go_loop [6] (fun i => i = .int .i64 0 ∨ (okK a = true ∧ i = .int .i64 1) ∨ (okK a = true ∧ okK b = true ∧ i = .int .i64 2) ∨ (okK a = true ∧ okK b = true ∧ okK c = true ∧ i = .int .i64 3)) (fun i => (3 - intOf i).toNat)
  case atStart => exact .inl rfl
  case round =>
    rcases hrel with rfl | ⟨h1, rfl⟩ | ⟨h1, h2, rfl⟩ | ⟨h1, h2, h3, rfl⟩
    · by_cases h : okK a = true
      · have hb := okK_iff.1 h
        have H := Lib.hid h
        clear h
        obtain ⟨l, u⟩ := hb
        go_wp2
        go_round
        case rel => exact .inr (.inl ⟨H.out, rfl⟩)
        case measure => decide
      · have hb := okK_no (by simpa using h)
        have H := Lib.hid (okK3_bad1 (a := a) (b := b) (c := c) (by simpa using h))
        clear h
        rcases hb with hb | hb
        all_goals go_wp2
        all_goals go_ret
        all_goals exact ⟨ret_bool H.out.symm, (Kept.refl _ _).alloc _⟩
    · have H1 := Lib.hid h1
      clear h1
      by_cases h : okK b = true
      · have hb := okK_iff.1 h
        have H := Lib.hid h
        clear h
        obtain ⟨l, u⟩ := hb
        go_wp2
        go_round
        case rel => exact .inr (.inr (.inl ⟨H1.out, H.out, rfl⟩))
        case measure => decide
      · have hb := okK_no (by simpa using h)
        have H := Lib.hid (okK3_bad2 (a := a) (b := b) (c := c) (by simpa using h))
        clear h
        rcases hb with hb | hb
        all_goals go_wp2
        all_goals go_ret
        all_goals exact ⟨ret_bool H.out.symm, (Kept.refl _ _).alloc _⟩
    · have H1 := Lib.hid h1
      have H2 := Lib.hid h2
      clear h1 h2
      by_cases h : okK c = true
      · have hb := okK_iff.1 h
        have H := Lib.hid h
        clear h
        obtain ⟨l, u⟩ := hb
        go_wp2
        go_round
        case rel => exact .inr (.inr (.inr ⟨H1.out, H2.out, H.out, rfl⟩))
        case measure => decide
      · have hb := okK_no (by simpa using h)
        have H := Lib.hid (okK3_bad3 (a := a) (b := b) (c := c) (by simpa using h))
        clear h
        rcases hb with hb | hb
        all_goals go_wp2
        all_goals go_ret
        all_goals exact ⟨ret_bool H.out.symm, (Kept.refl _ _).alloc _⟩
    · have H := Lib.hid (okK3_good (a := a) (b := b) (c := c) h1 h2 h3)
      clear h1 h2 h3
      go_wp2
      go_ret
      exact ⟨ret_bool H.out.symm, (Kept.refl _ _).alloc _⟩
/-! ### == of keys, of tests -/
theorem infoIntS : (Tryz.prog.info? 3).isSome = true := by kernel_rfl
theorem cellsIntS : Tryz.prog.cellsOf 3 = 1 := by kernel_rfl
theorem partInt (xs : Array Value) (i : Nat) (v : Value) (h : xs[i]? = some v) (w : World) : (part 3 xs i).run Tryz.prog w = .ok v w := by
  simp [part, isAgg, run_underlying Tryz.underlying3, h]
theorem eqKey (a1 a2 a3 b1 b2 b3 : Int) (w : World) :
    (Op.equalIn 10000 57 (.agg #[.int .i64 a1, .int .i64 a2, .int .i64 a3]) (.agg #[.int .i64 b1, .int .i64 b2, .int .i64 b3])).run Tryz.prog w = .ok (decide (a1 = b1 ∧ a2 = b2 ∧ a3 = b3)) w := by
  obtain ⟨i, hi⟩ := Option.isSome_iff_exists.1 infoIntS
  have e : ∀ x y : Int, (Op.equalIn 9999 3 (.int .i64 x) (.int .i64 y)).run Tryz.prog w = .ok (x == y) w := fun x y => run_equalIn_int w 9998 3 .i64 .i64 x y Tryz.underlying3
  rw [run_equalIn_array w 9999 _ _ Tryz.underlying57 hi, cellsIntS]
  show (Op.eqItems 9999 3 1 _ _ [0, 1, 2]).run Tryz.prog w = _
  have p0 : ∀ x y z : Value, (part 3 #[x, y, z] 0).run Tryz.prog w = .ok x w := fun x y z => partInt #[x, y, z] 0 x rfl w
  have p1 : ∀ x y z : Value, (part 3 #[x, y, z] 1).run Tryz.prog w = .ok y w := fun x y z => partInt #[x, y, z] 1 y rfl w
  have p2 : ∀ x y z : Value, (part 3 #[x, y, z] 2).run Tryz.prog w = .ok z w := fun x y z => partInt #[x, y, z] 2 z rfl w
  by_cases h1 : a1 = b1
  · by_cases h2 : a2 = b2
    · by_cases h3 : a3 = b3
      · simp [Op.eqItems, p0, p1, p2, e, h1, h2, h3]
      · simp [Op.eqItems, p0, p1, p2, e, h1, h2, h3]
    · simp [Op.eqItems, p0, p1, e, h1, h2]
  · simp [Op.eqItems, p0, e, h1]
theorem eqArr (a1 a2 a3 b1 b2 b3 : Int) (w : World) :
    (Op.equalIn 10000 56 (.agg #[.int .i64 a1, .int .i64 a2, .int .i64 a3]) (.agg #[.int .i64 b1, .int .i64 b2, .int .i64 b3])).run Tryz.prog w = .ok (decide (a1 = b1 ∧ a2 = b2 ∧ a3 = b3)) w := by
  obtain ⟨i, hi⟩ := Option.isSome_iff_exists.1 infoIntS
  have e : ∀ x y : Int, (Op.equalIn 9999 3 (.int .i64 x) (.int .i64 y)).run Tryz.prog w = .ok (x == y) w := fun x y => run_equalIn_int w 9998 3 .i64 .i64 x y Tryz.underlying3
  rw [run_equalIn_array w 9999 _ _ Tryz.underlying56 hi, cellsIntS]
  show (Op.eqItems 9999 3 1 _ _ [0, 1, 2]).run Tryz.prog w = _
  have p0 : ∀ x y z : Value, (part 3 #[x, y, z] 0).run Tryz.prog w = .ok x w := fun x y z => partInt #[x, y, z] 0 x rfl w
  have p1 : ∀ x y z : Value, (part 3 #[x, y, z] 1).run Tryz.prog w = .ok y w := fun x y z => partInt #[x, y, z] 1 y rfl w
  have p2 : ∀ x y z : Value, (part 3 #[x, y, z] 2).run Tryz.prog w = .ok z w := fun x y z => partInt #[x, y, z] 2 z rfl w
  by_cases h1 : a1 = b1
  · by_cases h2 : a2 = b2
    · by_cases h3 : a3 = b3
      · simp [Op.eqItems, p0, p1, p2, e, h1, h2, h3]
      · simp [Op.eqItems, p0, p1, p2, e, h1, h2, h3]
    · simp [Op.eqItems, p0, p1, e, h1, h2]
  · simp [Op.eqItems, p0, e, h1]
theorem eqTest (a1 a2 a3 b1 b2 b3 : Int) (w : World) :
    (Op.equalIn 10000 59 (.agg #[.int .i64 a1, .int .i64 a2, .int .i64 a3]) (.agg #[.int .i64 b1, .int .i64 b2, .int .i64 b3])).run Tryz.prog w = .ok (decide (a1 = b1 ∧ a2 = b2 ∧ a3 = b3)) w := by
  have e : ∀ x y : Int, (Op.equalIn 9999 3 (.int .i64 x) (.int .i64 y)).run Tryz.prog w = .ok (x == y) w := fun x y => run_equalIn_int w 9998 3 .i64 .i64 x y Tryz.underlying3
  rw [run_equalIn_struct w 9999 _ _ _ (by kernel_rfl) (by kernel_rfl)]
  simp only [Program.fieldsOf, Tryz.underlying59]
  by_cases h1 : a1 = b1
  · by_cases h2 : a2 = b2
    · by_cases h3 : a3 = b3
      · simp [Op.eqFields, part, isAgg, run_underlying Tryz.underlying3, e, h1, h2, h3]
      · simp [Op.eqFields, part, isAgg, run_underlying Tryz.underlying3, e, h1, h2, h3]
    · simp [Op.eqFields, part, isAgg, run_underlying Tryz.underlying3, e, h1, h2]
  · simp [Op.eqFields, part, isAgg, run_underlying Tryz.underlying3, e, h1]
theorem eqTestR (a1 a2 a3 b1 b2 b3 : Int) (w : World) :
    (Op.equalIn 10000 99 (.agg #[.int .i64 a1, .int .i64 a2, .int .i64 a3]) (.agg #[.int .i64 b1, .int .i64 b2, .int .i64 b3])).run Tryz.prog w = .ok (decide (a1 = b1 ∧ a2 = b2 ∧ a3 = b3)) w := by
  have e : ∀ x y : Int, (Op.equalIn 9999 3 (.int .i64 x) (.int .i64 y)).run Tryz.prog w = .ok (x == y) w := fun x y => run_equalIn_int w 9998 3 .i64 .i64 x y Tryz.underlying3
  rw [run_equalIn_struct w 9999 _ _ _ (by kernel_rfl) (by kernel_rfl)]
  simp only [Program.fieldsOf, Tryz.underlying99]
  by_cases h1 : a1 = b1
  · by_cases h2 : a2 = b2
    · by_cases h3 : a3 = b3
      · simp [Op.eqFields, part, isAgg, run_underlying Tryz.underlying3, e, h1, h2, h3]
      · simp [Op.eqFields, part, isAgg, run_underlying Tryz.underlying3, e, h1, h2, h3]
    · simp [Op.eqFields, part, isAgg, run_underlying Tryz.underlying3, e, h1, h2]
  · simp [Op.eqFields, part, isAgg, run_underlying Tryz.underlying3, e, h1]
end
section
open Go.RowKit
set_option maxRecDepth 100000

theorem isField_any (n : Int) (w : World) :
    Calls Tryz.prog 108 #[.int .i64 n] w fun e w' => e = .returned (.bool (decide (0 ≤ n ∧ n ≤ 2))) ∧ w = w' := by
  by_cases h0 : 0 ≤ n
  · by_cases h2 : n ≤ 2
    · go_enter Tryz.func108, Tryz.ntmps108
      go_wp2
      go_ret
      first | exact ⟨rfl, rfl⟩ | exact ⟨ret_bool (decide_eq_true ⟨h0, h2⟩).symm, rfl⟩
    · have h2' : decide (n ≤ 2) = false := decide_eq_false h2
      go_enter Tryz.func108, Tryz.ntmps108
      go_wp2
      go_ret
      first | exact ⟨rfl, rfl⟩ | exact ⟨ret_bool (decide_eq_false (by omega)).symm, rfl⟩
  · have h0' : decide (0 ≤ n) = false := decide_eq_false h0
    go_enter Tryz.func108, Tryz.ntmps108
    go_wp2
    go_ret
    first | exact ⟨rfl, rfl⟩ | exact ⟨ret_bool (decide_eq_false (by omega)).symm, rfl⟩
theorem tOK_eq (t0 t1 t2 : Int) : tOK (t0, t1, t2) = (decide (0 ≤ t0 ∧ t0 ≤ 2) && (decide (0 ≤ t2 ∧ t2 ≤ 2) && (if t1 = -1 then decide (t2 < t0) else (decide (0 ≤ t1) && decide (t1 < 16))))) := by
  unfold tOK
  rw [Bool.eq_iff_iff]
  by_cases h : t1 = -1
  · rw [if_pos h]
    simp only [Bool.and_eq_true, decide_eq_true_iff]
    exact ⟨fun hh => ⟨hh.1, hh.2.2.1, hh.2.2.2 h⟩, fun hh => ⟨hh.1, by omega, hh.2.1, fun _ => hh.2.2⟩⟩
  · rw [if_neg h]
    simp only [Bool.and_eq_true, decide_eq_true_iff]
    exact ⟨fun hh => ⟨hh.1, hh.2.2.1, by omega, by omega⟩, fun hh => ⟨hh.1, by omega, hh.2.1, fun e => absurd e h⟩⟩
set_option maxHeartbeats 1000000 in
theorem rightTest_any (t0 t1 t2 : Int) (w : World) :
    Calls Tryz.prog 97 #[.agg #[.int .i64 t0, .int .i64 t1, .int .i64 t2]] w fun e w' => e = .returned (.bool (tOK (t0, t1, t2))) ∧ Kept Nil w w' := by
  have C0 := Lib.hid (fun W => isField_any t0 W)
  have C2 := Lib.hid (fun W => isField_any t2 W)
  have HV := Lib.hid (tOK_eq t0 t1 t2)
  generalize tOK (t0, t1, t2) = v at HV ⊢
  generalize decide (0 ≤ t0 ∧ t0 ≤ 2) = b0 at C0 HV
  generalize decide (0 ≤ t2 ∧ t2 ≤ 2) = b2 at C2 HV
  have K0 := Lib.hid ((Kept.refl Nil w).alloc (.cells #[.int .i64 t0, .int .i64 t1, .int .i64 t2] 59))
  cases b0
  · go_enter Tryz.func97, Tryz.ntmps97
    go_wp2_with fail
    refine (C0.out _).mono ?_
    rintro e w2 ⟨rfl, rfl⟩
    go_wp2_with fail
    go_ret
    exact ⟨ret_bool (by rw [HV.out]; rfl), K0.out⟩
  · cases b2
    · go_enter Tryz.func97, Tryz.ntmps97
      go_wp2_with fail
      refine (C0.out _).mono ?_
      rintro e w2 ⟨rfl, rfl⟩
      go_wp2_with fail
      refine (C2.out _).mono ?_
      rintro e w2 ⟨rfl, rfl⟩
      go_wp2_with fail
      go_ret
      exact ⟨ret_bool (by rw [HV.out]; rfl), K0.out⟩
    · by_cases h1 : t1 = -1
      · have HV2 : Hid (v = decide (t2 < t0)) := Lib.hid (by rw [HV.out, if_pos h1]; rfl)
        subst h1
        clear HV
        go_enter Tryz.func97, Tryz.ntmps97
        go_wp2_with fail
        refine (C0.out _).mono ?_
        rintro e w2 ⟨rfl, rfl⟩
        go_wp2_with fail
        refine (C2.out _).mono ?_
        rintro e w2 ⟨rfl, rfl⟩
        go_wp2_with fail
        go_ret
        exact ⟨ret_bool (by rw [HV2.out]), K0.out⟩
      · have h1' : (t1 == -1) = false := by simpa using h1
        by_cases h0 : 0 ≤ t1
        · have HV2 : Hid (v = decide (t1 < 16)) := Lib.hid (by rw [HV.out, if_neg h1, decide_eq_true h0]; rfl)
          clear HV
          go_enter Tryz.func97, Tryz.ntmps97
          go_wp2_with fail
          refine (C0.out _).mono ?_
          rintro e w2 ⟨rfl, rfl⟩
          go_wp2_with fail
          refine (C2.out _).mono ?_
          rintro e w2 ⟨rfl, rfl⟩
          go_wp2_with fail
          go_ret
          exact ⟨ret_bool (by rw [HV2.out]), K0.out⟩
        · have h0' : decide (0 ≤ t1) = false := decide_eq_false h0
          have HV2 : Hid (v = false) := Lib.hid (by rw [HV.out, if_neg h1, h0']; rfl)
          clear HV
          go_enter Tryz.func97, Tryz.ntmps97
          go_wp2_with fail
          refine (C0.out _).mono ?_
          rintro e w2 ⟨rfl, rfl⟩
          go_wp2_with fail
          refine (C2.out _).mono ?_
          rintro e w2 ⟨rfl, rfl⟩
          go_wp2_with fail
          go_ret
          exact ⟨ret_bool (by rw [HV2.out]), K0.out⟩
set_option maxHeartbeats 2000000 in
theorem rightTests_any (ts : List Tst) (hl : ts.length ≤ 5000) (ok : Nat → Nat → Prop) (a : Option Addr) (cap : Nat) (w : World) (h : TsAt w ok (.slice a ts.length cap) ts) :
    Calls Tryz.prog 90 #[.slice a ts.length cap] w fun e w' => e = .returned (.bool (tsOK (-1) ts)) ∧ Kept Nil w w' := by
  obtain ⟨len, hlen⟩ : ∃ n, ts.length = n := ⟨_, rfl⟩
  have HH := Lib.hid h
  rw [hlen] at HH hl ⊢
  have HL := Lib.hid hlen
  clear h hlen
  go_enter Tryz.func90, Tryz.ntmps90
  go_wp2_with fail
  go_loopw [3, 8] (fun f i wr => ∃ j : Nat, j ≤ len ∧ i = .int .i64 j ∧ f = .int .i64 (lastF ts j) ∧ tsOK (-1) ts = tsOK (lastF ts j) (ts.drop j) ∧ Kept Nil w wr) (fun _ i _ => len - (intOf i).toNat)
  case atStart => exact ⟨0, by omega, rfl, rfl, rfl, Kept.refl _ _⟩
  case round =>
    obtain ⟨j, hj, rfl, rfl, hch, hK⟩ := hrel
    have HK := Lib.hid hK
    have HCh := Lib.hid hch
    clear hK hch
    by_cases hlt : j < len
    · obtain ⟨⟨t0, t1, t2⟩, hx⟩ : ∃ x, ts[j]? = some x := ⟨_, List.getElem?_eq_getElem (by have := HL.out; omega)⟩
      obtain ⟨b, o, rfl, hok, hr⟩ := (HH.out.keptN HK.out).at_ hx
      have HR := Lib.hid hr
      have HN := Lib.hid (tsOK_drop hx)
      have HF : Hid (lastF ts (j + 1) = t0) := Lib.hid (lastF_succ hx)
      rw [HF.out] at HN
      have CT := Lib.hid (fun W => rightTest_any t0 t1 t2 W)
      generalize hlf : lastF ts j = f0 at *
      generalize tOK (t0, t1, t2) = q at CT HN
      clear hx hr hok hlf
      have KA := Lib.hid (HK.out.alloc (.cells #[.int .i64 t0, .int .i64 t1, .int .i64 t2] 59))
      have BA := Lib.hid (Blk.new wr 59 #[.int .i64 t0, .int .i64 t1, .int .i64 t2])
      by_cases hle : t0 ≤ f0
      · have HE : Hid (tsOK (-1) ts = false) := Lib.hid (by rw [HCh.out, HN.out, decide_eq_false (by omega : ¬ f0 < t0)]; rfl)
        go_wp2_with ((with_reducible refine wpList_load_T rfl (.tmp 10) rfl _ _ rfl t0 t1 t2 ?_ ?_)
                     · exact HR.out)
        go_ret
        exact ⟨ret_bool HE.out.symm, KA.out⟩
      · have hle' : decide (t0 ≤ f0) = false := decide_eq_false hle
        have HN2 : Hid (tsOK f0 (ts.drop j) = (q && tsOK t0 (ts.drop (j + 1)))) := Lib.hid (by rw [HN.out, decide_eq_true (by omega : f0 < t0)]; rfl)
        clear HN
        go_wp2_with (first
          | ((with_reducible refine wpList_load_T rfl (.tmp 10) rfl _ _ rfl t0 t1 t2 ?_ ?_)
             · exact HR.out))
        refine (CT.out _).mono ?_
        rintro e w2 ⟨rfl, k2⟩
        have K2 := Lib.hid (KA.out.trans k2 (fun _ _ g => g))
        have B2 := Lib.hid (BA.out.kept k2 id)
        have z0 := B2.out.cell 0
        simp at z0
        clear k2
        cases q
        · go_wp2_with fail
          go_ret
          exact ⟨ret_bool (by rw [HCh.out, HN2.out]; rfl), K2.out⟩
        · go_wp2_with fail
          go_roundw
          case rel => exact ⟨j + 1, by omega, by go_num, by rw [HF.out], by rw [HCh.out, HN2.out, HF.out]; rfl, K2.out⟩
          case measure => simp [intOf]; omega
    · obtain rfl : j = len := by omega
      have HE : Hid (tsOK (lastF ts j) (ts.drop j) = true) := Lib.hid (by rw [List.drop_eq_nil_of_le (by have := HL.out; omega)]; rfl)
      go_wp2_with fail
      go_ret
      exact ⟨ret_bool (by rw [HCh.out, HE.out]), HK.out⟩
end
section
open Go.RowKit
set_option maxRecDepth 100000

/-- An index; whether there is one. -/
def IdxEnd (b : Bool) (w : World) (e : Ending) (w' : World) : Prop := ∃ r : Int, e = .returned (.int .i64 r) ∧ decide (0 ≤ r) = b ∧ Kept Nil w w'
abbrev PAt (hd : SH) (sb : List St) : Prop := ∀ ok ta tc a cap (d : Int) w, TsAt w ok (.slice ta hd.ts.length tc) hd.ts → SHolds w ok (.slice a sb.length cap) sb → 0 ≤ d → d ≤ 4 →
  Calls Tryz.prog 75 #[vS hd (.slice ta hd.ts.length tc) (.slice a sb.length cap), .int .i64 d] w fun e w' => e = .returned (.bool ((St.mk hd sb).pAt d)) ∧ Kept Nil w w'
abbrev PAtIH (subs : List St) : Prop := ∀ hd sb, St.mk hd sb ∈ subs → PAt hd sb
set_option maxHeartbeats 1000000 in
theorem rightClo_any (k k0 k1 k2 : Int) (ts : List Tst) (sb : List St) (IH : Hid (PAt ⟨k, k0, k1, k2, ts⟩ sb)) (D : Nat) (d : Int) (hd0 : 0 ≤ d) (hd1 : d ≤ 4) (ok : Nat → Nat → Prop) (ta : Option Addr) (tc : Nat) (a : Option Addr) (cap : Nat) (w : World) (HB : Hid (Blk w D 3 #[.int .i64 d])) (HT : Hid (TsAt w ok (.slice ta ts.length tc) ts)) (HS : Hid (SHolds w ok (.slice a sb.length cap) sb)) :
    Calls Tryz.prog 96 #[vS ⟨k, k0, k1, k2, ts⟩ (.slice ta ts.length tc) (.slice a sb.length cap), .pointer (some ⟨D, 0, none⟩)] w fun e w' => e = .returned (.bool (!(St.mk ⟨k, k0, k1, k2, ts⟩ sb).pAt d)) ∧ Kept Nil w w' := by
  have CX : Hid (∀ W, Kept Nil w W → Calls Tryz.prog 75 #[vS ⟨k, k0, k1, k2, ts⟩ (.slice ta ts.length tc) (.slice a sb.length cap), .int .i64 d] W fun e w' => e = .returned (.bool ((St.mk ⟨k, k0, k1, k2, ts⟩ sb).pAt d)) ∧ Kept Nil W w') := Lib.hid fun W kW => IH.out ok ta tc a cap d W (HT.out.keptN kW) (HS.out.keptN kW) hd0 hd1
  generalize (St.mk ⟨k, k0, k1, k2, ts⟩ sb).pAt d = v at CX ⊢
  generalize ts.length = tn at CX ⊢
  generalize sb.length = sn at CX ⊢
  have K0 := Lib.hid ((Kept.refl Nil w).alloc (.cells (arrS ⟨k, k0, k1, k2, ts⟩ (.slice ta tn tc) (.slice a sn cap)) 65))
  have z0 := HB.out.cell 0
  have hD : D < w.heap.size := HB.out.lt
  simp at z0
  go_enter Tryz.func96, Tryz.ntmps96
  go_wp2_with fail
  refine (CX.out _ K0.out).mono ?_
  rintro e w2 ⟨rfl, k2⟩
  go_wp2_with fail
  go_ret
  exact ⟨rfl, K0.out.trans k2 (fun _ _ g => g)⟩
set_option maxHeartbeats 2000000 in
theorem rightIdxF_any (subs : List St) (IH : Hid (PAtIH subs)) (hl : subs.length ≤ 5000) (D : Nat) (d : Int) (hd0 : 0 ≤ d) (hd1 : d ≤ 4) (ok : Nat → Nat → Prop) (a : Option Addr) (cap : Nat) (w : World) (HB : Hid (Blk w D 3 #[.int .i64 d])) (h : SHolds w ok (.slice a subs.length cap) subs) :
    Calls Tryz.prog 77 #[.slice a subs.length cap, .func (.func 96) #[] #[.pointer (some ⟨D, 0, none⟩)]] w (IdxEnd (!pLAt subs d) w) := by
  obtain ⟨len, hlen⟩ : ∃ n, subs.length = n := ⟨_, rfl⟩
  have HH := Lib.hid h
  rw [hlen] at HH hl ⊢
  have HL := Lib.hid hlen
  clear h hlen
  go_enter Tryz.func77, Tryz.ntmps77
  go_wp2_with fail
  go_loopw [5, 8] (fun _ i wr => ∃ j : Nat, j ≤ len ∧ i = .int .i64 j ∧ pLAt subs d = pLAt (subs.drop j) d ∧ Kept Nil w wr) (fun _ i _ => len - (intOf i).toNat)
  case atStart => exact ⟨0, by omega, rfl, rfl, Kept.refl _ _⟩
  case round =>
    obtain ⟨j, hj, rfl, hch, hK⟩ := hrel
    have HK := Lib.hid hK
    have HCh := Lib.hid hch
    clear hK hch
    by_cases hlt : j < len
    · obtain ⟨⟨⟨k', k0', k1', k2', ts'⟩, sb⟩, hx⟩ : ∃ x, subs[j]? = some x := ⟨_, List.getElem?_eq_getElem (by have := HL.out; omega)⟩
      obtain ⟨b, o, ta', tc', a', cap', rfl, hok, hr, ht, hs⟩ := (HH.out.keptN HK.out).at_ hx
      have CX := Lib.hid (rightClo_any k' k0' k1' k2' ts' sb (Lib.hid (IH.out _ _ (List.mem_of_getElem? hx))) D d hd0 hd1 ok ta' tc' a' cap' wr (Lib.hid (HB.out.kept HK.out id)) (Lib.hid ht) (Lib.hid hs))
      have HR : Hid (wr.rangeAt b (o + j * 6) (cS ⟨k', k0', k1', k2', ts'⟩ (.slice ta' ts'.length tc') (.slice a' sb.length cap'))) := Lib.hid hr
      have HN := Lib.hid (pLAt_drop (d := d) hx)
      generalize (St.mk ⟨k', k0', k1', k2', ts'⟩ sb).pAt d = q at CX HN
      generalize ts'.length = tn' at CX HR
      generalize sb.length = len' at CX HR
      clear hx hr ht hs hok
      go_wp2_with ((with_reducible refine wpList_load_S rfl (.tmp 14) rfl _ _ rfl ⟨k', k0', k1', k2', ts'⟩ (.slice ta' tn' tc') (.slice a' len' cap') ?_ ?_)
                   · exact HR.out)
      refine CX.out.mono ?_
      rintro e w2 ⟨rfl, k2⟩
      have K2 := Lib.hid (HK.out.trans k2 (fun _ _ g => g))
      clear k2
      cases q
      · go_wp2_with fail
        go_ret
        exact ⟨(j : Int), rfl, by rw [HCh.out, HN.out]; exact decide_eq_true (by omega), K2.out⟩
      · go_wp2_with fail
        go_roundw
        case rel => exact ⟨j + 1, by omega, by go_num, by rw [HCh.out, HN.out]; rfl, K2.out⟩
        case measure => simp [intOf]; omega
    · obtain rfl : j = len := by omega
      have HE : Hid (pLAt (subs.drop j) d = true) := Lib.hid (by rw [List.drop_eq_nil_of_le (by have := HL.out; omega)]; rfl)
      go_wp2_with fail
      go_ret
      exact ⟨-1, rfl, by rw [HCh.out, HE.out]; rfl, HK.out⟩
theorem rightCont_any (subs : List St) (IH : Hid (PAtIH subs)) (hl : subs.length ≤ 5000) (D : Nat) (d : Int) (hd0 : 0 ≤ d) (hd1 : d ≤ 4) (ok : Nat → Nat → Prop) (a : Option Addr) (cap : Nat) (w : World) (HB : Hid (Blk w D 3 #[.int .i64 d])) (h : SHolds w ok (.slice a subs.length cap) subs) :
    Calls Tryz.prog 67 #[.slice a subs.length cap, .func (.func 96) #[] #[.pointer (some ⟨D, 0, none⟩)]] w fun e w' => e = .returned (.bool (!pLAt subs d)) ∧ Kept Nil w w' := by
  have C := Lib.hid (rightIdxF_any subs IH hl D d hd0 hd1 ok a cap w HB h)
  unfold IdxEnd at C
  generalize pLAt subs d = v at C ⊢
  clear h
  generalize subs.length = len at C ⊢
  go_enter Tryz.func67, Tryz.ntmps67
  go_wp2_with fail
  refine C.out.mono ?_
  rintro e w2 ⟨r, rfl, hr, k2⟩
  go_wp2_with fail
  go_ret
  exact ⟨ret_bool (by first | rfl | exact hr), k2⟩
set_option maxHeartbeats 1000000 in
theorem rightSubs_any (subs : List St) (IH : Hid (PAtIH subs)) (hl : subs.length ≤ 5000) (d : Int) (hd0 : 0 ≤ d) (hd1 : d ≤ 4) (ok : Nat → Nat → Prop) (a : Option Addr) (cap : Nat) (w : World) (h : SHolds w ok (.slice a subs.length cap) subs) :
    Calls Tryz.prog 88 #[.slice a subs.length cap, .int .i64 d] w fun e w' => e = .returned (.bool (decide (subs.length ≠ 0 ∧ subs.length < 16) && pLAt subs d)) ∧ Kept Nil w w' := by
  have K0 := Lib.hid ((Kept.refl Nil w).alloc (.cells #[.int .i64 d] 3))
  have B0 := Lib.hid (Blk.new w 3 #[.int .i64 d])
  have C := Lib.hid (rightCont_any subs IH hl w.heap.size d hd0 hd1 ok a cap _ B0 (h.keptN K0.out))
  clear h
  generalize pLAt subs d = v at C ⊢
  generalize subs.length = len at C hl ⊢
  by_cases h0 : len = 0
  · subst h0
    go_enter Tryz.func88, Tryz.ntmps88
    go_wp2_with fail
    go_ret
    exact ⟨rfl, K0.out⟩
  · have h0' : ((len : Int) == 0) = false := by rw [beq_eq_false_iff_ne]; omega
    by_cases h16 : 16 ≤ len
    · have h16' : decide (16 ≤ len) = true := decide_eq_true h16
      go_enter Tryz.func88, Tryz.ntmps88
      go_wp2_with fail
      go_ret
      exact ⟨ret_bool (by rw [decide_eq_false (by omega)]; rfl), K0.out⟩
    · have h16' : decide (16 ≤ len) = false := decide_eq_false h16
      have HV : Hid (decide (len ≠ 0 ∧ len < 16) = true) := Lib.hid (decide_eq_true (by omega))
      go_enter Tryz.func88, Tryz.ntmps88
      go_wp2_with fail
      refine C.out.mono ?_
      rintro e w2 ⟨rfl, k2⟩
      go_wp2_with fail
      go_ret
      exact ⟨ret_bool (by rw [HV.out]; cases v <;> rfl), K0.out.trans k2 (fun _ _ g => g)⟩
set_option maxHeartbeats 2000000 in
theorem rightAt_step (k k0 k1 k2 : Int) (ts : List Tst) (subs : List St) (IH : Hid (PAtIH subs)) (hl : subs.length ≤ 5000) (htl : ts.length ≤ 5000) (ok : Nat → Nat → Prop) (ta : Option Addr) (tc : Nat) (a : Option Addr) (cap : Nat) (d : Int) (w : World) (ht : TsAt w ok (.slice ta ts.length tc) ts) (h : SHolds w ok (.slice a subs.length cap) subs) (hd0 : 0 ≤ d) (hd1 : d ≤ 4) :
    Calls Tryz.prog 75 #[vS ⟨k, k0, k1, k2, ts⟩ (.slice ta ts.length tc) (.slice a subs.length cap), .int .i64 d] w fun e w' => e = .returned (.bool ((St.mk ⟨k, k0, k1, k2, ts⟩ subs).pAt d)) ∧ Kept Nil w w' := by
  have HV : Hid ((St.mk ⟨k, k0, k1, k2, ts⟩ subs).pAt d = if 3 < d then false else if k = 3 then z3 k0 k1 k2 && (decide (ts.length = 0) && (decide (subs.length ≠ 0 ∧ subs.length < 16) && pLAt subs (d + 1))) else if k = 1 ∨ k = 2 then okK3 k0 k1 k2 && (decide (subs.length = 0) && tsOK (-1) ts) else false) := Lib.hid (by rw [St.pAt])
  have CS : Hid (d ≤ 3 → ∀ W, Kept Nil w W → Calls Tryz.prog 88 #[.slice a subs.length cap, .int .i64 (d + 1)] W fun e w' => e = .returned (.bool (decide (subs.length ≠ 0 ∧ subs.length < 16) && pLAt subs (d + 1))) ∧ Kept Nil W w') := Lib.hid fun h3 W kW => rightSubs_any subs IH hl (d + 1) (by omega) (by omega) ok a cap W (h.keptN kW)
  have CT : Hid (∀ W, Kept Nil w W → Calls Tryz.prog 90 #[.slice ta ts.length tc] W fun e w' => e = .returned (.bool (tsOK (-1) ts)) ∧ Kept Nil W w') := Lib.hid fun W kW => rightTests_any ts htl ok ta tc W (ht.keptN kW)
  have CK := Lib.hid (fun W => keyRight_any k0 k1 k2 W)
  have hq : ∀ W, (Op.equalIn 10000 57 (.agg #[.int .i64 k0, .int .i64 k1, .int .i64 k2]) (.agg #[.int .i64 0, .int .i64 0, .int .i64 0])).run Tryz.prog W = .ok (z3 k0 k1 k2) W := fun W => eqKey k0 k1 k2 0 0 0 W
  generalize z3 k0 k1 k2 = z at HV hq
  generalize okK3 k0 k1 k2 = q at HV CK
  generalize (decide (subs.length ≠ 0 ∧ subs.length < 16) && pLAt subs (d + 1)) = v3 at HV CS
  generalize tsOK (-1) ts = v4 at HV CT
  generalize (St.mk ⟨k, k0, k1, k2, ts⟩ subs).pAt d = v at HV ⊢
  generalize ts.length = tn at *
  generalize subs.length = len at *
  clear ht h IH
  have K0 := Lib.hid ((Kept.refl Nil w).alloc (.cells (arrS ⟨k, k0, k1, k2, ts⟩ (.slice ta tn tc) (.slice a len cap)) 65))
  have B0 := Lib.hid (Blk.new w 65 (arrS ⟨k, k0, k1, k2, ts⟩ (.slice ta tn tc) (.slice a len cap)))
  by_cases h3 : 3 < d
  · have HE : Hid (v = false) := Lib.hid (by rw [HV.out, if_pos h3])
    go_enter Tryz.func75, Tryz.ntmps75
    go_wp2_with fail
    go_ret
    exact ⟨ret_bool HE.out.symm, K0.out⟩
  · have h3' : decide (3 < d) = false := decide_eq_false h3
    have CS2 := Lib.hid (CS.out (by omega))
    clear CS
    by_cases hk3 : k = 3
    · have HE : Hid (v = (z && (decide (tn = 0) && v3))) := Lib.hid (by rw [HV.out, if_neg h3, if_pos hk3])
      subst hk3
      clear HV
      cases z
      · go_enter Tryz.func75, Tryz.ntmps75
        go_wp2_with fail
        go_ret
        exact ⟨ret_bool (by rw [HE.out]; rfl), K0.out⟩
      · by_cases ht0 : tn = 0
        · subst ht0
          go_enter Tryz.func75, Tryz.ntmps75
          go_wp2_with fail
          refine (CS2.out _ K0.out).mono ?_
          rintro e w2 ⟨rfl, k2⟩
          go_wp2_with fail
          go_ret
          exact ⟨ret_bool (by rw [HE.out]; rfl), K0.out.trans k2 (fun _ _ g => g)⟩
        · have ht0' : ((tn : Int) == 0) = false := by rw [beq_eq_false_iff_ne]; omega
          have HE2 : Hid (v = false) := Lib.hid (by rw [HE.out, decide_eq_false ht0]; rfl)
          go_enter Tryz.func75, Tryz.ntmps75
          go_wp2_with fail
          go_ret
          exact ⟨ret_bool HE2.out.symm, K0.out⟩
    · have hk3' : (k == 3) = false := by simpa using hk3
      by_cases hk12 : k = 1 ∨ k = 2
      · have HE : Hid (v = (q && (decide (len = 0) && v4))) := Lib.hid (by rw [HV.out, if_neg h3, if_neg hk3, if_pos hk12])
        clear HV hk3 hk3'
        rcases hk12 with rfl | rfl
        all_goals
          go_enter Tryz.func75, Tryz.ntmps75
          go_wp2_with fail
          refine (CK.out _).mono ?_
          rintro e w2 ⟨rfl, k2⟩
          have K2 := Lib.hid (K0.out.trans k2 (fun _ _ g => g))
          have B2 := Lib.hid (B0.out.kept k2 id)
          have z4 := B2.out.cell 4
          have z5 := B2.out.cell 5
          simp at z4 z5
          clear k2
          cases q
          · go_wp2_with fail
            go_ret
            exact ⟨ret_bool (by rw [HE.out]; rfl), K2.out⟩
          · by_cases hl0 : len = 0
            · subst hl0
              go_wp2_with fail
              refine (CT.out _ K2.out).mono ?_
              rintro e w3 ⟨rfl, k3⟩
              go_wp2_with fail
              go_ret
              exact ⟨ret_bool (by rw [HE.out]; rfl), K2.out.trans k3 (fun _ _ g => g)⟩
            · have hl0' : ((len : Int) == 0) = false := by rw [beq_eq_false_iff_ne]; omega
              have HE2 : Hid (v = false) := Lib.hid (by rw [HE.out, decide_eq_false hl0]; rfl)
              go_wp2_with fail
              go_ret
              exact ⟨ret_bool HE2.out.symm, K2.out⟩
      · have hk1' : (k == 1) = false := by rw [beq_eq_false_iff_ne]; omega
        have hk2' : (k == 2) = false := by rw [beq_eq_false_iff_ne]; omega
        have HE : Hid (v = false) := Lib.hid (by rw [HV.out, if_neg h3, if_neg hk3, if_neg hk12])
        go_enter Tryz.func75, Tryz.ntmps75
        go_wp2_with fail
        go_ret
        exact ⟨ret_bool HE.out.symm, K0.out⟩
theorem rightAt_any : ∀ s : St, s.mass ≤ 5000 → PAt s.hd s.subs := by
  refine St.ind fun hd subs ih hc ok ta tc a cap d w ht h hd0 hd1 => ?_
  have hc' : 1 + hd.ts.length + massL subs ≤ 5000 := by simpa [St.mass] using hc
  have hl := length_massL subs
  exact rightAt_step hd.k hd.k0 hd.k1 hd.k2 hd.ts subs (Lib.hid fun hd' sb hx => ih _ hx (by have := mass_mem hx; omega)) (by omega) (by omega) ok ta tc a cap d w ht h hd0 hd1
set_option maxHeartbeats 1000000 in
theorem stRight_any (s : St) (hc : s.mass ≤ 5000) (ok : Nat → Nat → Prop) (ta : Option Addr) (tc : Nat) (a : Option Addr) (cap : Nat) (w : World) (ht : TsAt w ok (.slice ta s.hd.ts.length tc) s.hd.ts) (h : SHolds w ok (.slice a s.subs.length cap) s.subs) :
    Calls Tryz.prog 66 #[vS s.hd (.slice ta s.hd.ts.length tc) (.slice a s.subs.length cap)] w fun e w' => e = .returned (.bool s.right) ∧ Kept Nil w w' := by
  have C : Hid (∀ W, Kept Nil w W → Calls Tryz.prog 75 #[vS s.hd (.slice ta s.hd.ts.length tc) (.slice a s.subs.length cap), .int .i64 1] W fun e w' => e = .returned (.bool (s.pAt 1)) ∧ Kept Nil W w') := Lib.hid fun W kW => by
    have := rightAt_any s hc ok ta tc a cap 1 W (ht.keptN kW) (h.keptN kW) (by omega) (by omega)
    rw [St.eta] at this
    exact this
  have Z : Hid (∀ W, Kept Nil w W → Calls Tryz.prog 76 #[vS s.hd (.slice ta s.hd.ts.length tc) (.slice a s.subs.length cap)] W fun e w' => e = .returned (.int .i64 (s.cnt : Int)) ∧ Kept Nil W w') := Lib.hid fun W kW => stSize_any s (Nat.le_trans (cnt_le_mass.1 s) hc) ok ta _ tc a cap W (h.keptN kW)
  unfold St.right
  generalize s.pAt 1 = v at C ⊢
  generalize s.cnt = c at Z ⊢
  clear h ht hc
  generalize s.subs.length = len at C Z ⊢
  generalize hhd : s.hd = hd at *
  clear hhd
  obtain ⟨k, k0, k1, k2, ts⟩ := hd
  replace C : Hid (∀ W, Kept Nil w W → Calls Tryz.prog 75 #[vS ⟨k, k0, k1, k2, ts⟩ (.slice ta ts.length tc) (.slice a len cap), .int .i64 1] W fun e w' => e = .returned (.bool v) ∧ Kept Nil W w') := C
  replace Z : Hid (∀ W, Kept Nil w W → Calls Tryz.prog 76 #[vS ⟨k, k0, k1, k2, ts⟩ (.slice ta ts.length tc) (.slice a len cap)] W fun e w' => e = .returned (.int .i64 (c : Int)) ∧ Kept Nil W w') := Z
  show Calls Tryz.prog 66 #[vS ⟨k, k0, k1, k2, ts⟩ (.slice ta ts.length tc) (.slice a len cap)] w _
  generalize ts.length = tn at C Z ⊢
  have K0 := Lib.hid ((Kept.refl Nil w).alloc (.cells (arrS ⟨k, k0, k1, k2, ts⟩ (.slice ta tn tc) (.slice a len cap)) 65))
  have B0 := Lib.hid (Blk.new w 65 (arrS ⟨k, k0, k1, k2, ts⟩ (.slice ta tn tc) (.slice a len cap)))
  go_enter Tryz.func66, Tryz.ntmps66
  go_wp2_with fail
  refine (C.out _ K0.out).mono ?_
  rintro e w2 ⟨rfl, k2⟩
  have K2 := Lib.hid (K0.out.trans k2 (fun _ _ g => g))
  have B2 := Lib.hid (B0.out.kept k2 id)
  clear k2
  cases v
  · go_wp2_with fail
    go_ret
    exact ⟨rfl, K2.out⟩
  · go_wp2_with (first
      | ((with_reducible refine wpList_load_SG rfl (.tmp 1) rfl _ _ rfl ⟨k, k0, k1, k2, ts⟩ (.slice ta tn tc) (.slice a len cap) ?_ ?_)
         · exact World.rangeAt_of_block B2.out 0 6))
    refine (Z.out _ K2.out).mono ?_
    rintro e w3 ⟨rfl, k3⟩
    go_wp2_with fail
    go_ret
    exact ⟨ret_bool (by first | rfl | (rw [Bool.eq_iff_iff, decide_eq_true_iff]; simp; omega)), K2.out.trans k3 (fun _ _ g => g)⟩
end
end
end Go.Proofs.YtljefbfjehblpaaGreat
