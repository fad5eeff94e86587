/- Layer comp: the contracts of size, of the program and of the reference. – Layer comp: what it needs of keys: Right, of the program and of the reference; == of keys and of tests; Of. – Layer comp: the program's isField, rightTest, rightTests; slices.Equal of tests. – Layer comp: the program's rightAt, rightSubs, Right. – Layer comp: what a call builds, round by round; steps stored whole. – Layer comp: the law's own Ref of a step, and Refs: the reference's steps, in new memory. – Layer comp: the law's own Refs: the reference's steps, in new memory. – Layer comp: the law's own Steps: the program's steps of the reference's, in new memory. -/
import Derived.Test.YtmpoeibkndcnnaaA3
import Derived.Test.YtmpoeibkndcnnaaA1
import Derived.ChangeKeysEq
import Derived.Laws.StructEq
import Derived.Deep.RegionHeld3
import Derived.Deep.RegionLaw
import Derived.Deep.AppendLies
import Derived.Deep.DeepCutAuto
import Derived.OwnWalk
namespace Go.Proofs.Ytmpoeibkndcnnaa
section
section
open Go.RowKit
set_option maxRecDepth 100000

set_option maxHeartbeats 1000000 in
theorem stSize_step (k k0 k1 k2 : Int) (ts : List Tst) (ta : Option Addr) (tn tc : Nat) (subs : List St) (len : Nat) (HL : Hid (subs.length = len)) (HC : Hid (cntL subs ≤ 5000))
    (IH : Hid (∀ hd sb, St.mk hd sb ∈ subs → ∀ ok ta tn tc a cap w, SHolds w ok (.slice a sb.length cap) sb → Calls Try.prog 72 #[vS hd (.slice ta tn tc) (.slice a sb.length cap)] w fun e w' => e = .returned (.int .i64 ((St.mk hd sb).cnt : Int)) ∧ Kept Nil w w'))
    (ok : Nat → Nat → Prop) (a : Option Addr) (cap : Nat) (w : World) (HH : Hid (SHolds w ok (.slice a len cap) subs)) :
    Calls Try.prog 72 #[vS ⟨k, k0, k1, k2, ts⟩ (.slice ta tn tc) (.slice a len cap)] w fun e w' => e = .returned (.int .i64 ((1 + cntL subs : Nat) : Int)) ∧ Kept Nil w w' := by
  have hLen : len ≤ 5000 := by have := length_cntL subs; have := HL.out; have := HC.out; omega
  have K0 := Lib.hid ((Kept.refl Nil w).alloc (.cells #[.int .i64 k, .int .i64 k0, .int .i64 k1, .int .i64 k2, .slice ta tn tc, .slice a len cap] 59))
  go_enter Try.func72, Try.ntmps72
  go_wp2_with fail
  go_loopw [3, 9] (fun n i wr => ∃ j : Nat, j ≤ len ∧ i = .int .i64 j ∧ n = .int .i64 ((1 + cntL (subs.take j) : Nat) : Int) ∧ Kept Nil w wr) (fun _ i _ => len - (intOf i).toNat)
  case atStart => exact ⟨0, by omega, rfl, by simp [cntL], K0.out⟩
  case round =>
    obtain ⟨j, hj, rfl, rfl, hK⟩ := hrel
    have HK := Lib.hid hK
    clear hK K0
    by_cases hlt : j < len
    · obtain ⟨⟨⟨k', k0', k1', k2', ts'⟩, sb⟩, hx⟩ : ∃ x, subs[j]? = some x := ⟨_, List.getElem?_eq_getElem (by have := HL.out; omega)⟩
      obtain ⟨b, o, ta', tc', a', cap', rfl, hok, hr, ht, hs⟩ := (HH.out.keptN HK.out).at_ hx
      have HX := Lib.hid (IH.out _ _ (List.mem_of_getElem? hx))
      have HR := Lib.hid hr
      have HS := Lib.hid hs
      have HN := Lib.hid (cntL_take_succ hx)
      have HB := Lib.hid (cntL_take_le subs (j + 1))
      clear hx hr ht hs hok
      generalize hcn : cntL (subs.take j) = cn at HN
      have HCN := Lib.hid hcn
      clear hcn
      have HC' : (St.mk ⟨k', k0', k1', k2', ts'⟩ sb).cnt + cn ≤ 5000 := by have := HN.out; have := HB.out; have := HC.out; omega
      generalize (St.mk ⟨k', k0', k1', k2', ts'⟩ sb).cnt = cx at HX HN HC'
      generalize sb.length = len' at HR HS HX
      generalize ts'.length = tn' at HR
      go_wp2_with ((with_reducible refine wpList_load_S rfl (.tmp 11) rfl _ _ rfl ⟨k', k0', k1', k2', ts'⟩ (.slice ta' tn' tc') (.slice a' len' cap') ?_ ?_)
                   · exact HR.out)
      refine (HX.out _ _ _ _ _ _ _ (HS.out.keptN ((Kept.refl Nil _).alloc _))).mono ?_
      rintro e w2 ⟨rfl, k2⟩
      go_wp2_with fail
      go_roundw
      case rel => exact ⟨j + 1, by omega, by go_num, by rw [HN.out]; go_num, (HK.out.alloc _).trans k2 (fun _ _ g => g)⟩
      case measure => simp [intOf]; omega
    · obtain rfl : j = len := by omega
      have HE : Hid (subs.take j = subs) := Lib.hid (by rw [← HL.out]; simp)
      go_wp2_with fail
      go_ret
      exact ⟨by rw [HE.out]; rfl, HK.out⟩
theorem stSize_any : ∀ s : St, s.cnt ≤ 5000 → ∀ ok ta tn tc a cap w, SHolds w ok (.slice a s.subs.length cap) s.subs →
    Calls Try.prog 72 #[vS s.hd (.slice ta tn tc) (.slice a s.subs.length cap)] w fun e w' => e = .returned (.int .i64 (s.cnt : Int)) ∧ Kept Nil w w' := by
  refine St.ind fun hd subs ih hc ok ta tn tc a cap w h => ?_
  have hc' : 1 + cntL subs ≤ 5000 := by simpa [St.cnt] using hc
  have := stSize_step hd.k hd.k0 hd.k1 hd.k2 hd.ts ta tn tc subs _ rfl (show _ ≤ _ by omega) (fun hd' sb hx => ih _ hx (by have := cnt_mem hx; omega)) ok a cap w h
  rw [show (St.mk hd subs).cnt = 1 + cntL subs by simp [St.cnt]]
  exact this
end
section
open Go.RowKit
set_option maxRecDepth 100000

theorem okK_iff {n : Int} : okK n = true ↔ 0 ≤ n ∧ n ≤ 4096 := by unfold okK; exact decide_eq_true_iff
theorem okK_no {n : Int} (h : okK n = false) : n < 0 ∨ 4096 < n := by unfold okK at h; have := of_decide_eq_false h; omega
theorem okK3_bad1 {a b c : Int} (h : okK a = false) : okK3 a b c = false := by unfold okK3; rw [h]; rfl
theorem okK3_bad2 {a b c : Int} (h : okK b = false) : okK3 a b c = false := by unfold okK3; rw [h]; simp
theorem okK3_bad3 {a b c : Int} (h : okK c = false) : okK3 a b c = false := by unfold okK3; rw [h]; simp
theorem okK3_good {a b c : Int} (h1 : okK a = true) (h2 : okK b = true) (h3 : okK c = true) : okK3 a b c = true := by unfold okK3; rw [h1, h2, h3]; rfl
theorem rightIdx (x0 x1 x2 : Value) : (∀ w, (Instr.index 56 (.agg #[x0, x1, x2]) (.int .i64 0)).run Try.prog w = .ok x0 w) ∧ (∀ w, (Instr.index 56 (.agg #[x0, x1, x2]) (.int .i64 1)).run Try.prog w = .ok x1 w) ∧ (∀ w, (Instr.index 56 (.agg #[x0, x1, x2]) (.int .i64 2)).run Try.prog w = .ok x2 w) :=
  ⟨fun _ => by kernel_rfl, fun _ => by kernel_rfl, fun _ => by kernel_rfl⟩

set_option maxHeartbeats 1000000 in
theorem keyRight_any (a b c : Int) (w : World) :
    Calls Try.prog 82 #[.agg #[.int .i64 a, .int .i64 b, .int .i64 c]] w fun e w' => e = .returned (.bool (okK3 a b c)) ∧ Kept Nil w w' := by
  obtain ⟨i0, i1, i2⟩ := rightIdx (.int .i64 a) (.int .i64 b) (.int .i64 c)
  go_enter Try.func82, Try.ntmps82
  go_wp2
  go_loop [6] (fun i => i = .int .i64 0 ∨ (okK a = true ∧ i = .int .i64 1) ∨ (okK a = true ∧ okK b = true ∧ i = .int .i64 2) ∨ (okK a = true ∧ okK b = true ∧ okK c = true ∧ i = .int .i64 3)) (fun i => (3 - intOf i).toNat)
  case atStart => exact .inl rfl
  case round =>
    rcases hrel with rfl | ⟨h1, rfl⟩ | ⟨h1, h2, rfl⟩ | ⟨h1, h2, h3, rfl⟩
    · by_cases h : okK a = true
      · have hb := okK_iff.1 h
        have H := Lib.hid h
        clear h
        obtain ⟨l, u⟩ := hb
        go_wp2
        go_round
        case rel => exact .inr (.inl ⟨H.out, rfl⟩)
        case measure => decide
      · have hb := okK_no (by simpa using h)
        have H := Lib.hid (okK3_bad1 (a := a) (b := b) (c := c) (by simpa using h))
        clear h
        rcases hb with hb | hb
        all_goals go_wp2
        all_goals go_ret
        all_goals exact ⟨ret_bool H.out.symm, (Kept.refl _ _).alloc _⟩
    · have H1 := Lib.hid h1
      clear h1
      by_cases h : okK b = true
      · have hb := okK_iff.1 h
        have H := Lib.hid h
        clear h
        obtain ⟨l, u⟩ := hb
        go_wp2
        go_round
        case rel => exact .inr (.inr (.inl ⟨H1.out, H.out, rfl⟩))
        case measure => decide
      · have hb := okK_no (by simpa using h)
        have H := Lib.hid (okK3_bad2 (a := a) (b := b) (c := c) (by simpa using h))
        clear h
        rcases hb with hb | hb
        all_goals go_wp2
        all_goals go_ret
        all_goals exact ⟨ret_bool H.out.symm, (Kept.refl _ _).alloc _⟩
    · have H1 := Lib.hid h1
      have H2 := Lib.hid h2
      clear h1 h2
      by_cases h : okK c = true
      · have hb := okK_iff.1 h
        have H := Lib.hid h
        clear h
        obtain ⟨l, u⟩ := hb
        go_wp2
        go_round
        case rel => exact .inr (.inr (.inr ⟨H1.out, H2.out, H.out, rfl⟩))
        case measure => decide
      · have hb := okK_no (by simpa using h)
        have H := Lib.hid (okK3_bad3 (a := a) (b := b) (c := c) (by simpa using h))
        clear h
        rcases hb with hb | hb
        all_goals go_wp2
        all_goals go_ret
        all_goals exact ⟨ret_bool H.out.symm, (Kept.refl _ _).alloc _⟩
    · have H := Lib.hid (okK3_good (a := a) (b := b) (c := c) h1 h2 h3)
      clear h1 h2 h3
      go_wp2
      go_ret
      exact ⟨ret_bool H.out.symm, (Kept.refl _ _).alloc _⟩
/-! ### == of keys, of tests -/
theorem infoIntS : (Try.prog.info? 3).isSome = true := by kernel_rfl
theorem cellsIntS : Try.prog.cellsOf 3 = 1 := by kernel_rfl
theorem partInt (xs : Array Value) (i : Nat) (v : Value) (h : xs[i]? = some v) (w : World) : (part 3 xs i).run Try.prog w = .ok v w := by
  simp [part, isAgg, run_underlying Try.underlying3, h]
theorem eqKey (a1 a2 a3 b1 b2 b3 : Int) (w : World) :
    (Op.equalIn 10000 56 (.agg #[.int .i64 a1, .int .i64 a2, .int .i64 a3]) (.agg #[.int .i64 b1, .int .i64 b2, .int .i64 b3])).run Try.prog w = .ok (decide (a1 = b1 ∧ a2 = b2 ∧ a3 = b3)) w := by
  obtain ⟨i, hi⟩ := Option.isSome_iff_exists.1 infoIntS
  have e : ∀ x y : Int, (Op.equalIn 9999 3 (.int .i64 x) (.int .i64 y)).run Try.prog w = .ok (x == y) w := fun x y => run_equalIn_int w 9998 3 .i64 .i64 x y Try.underlying3
  rw [run_equalIn_array w 9999 _ _ Try.underlying56 hi, cellsIntS]
  show (Op.eqItems 9999 3 1 _ _ [0, 1, 2]).run Try.prog w = _
  have p0 : ∀ x y z : Value, (part 3 #[x, y, z] 0).run Try.prog w = .ok x w := fun x y z => partInt #[x, y, z] 0 x rfl w
  have p1 : ∀ x y z : Value, (part 3 #[x, y, z] 1).run Try.prog w = .ok y w := fun x y z => partInt #[x, y, z] 1 y rfl w
  have p2 : ∀ x y z : Value, (part 3 #[x, y, z] 2).run Try.prog w = .ok z w := fun x y z => partInt #[x, y, z] 2 z rfl w
  by_cases h1 : a1 = b1
  · by_cases h2 : a2 = b2
    · by_cases h3 : a3 = b3
      · simp [Op.eqItems, p0, p1, p2, e, h1, h2, h3]
      · simp [Op.eqItems, p0, p1, p2, e, h1, h2, h3]
    · simp [Op.eqItems, p0, p1, e, h1, h2]
  · simp [Op.eqItems, p0, e, h1]
theorem eqArr (a1 a2 a3 b1 b2 b3 : Int) (w : World) :
    (Op.equalIn 10000 51 (.agg #[.int .i64 a1, .int .i64 a2, .int .i64 a3]) (.agg #[.int .i64 b1, .int .i64 b2, .int .i64 b3])).run Try.prog w = .ok (decide (a1 = b1 ∧ a2 = b2 ∧ a3 = b3)) w := by
  obtain ⟨i, hi⟩ := Option.isSome_iff_exists.1 infoIntS
  have e : ∀ x y : Int, (Op.equalIn 9999 3 (.int .i64 x) (.int .i64 y)).run Try.prog w = .ok (x == y) w := fun x y => run_equalIn_int w 9998 3 .i64 .i64 x y Try.underlying3
  rw [run_equalIn_array w 9999 _ _ Try.underlying51 hi, cellsIntS]
  show (Op.eqItems 9999 3 1 _ _ [0, 1, 2]).run Try.prog w = _
  have p0 : ∀ x y z : Value, (part 3 #[x, y, z] 0).run Try.prog w = .ok x w := fun x y z => partInt #[x, y, z] 0 x rfl w
  have p1 : ∀ x y z : Value, (part 3 #[x, y, z] 1).run Try.prog w = .ok y w := fun x y z => partInt #[x, y, z] 1 y rfl w
  have p2 : ∀ x y z : Value, (part 3 #[x, y, z] 2).run Try.prog w = .ok z w := fun x y z => partInt #[x, y, z] 2 z rfl w
  by_cases h1 : a1 = b1
  · by_cases h2 : a2 = b2
    · by_cases h3 : a3 = b3
      · simp [Op.eqItems, p0, p1, p2, e, h1, h2, h3]
      · simp [Op.eqItems, p0, p1, p2, e, h1, h2, h3]
    · simp [Op.eqItems, p0, p1, e, h1, h2]
  · simp [Op.eqItems, p0, e, h1]
theorem eqTest (a1 a2 a3 b1 b2 b3 : Int) (w : World) :
    (Op.equalIn 10000 90 (.agg #[.int .i64 a1, .int .i64 a2, .int .i64 a3]) (.agg #[.int .i64 b1, .int .i64 b2, .int .i64 b3])).run Try.prog w = .ok (decide (a1 = b1 ∧ a2 = b2 ∧ a3 = b3)) w := by
  have e : ∀ x y : Int, (Op.equalIn 9999 3 (.int .i64 x) (.int .i64 y)).run Try.prog w = .ok (x == y) w := fun x y => run_equalIn_int w 9998 3 .i64 .i64 x y Try.underlying3
  rw [run_equalIn_struct w 9999 _ _ _ (by kernel_rfl) (by kernel_rfl)]
  simp only [Program.fieldsOf, Try.underlying90]
  by_cases h1 : a1 = b1
  · by_cases h2 : a2 = b2
    · by_cases h3 : a3 = b3
      · simp [Op.eqFields, part, isAgg, run_underlying Try.underlying3, e, h1, h2, h3]
      · simp [Op.eqFields, part, isAgg, run_underlying Try.underlying3, e, h1, h2, h3]
    · simp [Op.eqFields, part, isAgg, run_underlying Try.underlying3, e, h1, h2]
  · simp [Op.eqFields, part, isAgg, run_underlying Try.underlying3, e, h1]
theorem eqTestR (a1 a2 a3 b1 b2 b3 : Int) (w : World) :
    (Op.equalIn 10000 89 (.agg #[.int .i64 a1, .int .i64 a2, .int .i64 a3]) (.agg #[.int .i64 b1, .int .i64 b2, .int .i64 b3])).run Try.prog w = .ok (decide (a1 = b1 ∧ a2 = b2 ∧ a3 = b3)) w := by
  have e : ∀ x y : Int, (Op.equalIn 9999 3 (.int .i64 x) (.int .i64 y)).run Try.prog w = .ok (x == y) w := fun x y => run_equalIn_int w 9998 3 .i64 .i64 x y Try.underlying3
  rw [run_equalIn_struct w 9999 _ _ _ (by kernel_rfl) (by kernel_rfl)]
  simp only [Program.fieldsOf, Try.underlying89]
  by_cases h1 : a1 = b1
  · by_cases h2 : a2 = b2
    · by_cases h3 : a3 = b3
      · simp [Op.eqFields, part, isAgg, run_underlying Try.underlying3, e, h1, h2, h3]
      · simp [Op.eqFields, part, isAgg, run_underlying Try.underlying3, e, h1, h2, h3]
    · simp [Op.eqFields, part, isAgg, run_underlying Try.underlying3, e, h1, h2]
  · simp [Op.eqFields, part, isAgg, run_underlying Try.underlying3, e, h1]
end
section
open Go.RowKit
set_option maxRecDepth 100000

theorem isField_any (n : Int) (w : World) :
    Calls Try.prog 92 #[.int .i64 n] w fun e w' => e = .returned (.bool (decide (0 ≤ n ∧ n ≤ 2))) ∧ w = w' := by
  by_cases h0 : 0 ≤ n
  · by_cases h2 : n ≤ 2
    · go_enter Try.func92, Try.ntmps92
      go_wp2
      go_ret
      first | exact ⟨rfl, rfl⟩ | exact ⟨ret_bool (decide_eq_true ⟨h0, h2⟩).symm, rfl⟩
    · have h2' : decide (n ≤ 2) = false := decide_eq_false h2
      go_enter Try.func92, Try.ntmps92
      go_wp2
      go_ret
      first | exact ⟨rfl, rfl⟩ | exact ⟨ret_bool (decide_eq_false (by omega)).symm, rfl⟩
  · have h0' : decide (0 ≤ n) = false := decide_eq_false h0
    go_enter Try.func92, Try.ntmps92
    go_wp2
    go_ret
    first | exact ⟨rfl, rfl⟩ | exact ⟨ret_bool (decide_eq_false (by omega)).symm, rfl⟩
theorem tOK_eq (t0 t1 t2 : Int) : tOK (t0, t1, t2) = (decide (0 ≤ t0 ∧ t0 ≤ 2) && (decide (0 ≤ t2 ∧ t2 ≤ 2) && (if t1 = -1 then decide (t2 < t0) else (decide (0 ≤ t1) && decide (t1 < 16))))) := by
  unfold tOK
  rw [Bool.eq_iff_iff]
  by_cases h : t1 = -1
  · rw [if_pos h]
    simp only [Bool.and_eq_true, decide_eq_true_iff]
    exact ⟨fun hh => ⟨hh.1, hh.2.2.1, hh.2.2.2 h⟩, fun hh => ⟨hh.1, by omega, hh.2.1, fun _ => hh.2.2⟩⟩
  · rw [if_neg h]
    simp only [Bool.and_eq_true, decide_eq_true_iff]
    exact ⟨fun hh => ⟨hh.1, hh.2.2.1, by omega, by omega⟩, fun hh => ⟨hh.1, by omega, hh.2.1, fun e => absurd e h⟩⟩
set_option maxHeartbeats 1000000 in
theorem rightTest_any (t0 t1 t2 : Int) (w : World) :
    Calls Try.prog 90 #[.agg #[.int .i64 t0, .int .i64 t1, .int .i64 t2]] w fun e w' => e = .returned (.bool (tOK (t0, t1, t2))) ∧ Kept Nil w w' := by
  have C0 := Lib.hid (fun W => isField_any t0 W)
  have C2 := Lib.hid (fun W => isField_any t2 W)
  have HV := Lib.hid (tOK_eq t0 t1 t2)
  generalize tOK (t0, t1, t2) = v at HV ⊢
  generalize decide (0 ≤ t0 ∧ t0 ≤ 2) = b0 at C0 HV
  generalize decide (0 ≤ t2 ∧ t2 ≤ 2) = b2 at C2 HV
  have K0 := Lib.hid ((Kept.refl Nil w).alloc (.cells #[.int .i64 t0, .int .i64 t1, .int .i64 t2] 90))
  cases b0
  · go_enter Try.func90, Try.ntmps90
    go_wp2_with fail
    refine (C0.out _).mono ?_
    rintro e w2 ⟨rfl, rfl⟩
    go_wp2_with fail
    go_ret
    exact ⟨ret_bool (by rw [HV.out]; rfl), K0.out⟩
  · cases b2
    · go_enter Try.func90, Try.ntmps90
      go_wp2_with fail
      refine (C0.out _).mono ?_
      rintro e w2 ⟨rfl, rfl⟩
      go_wp2_with fail
      refine (C2.out _).mono ?_
      rintro e w2 ⟨rfl, rfl⟩
      go_wp2_with fail
      go_ret
      exact ⟨ret_bool (by rw [HV.out]; rfl), K0.out⟩
    · by_cases h1 : t1 = -1
      · have HV2 : Hid (v = decide (t2 < t0)) := Lib.hid (by rw [HV.out, if_pos h1]; rfl)
        subst h1
        clear HV
        go_enter Try.func90, Try.ntmps90
        go_wp2_with fail
        refine (C0.out _).mono ?_
        rintro e w2 ⟨rfl, rfl⟩
        go_wp2_with fail
        refine (C2.out _).mono ?_
        rintro e w2 ⟨rfl, rfl⟩
        go_wp2_with fail
        go_ret
        exact ⟨ret_bool (by rw [HV2.out]), K0.out⟩
      · have h1' : (t1 == -1) = false := by simpa using h1
        by_cases h0 : 0 ≤ t1
        · have HV2 : Hid (v = decide (t1 < 16)) := Lib.hid (by rw [HV.out, if_neg h1, decide_eq_true h0]; rfl)
          clear HV
          go_enter Try.func90, Try.ntmps90
          go_wp2_with fail
          refine (C0.out _).mono ?_
          rintro e w2 ⟨rfl, rfl⟩
          go_wp2_with fail
          refine (C2.out _).mono ?_
          rintro e w2 ⟨rfl, rfl⟩
          go_wp2_with fail
          go_ret
          exact ⟨ret_bool (by rw [HV2.out]), K0.out⟩
        · have h0' : decide (0 ≤ t1) = false := decide_eq_false h0
          have HV2 : Hid (v = false) := Lib.hid (by rw [HV.out, if_neg h1, h0']; rfl)
          clear HV
          go_enter Try.func90, Try.ntmps90
          go_wp2_with fail
          refine (C0.out _).mono ?_
          rintro e w2 ⟨rfl, rfl⟩
          go_wp2_with fail
          refine (C2.out _).mono ?_
          rintro e w2 ⟨rfl, rfl⟩
          go_wp2_with fail
          go_ret
          exact ⟨ret_bool (by rw [HV2.out]), K0.out⟩
set_option maxHeartbeats 2000000 in
theorem rightTests_any (ts : List Tst) (hl : ts.length ≤ 5000) (ok : Nat → Nat → Prop) (a : Option Addr) (cap : Nat) (w : World) (h : TsAt w ok (.slice a ts.length cap) ts) :
    Calls Try.prog 83 #[.slice a ts.length cap] w fun e w' => e = .returned (.bool (tsOK (-1) ts)) ∧ Kept Nil w w' := by
  obtain ⟨len, hlen⟩ : ∃ n, ts.length = n := ⟨_, rfl⟩
  have HH := Lib.hid h
  rw [hlen] at HH hl ⊢
  have HL := Lib.hid hlen
  clear h hlen
  go_enter Try.func83, Try.ntmps83
  go_wp2_with fail
  go_loopw [3, 8] (fun f i wr => ∃ j : Nat, j ≤ len ∧ i = .int .i64 j ∧ f = .int .i64 (lastF ts j) ∧ tsOK (-1) ts = tsOK (lastF ts j) (ts.drop j) ∧ Kept Nil w wr) (fun _ i _ => len - (intOf i).toNat)
  case atStart => exact ⟨0, by omega, rfl, rfl, rfl, Kept.refl _ _⟩
  case round =>
    obtain ⟨j, hj, rfl, rfl, hch, hK⟩ := hrel
    have HK := Lib.hid hK
    have HCh := Lib.hid hch
    clear hK hch
    by_cases hlt : j < len
    · obtain ⟨⟨t0, t1, t2⟩, hx⟩ : ∃ x, ts[j]? = some x := ⟨_, List.getElem?_eq_getElem (by have := HL.out; omega)⟩
      obtain ⟨b, o, rfl, hok, hr⟩ := (HH.out.keptN HK.out).at_ hx
      have HR := Lib.hid hr
      have HN := Lib.hid (tsOK_drop hx)
      have HF : Hid (lastF ts (j + 1) = t0) := Lib.hid (lastF_succ hx)
      rw [HF.out] at HN
      have CT := Lib.hid (fun W => rightTest_any t0 t1 t2 W)
      generalize hlf : lastF ts j = f0 at *
      generalize tOK (t0, t1, t2) = q at CT HN
      clear hx hr hok hlf
      have KA := Lib.hid (HK.out.alloc (.cells #[.int .i64 t0, .int .i64 t1, .int .i64 t2] 90))
      have BA := Lib.hid (Blk.new wr 90 #[.int .i64 t0, .int .i64 t1, .int .i64 t2])
      by_cases hle : t0 ≤ f0
      · have HE : Hid (tsOK (-1) ts = false) := Lib.hid (by rw [HCh.out, HN.out, decide_eq_false (by omega : ¬ f0 < t0)]; rfl)
        go_wp2_with ((with_reducible refine wpList_load_T rfl (.tmp 10) rfl _ _ rfl t0 t1 t2 ?_ ?_)
                     · exact HR.out)
        go_ret
        exact ⟨ret_bool HE.out.symm, KA.out⟩
      · have hle' : decide (t0 ≤ f0) = false := decide_eq_false hle
        have HN2 : Hid (tsOK f0 (ts.drop j) = (q && tsOK t0 (ts.drop (j + 1)))) := Lib.hid (by rw [HN.out, decide_eq_true (by omega : f0 < t0)]; rfl)
        clear HN
        go_wp2_with (first
          | ((with_reducible refine wpList_load_T rfl (.tmp 10) rfl _ _ rfl t0 t1 t2 ?_ ?_)
             · exact HR.out))
        refine (CT.out _).mono ?_
        rintro e w2 ⟨rfl, k2⟩
        have K2 := Lib.hid (KA.out.trans k2 (fun _ _ g => g))
        have B2 := Lib.hid (BA.out.kept k2 id)
        have z0 := B2.out.cell 0
        simp at z0
        clear k2
        cases q
        · go_wp2_with fail
          go_ret
          exact ⟨ret_bool (by rw [HCh.out, HN2.out]; rfl), K2.out⟩
        · go_wp2_with fail
          go_roundw
          case rel => exact ⟨j + 1, by omega, by go_num, by rw [HF.out], by rw [HCh.out, HN2.out, HF.out]; rfl, K2.out⟩
          case measure => simp [intOf]; omega
    · obtain rfl : j = len := by omega
      have HE : Hid (tsOK (lastF ts j) (ts.drop j) = true) := Lib.hid (by rw [List.drop_eq_nil_of_le (by have := HL.out; omega)]; rfl)
      go_wp2_with fail
      go_ret
      exact ⟨ret_bool (by rw [HCh.out, HE.out]), HK.out⟩
end
section
open Go.RowKit
set_option maxRecDepth 100000

/-- An index; whether there is one. -/
def IdxEnd (b : Bool) (w : World) (e : Ending) (w' : World) : Prop := ∃ r : Int, e = .returned (.int .i64 r) ∧ decide (0 ≤ r) = b ∧ Kept Nil w w'
abbrev PAt (hd : SH) (sb : List St) : Prop := ∀ ok ta tc a cap (d : Int) w, TsAt w ok (.slice ta hd.ts.length tc) hd.ts → SHolds w ok (.slice a sb.length cap) sb → 0 ≤ d → d ≤ 4 →
  Calls Try.prog 71 #[vS hd (.slice ta hd.ts.length tc) (.slice a sb.length cap), .int .i64 d] w fun e w' => e = .returned (.bool ((St.mk hd sb).pAt d)) ∧ Kept Nil w w'
abbrev PAtIH (subs : List St) : Prop := ∀ hd sb, St.mk hd sb ∈ subs → PAt hd sb
set_option maxHeartbeats 1000000 in
theorem rightClo_any (k k0 k1 k2 : Int) (ts : List Tst) (sb : List St) (IH : Hid (PAt ⟨k, k0, k1, k2, ts⟩ sb)) (D : Nat) (d : Int) (hd0 : 0 ≤ d) (hd1 : d ≤ 4) (ok : Nat → Nat → Prop) (ta : Option Addr) (tc : Nat) (a : Option Addr) (cap : Nat) (w : World) (HB : Hid (Blk w D 3 #[.int .i64 d])) (HT : Hid (TsAt w ok (.slice ta ts.length tc) ts)) (HS : Hid (SHolds w ok (.slice a sb.length cap) sb)) :
    Calls Try.prog 89 #[vS ⟨k, k0, k1, k2, ts⟩ (.slice ta ts.length tc) (.slice a sb.length cap), .pointer (some ⟨D, 0, none⟩)] w fun e w' => e = .returned (.bool (!(St.mk ⟨k, k0, k1, k2, ts⟩ sb).pAt d)) ∧ Kept Nil w w' := by
  have CX : Hid (∀ W, Kept Nil w W → Calls Try.prog 71 #[vS ⟨k, k0, k1, k2, ts⟩ (.slice ta ts.length tc) (.slice a sb.length cap), .int .i64 d] W fun e w' => e = .returned (.bool ((St.mk ⟨k, k0, k1, k2, ts⟩ sb).pAt d)) ∧ Kept Nil W w') := Lib.hid fun W kW => IH.out ok ta tc a cap d W (HT.out.keptN kW) (HS.out.keptN kW) hd0 hd1
  generalize (St.mk ⟨k, k0, k1, k2, ts⟩ sb).pAt d = v at CX ⊢
  generalize ts.length = tn at CX ⊢
  generalize sb.length = sn at CX ⊢
  have K0 := Lib.hid ((Kept.refl Nil w).alloc (.cells (arrS ⟨k, k0, k1, k2, ts⟩ (.slice ta tn tc) (.slice a sn cap)) 59))
  have z0 := HB.out.cell 0
  have hD : D < w.heap.size := HB.out.lt
  simp at z0
  go_enter Try.func89, Try.ntmps89
  go_wp2_with fail
  refine (CX.out _ K0.out).mono ?_
  rintro e w2 ⟨rfl, k2⟩
  go_wp2_with fail
  go_ret
  exact ⟨rfl, K0.out.trans k2 (fun _ _ g => g)⟩
set_option maxHeartbeats 2000000 in
theorem rightIdxF_any (subs : List St) (IH : Hid (PAtIH subs)) (hl : subs.length ≤ 5000) (D : Nat) (d : Int) (hd0 : 0 ≤ d) (hd1 : d ≤ 4) (ok : Nat → Nat → Prop) (a : Option Addr) (cap : Nat) (w : World) (HB : Hid (Blk w D 3 #[.int .i64 d])) (h : SHolds w ok (.slice a subs.length cap) subs) :
    Calls Try.prog 65 #[.slice a subs.length cap, .func (.func 89) #[] #[.pointer (some ⟨D, 0, none⟩)]] w (IdxEnd (!pLAt subs d) w) := by
  obtain ⟨len, hlen⟩ : ∃ n, subs.length = n := ⟨_, rfl⟩
  have HH := Lib.hid h
  rw [hlen] at HH hl ⊢
  have HL := Lib.hid hlen
  clear h hlen
  go_enter Try.func65, Try.ntmps65
  go_wp2_with fail
  go_loopw [5, 8] (fun _ i wr => ∃ j : Nat, j ≤ len ∧ i = .int .i64 j ∧ pLAt subs d = pLAt (subs.drop j) d ∧ Kept Nil w wr) (fun _ i _ => len - (intOf i).toNat)
  case atStart => exact ⟨0, by omega, rfl, rfl, Kept.refl _ _⟩
  case round =>
    obtain ⟨j, hj, rfl, hch, hK⟩ := hrel
    have HK := Lib.hid hK
    have HCh := Lib.hid hch
    clear hK hch
    by_cases hlt : j < len
    · obtain ⟨⟨⟨k', k0', k1', k2', ts'⟩, sb⟩, hx⟩ : ∃ x, subs[j]? = some x := ⟨_, List.getElem?_eq_getElem (by have := HL.out; omega)⟩
      obtain ⟨b, o, ta', tc', a', cap', rfl, hok, hr, ht, hs⟩ := (HH.out.keptN HK.out).at_ hx
      have CX := Lib.hid (rightClo_any k' k0' k1' k2' ts' sb (Lib.hid (IH.out _ _ (List.mem_of_getElem? hx))) D d hd0 hd1 ok ta' tc' a' cap' wr (Lib.hid (HB.out.kept HK.out id)) (Lib.hid ht) (Lib.hid hs))
      have HR : Hid (wr.rangeAt b (o + j * 6) (cS ⟨k', k0', k1', k2', ts'⟩ (.slice ta' ts'.length tc') (.slice a' sb.length cap'))) := Lib.hid hr
      have HN := Lib.hid (pLAt_drop (d := d) hx)
      generalize (St.mk ⟨k', k0', k1', k2', ts'⟩ sb).pAt d = q at CX HN
      generalize ts'.length = tn' at CX HR
      generalize sb.length = len' at CX HR
      clear hx hr ht hs hok
      go_wp2_with ((with_reducible refine wpList_load_S rfl (.tmp 14) rfl _ _ rfl ⟨k', k0', k1', k2', ts'⟩ (.slice ta' tn' tc') (.slice a' len' cap') ?_ ?_)
                   · exact HR.out)
      refine CX.out.mono ?_
      rintro e w2 ⟨rfl, k2⟩
      have K2 := Lib.hid (HK.out.trans k2 (fun _ _ g => g))
      clear k2
      cases q
      · go_wp2_with fail
        go_ret
        exact ⟨(j : Int), rfl, by rw [HCh.out, HN.out]; exact decide_eq_true (by omega), K2.out⟩
      · go_wp2_with fail
        go_roundw
        case rel => exact ⟨j + 1, by omega, by go_num, by rw [HCh.out, HN.out]; rfl, K2.out⟩
        case measure => simp [intOf]; omega
    · obtain rfl : j = len := by omega
      have HE : Hid (pLAt (subs.drop j) d = true) := Lib.hid (by rw [List.drop_eq_nil_of_le (by have := HL.out; omega)]; rfl)
      go_wp2_with fail
      go_ret
      exact ⟨-1, rfl, by rw [HCh.out, HE.out]; rfl, HK.out⟩
theorem rightCont_any (subs : List St) (IH : Hid (PAtIH subs)) (hl : subs.length ≤ 5000) (D : Nat) (d : Int) (hd0 : 0 ≤ d) (hd1 : d ≤ 4) (ok : Nat → Nat → Prop) (a : Option Addr) (cap : Nat) (w : World) (HB : Hid (Blk w D 3 #[.int .i64 d])) (h : SHolds w ok (.slice a subs.length cap) subs) :
    Calls Try.prog 52 #[.slice a subs.length cap, .func (.func 89) #[] #[.pointer (some ⟨D, 0, none⟩)]] w fun e w' => e = .returned (.bool (!pLAt subs d)) ∧ Kept Nil w w' := by
  have C := Lib.hid (rightIdxF_any subs IH hl D d hd0 hd1 ok a cap w HB h)
  unfold IdxEnd at C
  generalize pLAt subs d = v at C ⊢
  clear h
  generalize subs.length = len at C ⊢
  go_enter Try.func52, Try.ntmps52
  go_wp2_with fail
  refine C.out.mono ?_
  rintro e w2 ⟨r, rfl, hr, k2⟩
  go_wp2_with fail
  go_ret
  exact ⟨ret_bool (by first | rfl | exact hr), k2⟩
set_option maxHeartbeats 1000000 in
theorem rightSubs_any (subs : List St) (IH : Hid (PAtIH subs)) (hl : subs.length ≤ 5000) (d : Int) (hd0 : 0 ≤ d) (hd1 : d ≤ 4) (ok : Nat → Nat → Prop) (a : Option Addr) (cap : Nat) (w : World) (h : SHolds w ok (.slice a subs.length cap) subs) :
    Calls Try.prog 81 #[.slice a subs.length cap, .int .i64 d] w fun e w' => e = .returned (.bool (decide (subs.length ≠ 0 ∧ subs.length < 16) && pLAt subs d)) ∧ Kept Nil w w' := by
  have K0 := Lib.hid ((Kept.refl Nil w).alloc (.cells #[.int .i64 d] 3))
  have B0 := Lib.hid (Blk.new w 3 #[.int .i64 d])
  have C := Lib.hid (rightCont_any subs IH hl w.heap.size d hd0 hd1 ok a cap _ B0 (h.keptN K0.out))
  clear h
  generalize pLAt subs d = v at C ⊢
  generalize subs.length = len at C hl ⊢
  by_cases h0 : len = 0
  · subst h0
    go_enter Try.func81, Try.ntmps81
    go_wp2_with fail
    go_ret
    exact ⟨rfl, K0.out⟩
  · have h0' : ((len : Int) == 0) = false := by rw [beq_eq_false_iff_ne]; omega
    by_cases h16 : 16 ≤ len
    · have h16' : decide (16 ≤ len) = true := decide_eq_true h16
      go_enter Try.func81, Try.ntmps81
      go_wp2_with fail
      go_ret
      exact ⟨ret_bool (by rw [decide_eq_false (by omega)]; rfl), K0.out⟩
    · have h16' : decide (16 ≤ len) = false := decide_eq_false h16
      have HV : Hid (decide (len ≠ 0 ∧ len < 16) = true) := Lib.hid (decide_eq_true (by omega))
      go_enter Try.func81, Try.ntmps81
      go_wp2_with fail
      refine C.out.mono ?_
      rintro e w2 ⟨rfl, k2⟩
      go_wp2_with fail
      go_ret
      exact ⟨ret_bool (by rw [HV.out]; cases v <;> rfl), K0.out.trans k2 (fun _ _ g => g)⟩
set_option maxHeartbeats 2000000 in
theorem rightAt_step (k k0 k1 k2 : Int) (ts : List Tst) (subs : List St) (IH : Hid (PAtIH subs)) (hl : subs.length ≤ 5000) (htl : ts.length ≤ 5000) (ok : Nat → Nat → Prop) (ta : Option Addr) (tc : Nat) (a : Option Addr) (cap : Nat) (d : Int) (w : World) (ht : TsAt w ok (.slice ta ts.length tc) ts) (h : SHolds w ok (.slice a subs.length cap) subs) (hd0 : 0 ≤ d) (hd1 : d ≤ 4) :
    Calls Try.prog 71 #[vS ⟨k, k0, k1, k2, ts⟩ (.slice ta ts.length tc) (.slice a subs.length cap), .int .i64 d] w fun e w' => e = .returned (.bool ((St.mk ⟨k, k0, k1, k2, ts⟩ subs).pAt d)) ∧ Kept Nil w w' := by
  have HV : Hid ((St.mk ⟨k, k0, k1, k2, ts⟩ subs).pAt d = if 3 < d then false else if k = 3 then z3 k0 k1 k2 && (decide (ts.length = 0) && (decide (subs.length ≠ 0 ∧ subs.length < 16) && pLAt subs (d + 1))) else if k = 1 ∨ k = 2 then okK3 k0 k1 k2 && (decide (subs.length = 0) && tsOK (-1) ts) else false) := Lib.hid (by rw [St.pAt])
  have CS : Hid (d ≤ 3 → ∀ W, Kept Nil w W → Calls Try.prog 81 #[.slice a subs.length cap, .int .i64 (d + 1)] W fun e w' => e = .returned (.bool (decide (subs.length ≠ 0 ∧ subs.length < 16) && pLAt subs (d + 1))) ∧ Kept Nil W w') := Lib.hid fun h3 W kW => rightSubs_any subs IH hl (d + 1) (by omega) (by omega) ok a cap W (h.keptN kW)
  have CT : Hid (∀ W, Kept Nil w W → Calls Try.prog 83 #[.slice ta ts.length tc] W fun e w' => e = .returned (.bool (tsOK (-1) ts)) ∧ Kept Nil W w') := Lib.hid fun W kW => rightTests_any ts htl ok ta tc W (ht.keptN kW)
  have CK := Lib.hid (fun W => keyRight_any k0 k1 k2 W)
  have hq : ∀ W, (Op.equalIn 10000 56 (.agg #[.int .i64 k0, .int .i64 k1, .int .i64 k2]) (.agg #[.int .i64 0, .int .i64 0, .int .i64 0])).run Try.prog W = .ok (z3 k0 k1 k2) W := fun W => eqKey k0 k1 k2 0 0 0 W
  generalize z3 k0 k1 k2 = z at HV hq
  generalize okK3 k0 k1 k2 = q at HV CK
  generalize (decide (subs.length ≠ 0 ∧ subs.length < 16) && pLAt subs (d + 1)) = v3 at HV CS
  generalize tsOK (-1) ts = v4 at HV CT
  generalize (St.mk ⟨k, k0, k1, k2, ts⟩ subs).pAt d = v at HV ⊢
  generalize ts.length = tn at *
  generalize subs.length = len at *
  clear ht h IH
  have K0 := Lib.hid ((Kept.refl Nil w).alloc (.cells (arrS ⟨k, k0, k1, k2, ts⟩ (.slice ta tn tc) (.slice a len cap)) 59))
  have B0 := Lib.hid (Blk.new w 59 (arrS ⟨k, k0, k1, k2, ts⟩ (.slice ta tn tc) (.slice a len cap)))
  by_cases h3 : 3 < d
  · have HE : Hid (v = false) := Lib.hid (by rw [HV.out, if_pos h3])
    go_enter Try.func71, Try.ntmps71
    go_wp2_with fail
    go_ret
    exact ⟨ret_bool HE.out.symm, K0.out⟩
  · have h3' : decide (3 < d) = false := decide_eq_false h3
    have CS2 := Lib.hid (CS.out (by omega))
    clear CS
    by_cases hk3 : k = 3
    · have HE : Hid (v = (z && (decide (tn = 0) && v3))) := Lib.hid (by rw [HV.out, if_neg h3, if_pos hk3])
      subst hk3
      clear HV
      cases z
      · go_enter Try.func71, Try.ntmps71
        go_wp2_with fail
        go_ret
        exact ⟨ret_bool (by rw [HE.out]; rfl), K0.out⟩
      · by_cases ht0 : tn = 0
        · subst ht0
          go_enter Try.func71, Try.ntmps71
          go_wp2_with fail
          refine (CS2.out _ K0.out).mono ?_
          rintro e w2 ⟨rfl, k2⟩
          go_wp2_with fail
          go_ret
          exact ⟨ret_bool (by rw [HE.out]; rfl), K0.out.trans k2 (fun _ _ g => g)⟩
        · have ht0' : ((tn : Int) == 0) = false := by rw [beq_eq_false_iff_ne]; omega
          have HE2 : Hid (v = false) := Lib.hid (by rw [HE.out, decide_eq_false ht0]; rfl)
          go_enter Try.func71, Try.ntmps71
          go_wp2_with fail
          go_ret
          exact ⟨ret_bool HE2.out.symm, K0.out⟩
    · have hk3' : (k == 3) = false := by simpa using hk3
      by_cases hk12 : k = 1 ∨ k = 2
      · have HE : Hid (v = (q && (decide (len = 0) && v4))) := Lib.hid (by rw [HV.out, if_neg h3, if_neg hk3, if_pos hk12])
        clear HV hk3 hk3'
        rcases hk12 with rfl | rfl
        all_goals
          go_enter Try.func71, Try.ntmps71
          go_wp2_with fail
          refine (CK.out _).mono ?_
          rintro e w2 ⟨rfl, k2⟩
          have K2 := Lib.hid (K0.out.trans k2 (fun _ _ g => g))
          have B2 := Lib.hid (B0.out.kept k2 id)
          have z4 := B2.out.cell 4
          have z5 := B2.out.cell 5
          simp at z4 z5
          clear k2
          cases q
          · go_wp2_with fail
            go_ret
            exact ⟨ret_bool (by rw [HE.out]; rfl), K2.out⟩
          · by_cases hl0 : len = 0
            · subst hl0
              go_wp2_with fail
              refine (CT.out _ K2.out).mono ?_
              rintro e w3 ⟨rfl, k3⟩
              go_wp2_with fail
              go_ret
              exact ⟨ret_bool (by rw [HE.out]; rfl), K2.out.trans k3 (fun _ _ g => g)⟩
            · have hl0' : ((len : Int) == 0) = false := by rw [beq_eq_false_iff_ne]; omega
              have HE2 : Hid (v = false) := Lib.hid (by rw [HE.out, decide_eq_false hl0]; rfl)
              go_wp2_with fail
              go_ret
              exact ⟨ret_bool HE2.out.symm, K2.out⟩
      · have hk1' : (k == 1) = false := by rw [beq_eq_false_iff_ne]; omega
        have hk2' : (k == 2) = false := by rw [beq_eq_false_iff_ne]; omega
        have HE : Hid (v = false) := Lib.hid (by rw [HV.out, if_neg h3, if_neg hk3, if_neg hk12])
        go_enter Try.func71, Try.ntmps71
        go_wp2_with fail
        go_ret
        exact ⟨ret_bool HE.out.symm, K0.out⟩
theorem rightAt_any : ∀ s : St, s.mass ≤ 5000 → PAt s.hd s.subs := by
  refine St.ind fun hd subs ih hc ok ta tc a cap d w ht h hd0 hd1 => ?_
  have hc' : 1 + hd.ts.length + massL subs ≤ 5000 := by simpa [St.mass] using hc
  have hl := length_massL subs
  exact rightAt_step hd.k hd.k0 hd.k1 hd.k2 hd.ts subs (Lib.hid fun hd' sb hx => ih _ hx (by have := mass_mem hx; omega)) (by omega) (by omega) ok ta tc a cap d w ht h hd0 hd1
set_option maxHeartbeats 1000000 in
theorem stRight_any (s : St) (hc : s.mass ≤ 5000) (ok : Nat → Nat → Prop) (ta : Option Addr) (tc : Nat) (a : Option Addr) (cap : Nat) (w : World) (ht : TsAt w ok (.slice ta s.hd.ts.length tc) s.hd.ts) (h : SHolds w ok (.slice a s.subs.length cap) s.subs) :
    Calls Try.prog 54 #[vS s.hd (.slice ta s.hd.ts.length tc) (.slice a s.subs.length cap)] w fun e w' => e = .returned (.bool s.right) ∧ Kept Nil w w' := by
  have C : Hid (∀ W, Kept Nil w W → Calls Try.prog 71 #[vS s.hd (.slice ta s.hd.ts.length tc) (.slice a s.subs.length cap), .int .i64 1] W fun e w' => e = .returned (.bool (s.pAt 1)) ∧ Kept Nil W w') := Lib.hid fun W kW => by
    have := rightAt_any s hc ok ta tc a cap 1 W (ht.keptN kW) (h.keptN kW) (by omega) (by omega)
    rw [St.eta] at this
    exact this
  have Z : Hid (∀ W, Kept Nil w W → Calls Try.prog 72 #[vS s.hd (.slice ta s.hd.ts.length tc) (.slice a s.subs.length cap)] W fun e w' => e = .returned (.int .i64 (s.cnt : Int)) ∧ Kept Nil W w') := Lib.hid fun W kW => stSize_any s (Nat.le_trans (cnt_le_mass.1 s) hc) ok ta _ tc a cap W (h.keptN kW)
  unfold St.right
  generalize s.pAt 1 = v at C ⊢
  generalize s.cnt = c at Z ⊢
  clear h ht hc
  generalize s.subs.length = len at C Z ⊢
  generalize hhd : s.hd = hd at *
  clear hhd
  obtain ⟨k, k0, k1, k2, ts⟩ := hd
  replace C : Hid (∀ W, Kept Nil w W → Calls Try.prog 71 #[vS ⟨k, k0, k1, k2, ts⟩ (.slice ta ts.length tc) (.slice a len cap), .int .i64 1] W fun e w' => e = .returned (.bool v) ∧ Kept Nil W w') := C
  replace Z : Hid (∀ W, Kept Nil w W → Calls Try.prog 72 #[vS ⟨k, k0, k1, k2, ts⟩ (.slice ta ts.length tc) (.slice a len cap)] W fun e w' => e = .returned (.int .i64 (c : Int)) ∧ Kept Nil W w') := Z
  show Calls Try.prog 54 #[vS ⟨k, k0, k1, k2, ts⟩ (.slice ta ts.length tc) (.slice a len cap)] w _
  generalize ts.length = tn at C Z ⊢
  have K0 := Lib.hid ((Kept.refl Nil w).alloc (.cells (arrS ⟨k, k0, k1, k2, ts⟩ (.slice ta tn tc) (.slice a len cap)) 59))
  have B0 := Lib.hid (Blk.new w 59 (arrS ⟨k, k0, k1, k2, ts⟩ (.slice ta tn tc) (.slice a len cap)))
  go_enter Try.func54, Try.ntmps54
  go_wp2_with fail
  refine (C.out _ K0.out).mono ?_
  rintro e w2 ⟨rfl, k2⟩
  have K2 := Lib.hid (K0.out.trans k2 (fun _ _ g => g))
  have B2 := Lib.hid (B0.out.kept k2 id)
  clear k2
  cases v
  · go_wp2_with fail
    go_ret
    exact ⟨rfl, K2.out⟩
  · go_wp2_with (first
      | ((with_reducible refine wpList_load_SG rfl (.tmp 1) rfl _ _ rfl ⟨k, k0, k1, k2, ts⟩ (.slice ta tn tc) (.slice a len cap) ?_ ?_)
         · exact World.rangeAt_of_block B2.out 0 6))
    refine (Z.out _ K2.out).mono ?_
    rintro e w3 ⟨rfl, k3⟩
    go_wp2_with fail
    go_ret
    exact ⟨ret_bool (by first | rfl | (rw [Bool.eq_iff_iff, decide_eq_true_iff]; simp; omega)), K2.out.trans k3 (fun _ _ g => g)⟩
end
end
section
section
open Go.RowKit
set_option maxRecDepth 100000

/-- Two blocks of the call's own, known whole. -/
structure Two2 (w : World) (t0 : TypeId) (x : Array Value) (t1 : TypeId) (y : Array Value) (W : World) : Prop where
  kept : Kept Nil w W
  b0 : Blk W w.heap.size t0 x
  b1 : Blk W (w.heap.size + 1) t1 y
section
variable {w : World} {t0 t1 : TypeId} {x y : Array Value} {W W' : World}
theorem Two2.start (w : World) (t0 : TypeId) (x : Array Value) (t1 : TypeId) (y : Array Value) : Two2 w t0 x t1 y ((w.alloc (.cells x t0)).alloc (.cells y t1)) := by
  refine ⟨((Kept.refl Nil w).alloc _).alloc _, (Blk.new w _ _).alloc _, ?_⟩
  have := Blk.new (w.alloc (.cells x t0)) t1 y
  simpa using this
theorem Two2.step (r : Two2 w t0 x t1 y W) (k : Kept Nil W W') : Two2 w t0 x t1 y W' := ⟨r.kept.trans k (fun _ _ g => g), r.b0.kept k id, r.b1.kept k id⟩
theorem Two2.alloc (r : Two2 w t0 x t1 y W) (o : Obj) : Two2 w t0 x t1 y (W.alloc o) := r.step ((Kept.refl Nil W).alloc o)
theorem Two2.drew (r : Two2 w t0 x t1 y W) : Two2 w t0 x t1 y W.drew := r.step ((Kept.refl Nil W).drew)
theorem Two2.far {F : Nat → Prop} (r : Two2 w t0 x t1 y W) (k : Kept F W W') (hF : ∀ i, F i → w.heap.size + 1 < i) : Two2 w t0 x t1 y W' :=
  ⟨r.kept.trans k (fun i hi g => by have := hF i g; omega), r.b0.kept k (fun g => by have := hF _ g; omega), r.b1.kept k (fun g => by have := hF _ g; omega)⟩
theorem Two2.lt (r : Two2 w t0 x t1 y W) : w.heap.size + 1 < W.heap.size := r.b1.lt
end
/-- One round of building: an element of new memory is put behind the others, and the new slice is stored in a cell of X. -/
theorem GB.round {Q : Type} {D : Kd Q} {P : Program} {e t : TypeId} (T : Els P t e D.sz) (ty : TypeId) {W1 W1' w2 : World} {B X i : Nat} (hXB : X < B) (hBs : B ≤ W1.heap.size) {xt : TypeId} {cs : Array Value} {av : Option Addr} {pl cv : Nat} {ps : List Q} (b : Blk W1 X xt cs) (hi : cs[i]? = some (.slice av pl cv)) (g : GB D e W1 B (.slice av pl cv) ps) (hl : ps.length ≤ 10000) (hd : Kept Nil W1 W1') (k2 : Kept Nil W1' w2)
    (q : Q) (arr : Array Value) (ha : arr.toList = D.F q) (nt : TypeId) (hq : D.K w2 (okM W1'.heap.size w2) q) :
    w2.cell? ⟨X, i, none⟩ = some (.slice av pl cv) ∧ X < w2.heap.size ∧ ∃ a n c w3, (Builtin.append_ #[t, t] ty #[.slice av pl cv, .slice (some ⟨w2.heap.size, 0, none⟩) 1 1]).run P (w2.alloc (.cells arr nt)) = .ok (.slice a n c) w3 ∧
      w3.cell? ⟨X, i, none⟩ = some (.slice av pl cv) ∧ w3.frozen? ⟨X, i, none⟩ = false ∧ X < w3.heap.size ∧ Kept (fun k => k = X ∨ (Value.slice av pl cv).ownBlock = some k) W1 (w3.setCell ⟨X, i, none⟩ (.slice a n c)) ∧
      Blk (w3.setCell ⟨X, i, none⟩ (.slice a n c)) X xt (cs.setIfInBounds i (.slice a n c)) ∧ GB D e (w3.setCell ⟨X, i, none⟩ (.slice a n c)) B (.slice a n c) (ps ++ [q]) := by
  have k12 : Kept Nil W1 w2 := hd.trans k2 (fun _ _ g => g)
  have b2 := b.kept k12 id
  have hX1 := b.lt
  have hX2 := b2.lt
  have hs1 := hd.size
  have hs2 := k2.size
  obtain ⟨a, n, c, w3, r3, g3, k3⟩ := GB.append_one (P := P) (t := t) T ty (g.kept k12) q arr ha nt (D.mono hq (fun b' o hb' => ⟨hb'.less (by omega), fun eo => by have := g.lt b' eo; have := hb'.1; omega⟩)) hl (by omega)
  have b3 : Blk w3 X xt cs := b2.kept k3 (fun eo => by have := g.base X eo; omega)
  refine ⟨by rw [b2.cell i]; exact hi, hX2, a, n, c, w3, r3, by rw [b3.cell i]; exact hi, b3.frozen i, b3.lt, ?_, b3.set_ i _, ?_⟩
  · exact ((k12.mono (fun _ _ g => g.elim)).trans k3 (fun k _ e => .inr e)).setCell _ (.inl (.inl rfl)) _
  · exact g3.keptF ((Kept.refl (fun k => k = X) w3).setCell ⟨X, i, none⟩ (.inl rfl) _) (fun k e => by omega)
theorem wpList_store_Q {ops : Array Oper} {rest : List Oper} {o : Oper} {a : Act} {w : World} {Q : Exit → Act → World → Prop} (hgd : o.guard = none) (x y : Operand) (ho : o.op = .store 54 x y)
    (g : Nat) (h : SH) (ta : Option Addr) (tn tc : Nat) (s : Option Addr) (n c : Nat) (hx : a.eval x = .pointer (some ⟨g, 0, none⟩)) (hy : a.eval y = vS h (.slice ta tn tc) (.slice s n c)) (v0 : Array Value) (h6 : v0.size = 6) (hg : Blk w g 54 v0)
    (hn : ∀ W, Kept (fun k => k = g) w W → Blk W g 54 (arrS h (.slice ta tn tc) (.slice s n c)) → wpList Try.prog ops Q rest (a.put o.dst undef) W) : wpList Try.prog ops Q (o :: rest) a w :=
  wpList_store_rowW hgd _ x y ho g _ hx hy _ _ hg infoQ6 h6 (by simp [Value.oneCell']) hn
theorem wpList_store_S {ops : Array Oper} {rest : List Oper} {o : Oper} {a : Act} {w : World} {Q : Exit → Act → World → Prop} (hgd : o.guard = none) (x y : Operand) (ho : o.op = .store 59 x y)
    (g : Nat) (h : SH) (ta : Option Addr) (tn tc : Nat) (s : Option Addr) (n c : Nat) (hx : a.eval x = .pointer (some ⟨g, 0, none⟩)) (hy : a.eval y = vS h (.slice ta tn tc) (.slice s n c)) (v0 : Array Value) (h6 : v0.size = 6) (hg : Blk w g 59 v0)
    (hn : ∀ W, Kept (fun k => k = g) w W → Blk W g 59 (arrS h (.slice ta tn tc) (.slice s n c)) → wpList Try.prog ops Q rest (a.put o.dst undef) W) : wpList Try.prog ops Q (o :: rest) a w :=
  wpList_store_rowW hgd _ x y ho g _ hx hy _ _ hg infoS6 h6 (by simp [Value.oneCell']) hn
abbrev zS : Array Value := #[.int .i64 0, .int .i64 0, .int .i64 0, .int .i64 0, .slice none 0 0, .slice none 0 0]
end
section
open Go.RowKit
set_option maxRecDepth 100000

/-- A step in new memory. -/
def StEnd (hd : SH) (subs : List St) (w : World) (e : Ending) (w' : World) : Prop :=
  ∃ ta tc a cap, e = .returned (vS hd (.slice ta hd.ts.length tc) (.slice a subs.length cap)) ∧ TsAt w' (okM w.heap.size w') (.slice ta hd.ts.length tc) hd.ts ∧ SHolds w' (okM w.heap.size w') (.slice a subs.length cap) subs ∧ Kept Nil w w'
end
section
open Go.RowKit
set_option maxRecDepth 100000

/-- Steps in new memory. -/
def StsEnd (l : List St) (w : World) (e : Ending) (w' : World) : Prop :=
  ∃ a cap, e = .returned (.slice a l.length cap) ∧ SHolds w' (okM w.heap.size w') (.slice a l.length cap) l ∧ Kept Nil w w'
end
section
open Go.RowKit
set_option maxRecDepth 100000

/-- What is read of the box. -/
abbrev SeenB (B : Nat) (k k0 k1 k2 : Int) (v : Value) (w' : World) : Prop :=
  w'.cell? ⟨B, 0, none⟩ = some (.int .i64 k) ∧ w'.cell? ⟨B, 1, none⟩ = some (.int .i64 k0) ∧ w'.cell? ⟨B, 2, none⟩ = some (.int .i64 k1) ∧ w'.cell? ⟨B, 3, none⟩ = some (.int .i64 k2) ∧ w'.cell? ⟨B, 5, none⟩ = some v
section
variable {B : Nat} {k k0 k1 k2 : Int} {v : Value} {w w' : World}
theorem SeenB.move (k0' : ∀ i v, w.cell? ⟨B, i, none⟩ = some v → w'.cell? ⟨B, i, none⟩ = some v) (h : SeenB B k k0 k1 k2 v w) : SeenB B k k0 k1 k2 v w' :=
  ⟨k0' _ _ h.1, k0' _ _ h.2.1, k0' _ _ h.2.2.1, k0' _ _ h.2.2.2.1, k0' _ _ h.2.2.2.2⟩
theorem seenB_kept (kk : Kept Nil w w') (h : SeenB B k k0 k1 k2 v w) : SeenB B k k0 k1 k2 v w' := h.move (fun _ _ h => kk.cellOf h)
theorem seenB_alloc (o : Obj) (h : SeenB B k k0 k1 k2 v w) : SeenB B k k0 k1 k2 v (w.alloc o) := seenB_kept ((Kept.refl Nil w).alloc o) h
theorem seenB_da (o : Obj) (h : SeenB B k k0 k1 k2 v w.drew) : SeenB B k k0 k1 k2 v (w.alloc o).drew := seenB_kept ((Kept.refl Nil w.drew).alloc o) h
theorem seenB_set {A i : Nat} {u : Value} (h0 : B ≠ A) (h : SeenB B k k0 k1 k2 v w) : SeenB B k k0 k1 k2 v (w.setCell ⟨A, i, none⟩ u) :=
  h.move (fun i v h => by rw [World.cell?_setCell_other w _ _ _ (fun e => h0 (congrArg Addr.block e).symm)]; exact h)
theorem seenB_set6 {A : Nat} {v0 v1 v2 v3 v4 v5 : Value} (h0 : B ≠ A) (h : SeenB B k k0 k1 k2 v w) : SeenB B k k0 k1 k2 v ((((((w.setCell ⟨A, 0, none⟩ v0).setCell ⟨A, 1, none⟩ v1).setCell ⟨A, 2, none⟩ v2).setCell ⟨A, 3, none⟩ v3).setCell ⟨A, 4, none⟩ v4).setCell ⟨A, 5, none⟩ v5) := (seenB_set h0 (seenB_set h0 (seenB_set h0 (seenB_set h0 (seenB_set h0 (seenB_set h0 h))))))
theorem seenB_swap {o o' : Obj} (h0 : B < w.heap.size) (h : SeenB B k k0 k1 k2 v (w.alloc o)) : SeenB B k k0 k1 k2 v (w.alloc o') :=
  h.move (fun i v h => by rw [World.cell?_alloc_lt w _ _ h0] at *; exact h)
end
theorem newKS {w w' : World} {t : TypeId} {cs : Array Value} (k : Kept Nil (w.alloc (.cells cs t)) w') : Blk w' w.heap.size t cs := (Blk.new w t cs).kept k id
theorem newKSd {w w' : World} {t : TypeId} {cs : Array Value} (k : Kept Nil (w.alloc (.cells cs t)).drew w') : Blk w' w.heap.size t cs := ((Blk.new w t cs).drew).kept k id
theorem blk_set6 {W : World} {X : Nat} {t : TypeId} {c0 c1 c2 c3 c4 c5 : Value} (b : Blk W X t #[c0, c1, c2, c3, c4, c5]) (v0 v1 v2 v3 v4 v5 : Value) : Blk ((((((W.setCell ⟨X, 0, none⟩ v0).setCell ⟨X, 1, none⟩ v1).setCell ⟨X, 2, none⟩ v2).setCell ⟨X, 3, none⟩ v3).setCell ⟨X, 4, none⟩ v4).setCell ⟨X, 5, none⟩ v5) X t #[v0, v1, v2, v3, v4, v5] := by
  have := ((((((b.set_ 0 v0).set_ 1 v1).set_ 2 v2).set_ 3 v3).set_ 4 v4).set_ 5 v5)
  simpa using this
theorem Kept.set6 {F : Nat → Prop} {a W : World} {X : Nat} (h : Kept F a W) (hX : F X ∨ a.heap.size ≤ X) (v0 v1 v2 v3 v4 v5 : Value) : Kept F a ((((((W.setCell ⟨X, 0, none⟩ v0).setCell ⟨X, 1, none⟩ v1).setCell ⟨X, 2, none⟩ v2).setCell ⟨X, 3, none⟩ v3).setCell ⟨X, 4, none⟩ v4).setCell ⟨X, 5, none⟩ v5) :=
  (((((h.setCell ⟨X, 0, none⟩ hX v0).setCell ⟨X, 1, none⟩ hX v1).setCell ⟨X, 2, none⟩ hX v2).setCell ⟨X, 3, none⟩ hX v3).setCell ⟨X, 4, none⟩ hX v4).setCell ⟨X, 5, none⟩ hX v5
/-- A step of the program is made: its Subs lie in new memory, in other blocks than its own. -/
def MadeS (W0 : World) (h : SH) (n : Nat) (sb : List St) (p : Value) (wx : World) : Prop :=
  ∃ X a2 c2, p = .pointer (some ⟨X, 0, none⟩) ∧ W0.heap.size ≤ X ∧ Kept Nil W0 wx ∧ Blk wx X 59 (arrS h (.slice none 0 0) (.slice a2 n c2)) ∧ SHolds wx (fun b o => okM W0.heap.size wx b o ∧ b ≠ X) (.slice a2 n c2) sb
theorem made_last {W0 w7 : World} {h : SH} {n : Nat} {sb : List St} {a2 : Option Addr} {c2 : Nat} (k7 : Kept Nil W0.drew w7) (h2 : SHolds w7 (okM W0.drew.heap.size w7) (.slice a2 n c2) sb) : MadeS W0 h n sb (.pointer (some ⟨w7.heap.size, 0, none⟩)) (w7.alloc (.cells (arrS h (.slice none 0 0) (.slice a2 n c2)) 59)) := by
  have k0 : Kept Nil W0 w7 := ((Kept.refl Nil W0).drew).trans k7 (fun _ _ g => g)
  refine ⟨w7.heap.size, a2, c2, rfl, k0.size, k0.alloc _, Blk.new _ _ _, (h2.keptN ((Kept.refl Nil w7).alloc _)).mono fun b o hb => ⟨hb.kept ((Kept.refl Nil w7).alloc _) id, by have := hb.2.1; omega⟩⟩
theorem made_first {W0 w7 : World} {h : SH} {n : Nat} {sb : List St} {a2 : Option Addr} {c2 : Nat} (k7 : Kept Nil (W0.alloc (.cells zS 59)).drew w7) (h2 : SHolds w7 (okM (W0.alloc (.cells zS 59)).drew.heap.size w7) (.slice a2 n c2) sb) :
    MadeS W0 h n sb (.pointer (some ⟨W0.heap.size, 0, none⟩)) ((((((w7.setCell ⟨W0.heap.size, 0, none⟩ (.int .i64 h.k)).setCell ⟨W0.heap.size, 1, none⟩ (.int .i64 h.k0)).setCell ⟨W0.heap.size, 2, none⟩ (.int .i64 h.k1)).setCell ⟨W0.heap.size, 3, none⟩ (.int .i64 h.k2)).setCell ⟨W0.heap.size, 4, none⟩ (.slice none 0 0)).setCell ⟨W0.heap.size, 5, none⟩ (.slice a2 n c2)) := by
  have k0 : Kept Nil W0 w7 := (((Kept.refl Nil W0).alloc _).drew).trans k7 (fun _ _ g => g)
  have hs : (W0.alloc (.cells zS 59)).drew.heap.size = W0.heap.size + 1 := by simp
  rw [hs] at h2
  have kS := (Kept.refl (fun k => k = W0.heap.size) w7).set6 (X := W0.heap.size) (.inl rfl) (.int .i64 h.k) (.int .i64 h.k0) (.int .i64 h.k1) (.int .i64 h.k2) (.slice none 0 0) (.slice a2 n c2)
  refine ⟨W0.heap.size, a2, c2, rfl, Nat.le_refl _, k0.set6 (.inr (Nat.le_refl _)) _ _ _ _ _ _, blk_set6 (newKSd k7) _ _ _ _ _ _, (h2.kept kS (fun b o hb e => by have := hb.1; omega)).mono fun b o hb => ⟨(hb.kept kS (fun e => by have := hb.1; omega)).less (by omega), by have := hb.1; omega⟩⟩
abbrev StepsIH (l : List St) : Prop := ∀ hd sb, St.mk hd sb ∈ l → ∀ ok a cap w, SHolds w ok (.slice a sb.length cap) sb → Calls Try.prog 14 #[.slice a sb.length cap] w (StsEnd sb w)
set_option maxHeartbeats 8000000 in
theorem steps_step (l : List St) (hc : massL l ≤ 5000) (IH : Hid (StepsIH l)) (ok : Nat → Nat → Prop) (a : Option Addr) (cap : Nat) (w : World) (h : SHolds w ok (.slice a l.length cap) l) :
    Calls Try.prog 14 #[.slice a l.length cap] w (StsEnd l w) := by
  have HH := Lib.hid h.inb
  have HC := Lib.hid hc
  obtain ⟨len, hlen⟩ : ∃ len, l.length = len := ⟨_, rfl⟩
  rw [hlen] at HH ⊢
  have HL := Lib.hid hlen
  have hLen : len ≤ 5000 := by have := length_massL l; omega
  clear h hc hlen
  go_enter Try.func14, Try.ntmps14
  go_wp2_with fail
  go_loopw [3, 11] (fun u i wr => ∃ (j : Nat) (ps : List SQ), j ≤ len ∧ i = .int .i64 j ∧ trS ps = l.take j ∧ GB kS 59 wr w.heap.size u ps ∧ Kept Nil w wr) (fun _ i _ => len - (intOf i).toNat)
  case atStart => exact ⟨0, [], by omega, rfl, rfl, GB.nil _, Kept.refl _ _⟩
  case round =>
    rename World => wo
    obtain ⟨j, ps, hj, rfl, hps, hG, hK⟩ := hrel
    have HG := Lib.hid hG
    have HK := Lib.hid hK
    have HP := Lib.hid hps
    clear hG hps hK
    have hpl0 : ps.length = j := by have := congrArg List.length HP.out; rw [trS_len, List.length_take] at this; have := HL.out; omega
    obtain ⟨au, cu, rfl, hcu⟩ := HG.out.shape
    rw [hpl0] at HG hcu ⊢
    by_cases hlt : j < len
    · obtain ⟨⟨⟨k', k0', k1', k2', ts'⟩, sb⟩, hx⟩ : ∃ x, l[j]? = some x := ⟨_, List.getElem?_eq_getElem (by have := HL.out; omega)⟩
      obtain ⟨b, o, ta', tc', a', cap', rfl, _, hr, ht, hs⟩ := (HH.out.keptN HK.out).at_ hx
      have hcx : (St.mk ⟨k', k0', k1', k2', ts'⟩ sb).mass ≤ 5000 := Nat.le_trans (mass_mem (List.mem_of_getElem? hx)) HC.out
      have htl' : ts'.length ≤ 5000 := by rw [St.mass] at hcx; exact Nat.le_trans (Nat.le_trans (Nat.le_add_left _ 1) (Nat.le_add_right _ _)) hcx
      have HX0 := IH.out _ _ (List.mem_of_getElem? hx)
      have HX : Hid (∀ W, SHolds W (fun b _ => b < w.heap.size) (.slice a' sb.length cap') sb → Calls Try.prog 14 #[.slice a' sb.length cap'] W fun e w' => ∃ a2 c2, e = .returned (.slice a2 sb.length c2) ∧ SHolds w' (okM W.heap.size w') (.slice a2 sb.length c2) sb ∧ Kept Nil W w') := Lib.hid fun W hW => HX0 _ a' cap' W hW
      have HRow : Hid (wo.rangeAt b (o + j * 6) (cS ⟨k', k0', k1', k2', ts'⟩ (.slice ta' ts'.length tc') (.slice a' sb.length cap'))) := Lib.hid hr
      have HTs : Hid (TsAt wo (fun b _ => b < w.heap.size) (.slice ta' ts'.length tc') ts') := Lib.hid ht
      have HSb : Hid (SHolds wo (fun b _ => b < w.heap.size) (.slice a' sb.length cap') sb) := Lib.hid hs
      have HN : Hid (l.take (j + 1) = l.take j ++ [St.mk ⟨k', k0', k1', k2', ts'⟩ sb]) := Lib.hid (by rw [List.take_add_one, hx]; rfl)
      clear hx hr ht hs hcx HX0
      obtain ⟨tn', htn⟩ : ∃ n, ts'.length = n := ⟨_, rfl⟩
      rw [htn] at HRow HTs htl'
      have HTN := Lib.hid htn
      clear htn
      generalize sb.length = sn' at HRow HX HSb
      go_wp2_with ((with_reducible refine wpList_load_Q rfl (.tmp 13) rfl _ _ rfl ⟨k', k0', k1', k2', ts'⟩ (.slice ta' tn' tc') (.slice a' sn' cap') ?_ ?_)
                   · exact HRow.out)
      obtain ⟨W0, hW0⟩ : ∃ W0, wo.alloc (.cells (arrS ⟨k', k0', k1', k2', ts'⟩ (.slice ta' tn' tc') (.slice a' sn' cap')) 54) = W0 := ⟨_, rfl⟩
      have KW := Lib.hid (show Kept Nil wo W0 by rw [← hW0]; exact (Kept.refl Nil wo).alloc _)
      have BY0 := Lib.hid (show Blk W0 wo.heap.size 54 (arrS ⟨k', k0', k1', k2', ts'⟩ (.slice ta' tn' tc') (.slice a' sn' cap')) by rw [← hW0]; exact Blk.new _ _ _)
      rw [show wo.alloc (.cells #[.int .i64 k', .int .i64 k0', .int .i64 k1', .int .i64 k2', .slice ta' tn' tc', .slice a' sn' cap'] 54) = W0 from hW0]
      have HsW : Hid (W0.heap.size = wo.heap.size + 1) := Lib.hid (by rw [← hW0]; simp)
      have hne : wo.heap.size ≠ W0.heap.size := by have := HsW.out; omega
      have hWlt : wo.heap.size < W0.heap.size := by have := HsW.out; omega
      have HSW := Lib.hid (HSb.out.keptN KW.out)
      have HX2 : Hid (∀ W, Kept Nil W0 W → Calls Try.prog 14 #[.slice a' sn' cap'] W fun e w' => ∃ a2 c2, e = .returned (.slice a2 sn' c2) ∧ SHolds w' (okM W.heap.size w') (.slice a2 sn' c2) sb ∧ Kept Nil W w') := Lib.hid fun W kW => HX.out W (HSW.out.keptN kW)
      have SS : Hid (SeenB wo.heap.size k' k0' k1' k2' (.slice a' sn' cap') W0.drew) := Lib.hid ⟨BY0.out.drew.cell 0, BY0.out.drew.cell 1, BY0.out.drew.cell 2, BY0.out.drew.cell 3, BY0.out.drew.cell 5⟩
      have KD1 := Lib.hid ((Kept.refl Nil W0).drew)
      have KD2 := Lib.hid (((Kept.refl Nil W0).alloc (.cells zS 59)).drew)
      clear hW0 HX
      go_cut [6] from 15 to 22 (fun p wx => MadeS W0 ⟨k', k0', k1', k2', ts'⟩ sn' sb p wx)
      case first =>
        go_region_held3 (SeenB wo.heap.size k' k0' k1' k2' (.slice a' sn' cap'))
          (first | (with_reducible exact SS.out) | (with_reducible exact seenB_set6 hne (by with_reducible assumption)) | (with_reducible exact seenB_kept k7 (by with_reducible assumption)) | (with_reducible exact seenB_alloc _ (by with_reducible assumption)) | (with_reducible exact seenB_da _ (by with_reducible assumption)) | (with_reducible refine seenB_swap ?_ (by with_reducible assumption)) <;> omega)
          (first
            | (go_at_call 14; (first | (with_reducible refine (HX2.out _ KD1.out).mono ?_) | (with_reducible refine (HX2.out _ KD2.out).mono ?_)); rintro e w7 ⟨a2, c2, rfl, h2, k7⟩; have z7 : W0.heap.size ≤ w7.heap.size := (by have := k7.size; (try simp at this); omega); (try (have z8 : W0.heap.size < w7.heap.size := (by have := k7.size; (try simp at this); omega))); first | (with_reducible have A7 := newKSd k7; have a0 := A7.cell 0; have b0 := A7.frozen 0; (try simp at a0); (try simp at b0); have a1 := A7.cell 1; have b1 := A7.frozen 1; (try simp at a1); (try simp at b1); have a2' := A7.cell 2; have b2 := A7.frozen 2; (try simp at a2'); (try simp at b2); have a3 := A7.cell 3; have b3 := A7.frozen 3; (try simp at a3); (try simp at b3); have a4 := A7.cell 4; have b4 := A7.frozen 4; (try simp at a4); (try simp at b4); have a5 := A7.cell 5; have b5 := A7.frozen 5; (try simp at a5); (try simp at b5)) | skip))
        all_goals
          have K7 := Lib.hid k7
          have H7 := Lib.hid h2
          clear k7 h2
          go_wp2_with fail
          go_meet
          first
            | with_reducible exact made_last K7.out H7.out
            | with_reducible exact made_first K7.out H7.out
      case rest =>
        obtain ⟨X, a2, c2, rfl, hX, kX, bX, sX⟩ := hcut
        have KX := Lib.hid kX
        have BX := Lib.hid bX
        have SX := Lib.hid sX
        have y4 := (BY0.out.kept kX id).cell 4
        have hXw : X < wc.heap.size := bX.lt
        have hwx : wo.heap.size < wc.heap.size := by have := kX.size; omega
        have hww : w.heap.size ≤ wo.heap.size := HK.out.size
        have KWX : Hid (Kept Nil wo wc) := Lib.hid (KW.out.trans kX (fun _ _ g => g))
        simp at y4
        clear kX bX sX SS KD1 KD2 HX2 HSW
        go_wp2_with fail
        go_loopw [26] (fun i wt => ∃ (n : Nat) (v : Value), n ≤ tn' ∧ i = .int .i64 n ∧ Blk wt X 59 (arrS ⟨k', k0', k1', k2', ts'⟩ v (.slice a2 sn' c2)) ∧ GB kT 90 wt wc.heap.size v (ts'.take n) ∧ Kept (fun k => k = X) wc wt) (fun i _ => tn' - (intOf i).toNat)
        case atStart => exact ⟨0, .slice none 0 0, by omega, rfl, BX.out, by rw [List.take_zero]; exact GB.nil _, Kept.refl _ _⟩
        case round =>
          obtain ⟨n, v, hn, rfl, hB, hT, hK2⟩ := hrel
          have HB := Lib.hid hB
          have HT := Lib.hid hT
          have HK2 := Lib.hid hK2
          have hs3 : wc.heap.size ≤ wr.heap.size := hK2.size
          have hXr : X < wr.heap.size := hB.lt
          clear hB hT hK2 BX y4
          by_cases hlt2 : n < tn'
          · obtain ⟨⟨t0, t1, t2⟩, hx⟩ : ∃ x, ts'[n]? = some x := ⟨_, List.getElem?_eq_getElem (by have := HTN.out; omega)⟩
            have kot : Kept (fun k => k = X) wo wr := (KWX.out.mono (fun _ _ g => g.elim)).trans HK2.out (fun _ _ g => g)
            obtain ⟨b', o', rfl, _, hr⟩ := (HTs.out.kept kot (fun b o hb e => by omega)).at_ hx
            have HRow2 := Lib.hid hr
            have hlj : (ts'.take n).length = n := by rw [List.length_take]; have := HTN.out; omega
            obtain ⟨av, cv, rfl, _⟩ := HT.out.shape
            rw [hlj] at HB HT
            have HN2 : Hid (ts'.take (n + 1) = ts'.take n ++ [(t0, t1, t2)]) := Lib.hid (by rw [List.take_add_one, hx]; rfl)
            have ka := (Kept.refl Nil wr).alloc (.cells #[.int .i64 t0, .int .i64 t1, .int .i64 t2] 89)
            obtain ⟨_, _, a3, n3, c3, w3, r3, y43, f43, hX3, k3, b3, g3⟩ := GB.round (P := Try.prog) (t := 57) elsT 57 hXw (by have := ka.size; omega) (HB.out.kept ka id) (i := 4) rfl (HT.out.kept ka) (by omega) (Kept.refl Nil _) (Kept.refl Nil _) (t0, t1, t2) #[.int .i64 t0, .int .i64 t1, .int .i64 t2] rfl 90 trivial
            have hsz : (wr.alloc (.cells #[.int .i64 t0, .int .i64 t1, .int .i64 t2] 89)).heap.size = wr.heap.size + 1 := by simp
            rw [hsz] at r3
            have RR := Lib.hid r3
            have G3 := Lib.hid g3
            have B3 : Hid (Blk (w3.setCell ⟨X, 4, none⟩ (.slice a3 n3 c3)) X 59 (arrS ⟨k', k0', k1', k2', ts'⟩ (.slice a3 n3 c3) (.slice a2 sn' c2))) := Lib.hid (by simpa using b3)
            have K3 : Hid (Kept (fun k => k = X) wc (w3.setCell ⟨X, 4, none⟩ (.slice a3 n3 c3))) := Lib.hid ((HK2.out.alloc _).trans k3 (fun i hi e => by
              rcases e with e | e
              · exact e
              · have := HT.out.base i e; omega))
            have y5 := HB.out.cell 4
            simp at y5
            clear hx hr ka r3 g3 b3 k3 hlj HB HT hsz kot
            go_wp2_with (first
              | ((with_reducible refine wpList_load_U rfl (.tmp 28) rfl _ _ rfl t0 t1 t2 ?_ ?_)
                 · exact HRow2.out)
              | (at_builtin; refine wpList_append_run rfl (.tmp 31) (.tmp 39) 57 rfl _ _ rfl rfl RR.out ?_))
            go_roundw
            case rel => exact ⟨n + 1, _, by omega, by go_num, B3.out, by rw [HN2.out]; exact G3.out, K3.out⟩
            case measure => simp [intOf]; omega
          · obtain rfl : tn' = n := by omega
            have HE : Hid (ts'.take tn' = ts') := Lib.hid (by rw [← HTN.out]; simp)
            obtain ⟨av, cv, rfl, _⟩ := HT.out.shape
            rw [HE.out] at HT HB
            rw [HTN.out] at HT HB
            have kor : Kept Nil wo wr := KWX.out.trans HK2.out (fun i hi e => by omega)
            have hq : kS.K wr (okN w.heap.size wr (.slice au j cu)) (St.mk ⟨k', k0', k1', k2', ts'⟩ sb, .slice av tn' cv, .slice a2 sn' c2) :=
              ⟨HT.out.tsAt.mono (fun b o hb => ⟨hb.less (by omega), fun eo => by have := HG.out.lt b eo; have := hb.1; omega⟩), (SX.out.kept HK2.out (fun b o hb => hb.2)).move (fun _ _ _ _ _ h => h) (fun b o hb => ⟨(hb.1.kept HK2.out hb.2).less (by omega), fun eo => by have := HG.out.lt b eo; have := hb.1.1; omega⟩)⟩
            obtain ⟨a3, n3, c3, w3, r3, g3, k3⟩ := GB.append_one (P := Try.prog) (t := 37) elsS 37 (HG.out.kept kor) (St.mk ⟨k', k0', k1', k2', ts'⟩ sb, .slice av tn' cv, .slice a2 sn' c2) (arrS ⟨k', k0', k1', k2', ts'⟩ (.slice av tn' cv) (.slice a2 sn' c2)) rfl 59 hq (by omega) (by omega)
            have RR := Lib.hid r3
            have G3 := Lib.hid g3
            have K3 := Lib.hid ((HK.out.trans kor (fun _ _ g => g)).trans k3 (fun i hi e => by have := HG.out.base i e; omega))
            clear r3 g3 k3 hq kor
            go_wp2_with (first
              | ((with_reducible refine wpList_load_S rfl (.tmp 6) rfl _ _ rfl ⟨k', k0', k1', k2', ts'⟩ (.slice av tn' cv) (.slice a2 sn' c2) ?_ ?_)
                 · exact World.rangeAt_of_block HB.out 0 6)
              | (at_builtin; refine wpList_append_run rfl (.tmp 43) (.tmp 45) 37 rfl _ _ rfl rfl RR.out ?_))
            go_roundw
            case rel =>
              refine ⟨j + 1, ps ++ [(.mk ⟨k', k0', k1', k2', ts'⟩ sb, .slice av tn' cv, .slice a2 sn' c2)], by omega, by go_num, ?_, G3.out, K3.out⟩
              rw [trS_append, HP.out, HN.out]; rfl
            case measure => simp [intOf]; omega
    · obtain rfl : len = j := by omega
      have HE : Hid (trS ps = l) := Lib.hid (by rw [HP.out, ← HL.out]; simp)
      go_wp2_with fail
      go_ret
      have hh := HG.out.sholds
      rw [HE.out] at hh
      exact ⟨au, cu, by rw [HL.out]; rfl, by rw [HL.out]; exact hh, HK.out⟩
theorem steps_tree : ∀ s : St, s.mass ≤ 5001 → ∀ ok a cap w, SHolds w ok (.slice a s.subs.length cap) s.subs → Calls Try.prog 14 #[.slice a s.subs.length cap] w (StsEnd s.subs w) := by
  refine St.ind fun hd subs ih hc ok a cap w h => ?_
  have hc' : 1 + hd.ts.length + massL subs ≤ 5001 := by simpa [St.mass] using hc
  exact steps_step subs (by omega) (Lib.hid fun hd' sb hx => ih _ hx (by have := mass_mem hx; omega)) ok a cap w h
theorem steps_any (l : List St) (hc : massL l ≤ 5000) (ok : Nat → Nat → Prop) (a : Option Addr) (cap : Nat) (w : World) (h : SHolds w ok (.slice a l.length cap) l) : Calls Try.prog 14 #[.slice a l.length cap] w (StsEnd l w) :=
  steps_tree (.mk ⟨0, 0, 0, 0, []⟩ l) (by simp [St.mass]; omega) ok a cap w h
end
end
end Go.Proofs.Ytmpoeibkndcnnaa
