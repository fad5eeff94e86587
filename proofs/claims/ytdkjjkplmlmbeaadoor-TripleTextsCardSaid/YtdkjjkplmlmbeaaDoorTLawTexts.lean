/- Any triple has its text or none, and is parsed of it: TripleTexts returns true, and writes nothing that was there. No condition but Go's own variables. -/
import Derived.Test.YtdkjjkplmlmbeaaDoorTAwake
import Derived.Test.YtdkjjkplmlmbeaaDoorTDigits
namespace Go.Proofs.YtdkjjkplmlmbeaaDoor
open Go.RowKit

set_option maxRecDepth 100000 in
set_option maxHeartbeats 2000000 in
theorem texts_bad (t : T3) (w : World) (E : Env w) (ht : okT t = false) :
    Calls Tryd.prog 3 #[arr t] w fun e w' => e = .returned (.bool true) ∧ Kept Nil w w' := by
  have cr : ∀ W : World, Calls Tryd.prog 10 #[arr t] W fun e w' => e = .returned (.bool (okT t)) ∧ Kept Nil W w' := fun W => right_any t W
  have cs : ∀ W : World, Calls Tryd.prog 9 #[arr t] W fun e w' => e = .returned (.bool (okT t)) ∧ Kept Nil W w' := fun W => refRight_any t W
  have ct : ∀ W : World, Calls Tryd.prog 8 #[arr t] W fun e w' => e = .returned (.tuple #[.string .empty, .int .i64 13]) ∧ Kept Nil W w' := fun W => text_bad t W ht
  rw [ht] at cr cs
  obtain ⟨a, b, c⟩ := t
  have CR : Hid (∀ W : World, Calls Tryd.prog 10 #[.agg #[.int .i64 a, .int .i64 b, .int .i64 c]] W fun e w' => e = .returned (.bool false) ∧ Kept Nil W w') := Lib.hid cr
  have CS : Hid (∀ W : World, Calls Tryd.prog 9 #[.agg #[.int .i64 a, .int .i64 b, .int .i64 c]] W fun e w' => e = .returned (.bool false) ∧ Kept Nil W w') := Lib.hid cs
  have CT : Hid (∀ W : World, Calls Tryd.prog 8 #[.agg #[.int .i64 a, .int .i64 b, .int .i64 c]] W fun e w' => e = .returned (.tuple #[.string .empty, .int .i64 13]) ∧ Kept Nil W w') := Lib.hid ct
  have CA : Hid (∀ W : World, Env W → Calls Tryd.prog 11 #[] W fun e w' => e = .returned (.bool true) ∧ Kept Nil W w') := Lib.hid fun W h => awake_any W h
  have HE := Lib.hid E
  clear cr cs ct ht E
  show Calls Tryd.prog 3 #[.agg #[.int .i64 a, .int .i64 b, .int .i64 c]] w _
  go_enter Tryd.func3, Tryd.ntmps3
  go_wp2_with fail
  refine (CT.out _).mono ?_
  rintro e w1 ⟨rfl, k1⟩
  have O1 := Lib.hid (keep3 (own3a w (.int .i64 a) (.int .i64 b) (.int .i64 c) 23) k1)
  obtain ⟨x0, x1, x2, _⟩ := O1.out
  go_wp2_with fail
  refine (CS.out _).mono ?_
  rintro e w2 ⟨rfl, k2⟩
  clear x0 x1 x2
  have O2 := Lib.hid (keep3 O1.out k2)
  obtain ⟨x0, x1, x2, _⟩ := O2.out
  go_wp2_with fail
  refine (CR.out _).mono ?_
  rintro e w3 ⟨rfl, k3⟩
  clear x0 x1 x2
  have O3 := Lib.hid (keep3 O2.out k3)
  go_wp2_with fail
  refine (CA.out _ (HE.out.kept O3.out.2.2.2)).mono ?_
  rintro e w4 ⟨rfl, k4⟩
  go_wp2_with fail
  go_ret
  exact ⟨rfl, O3.out.2.2.2.trans k4 (fun _ _ g => g)⟩

theorem txt_size {t : T3} (h : okT t = true) : (txt t).size ≤ 100 := by
  obtain ⟨⟨a0, a1⟩, ⟨b0, b1⟩, c0, c1⟩ := okT_iff.1 h
  have := nstr_size a0 a1
  have := nstr_size b0 b1
  have := nstr_size c0 c1
  have e : sp.size = 1 := rfl
  unfold txt
  simp only [ByteArray.size_append, e]
  omega
theorem parse_txt {t : T3} (h : okT t = true) (W : World) (E : Env W) :
    Calls Tryd.prog 13 #[.string (txt t)] W fun e w' => e = .returned (.tuple #[arr t, .int .i64 0]) ∧ Kept Nil W w' := by
  have hg : good (txt t) = true := by unfold good; rw [txt_list]; exact good_txt h
  have hr : raw (txt t) = t := by rw [← raw_list, txt_list]; exact raw_txt h
  have := parse_any (txt t) (by have := txt_size h; omega) W E
  rw [(parsed_yes hg).1, (parsed_yes hg).2, hr] at this
  exact this

set_option maxRecDepth 100000 in
set_option maxHeartbeats 2000000 in
theorem texts_good (t : T3) (w : World) (E : Env w) (ht : okT t = true) :
    Calls Tryd.prog 3 #[arr t] w fun e w' => e = .returned (.bool true) ∧ Kept Nil w w' := by
  obtain ⟨⟨a0, a1⟩, ⟨b0, b1⟩, c0, c1⟩ := okT_iff.1 ht
  have cr : ∀ W : World, Calls Tryd.prog 10 #[arr t] W fun e w' => e = .returned (.bool (okT t)) ∧ Kept Nil W w' := fun W => right_any t W
  have cs : ∀ W : World, Calls Tryd.prog 9 #[arr t] W fun e w' => e = .returned (.bool (okT t)) ∧ Kept Nil W w' := fun W => refRight_any t W
  have ct : ∀ W : World, Env W → Calls Tryd.prog 8 #[arr t] W fun e w' => e = .returned (.tuple #[.string (txt t), .int .i64 0]) ∧ Kept Nil W w' := fun W h => text_good t W h ht
  have cp : ∀ W : World, Env W → Calls Tryd.prog 13 #[.string (txt t)] W fun e w' => e = .returned (.tuple #[arr t, .int .i64 0]) ∧ Kept Nil W w' := fun W h => parse_txt ht W h
  rw [ht] at cr cs
  obtain ⟨a, b, c⟩ := t
  have CR : Hid (∀ W : World, Calls Tryd.prog 10 #[.agg #[.int .i64 a, .int .i64 b, .int .i64 c]] W fun e w' => e = .returned (.bool true) ∧ Kept Nil W w') := Lib.hid cr
  have CS : Hid (∀ W : World, Calls Tryd.prog 9 #[.agg #[.int .i64 a, .int .i64 b, .int .i64 c]] W fun e w' => e = .returned (.bool true) ∧ Kept Nil W w') := Lib.hid cs
  have CT : Hid (∀ W : World, Env W → Calls Tryd.prog 8 #[.agg #[.int .i64 a, .int .i64 b, .int .i64 c]] W fun e w' => e = .returned (.tuple #[.string (nstr a ++ ⟨#[32]⟩ ++ nstr b ++ ⟨#[32]⟩ ++ nstr c), .int .i64 0]) ∧ Kept Nil W w') := Lib.hid ct
  have CP : Hid (∀ W : World, Env W → Calls Tryd.prog 13 #[.string (nstr a ++ ⟨#[32]⟩ ++ nstr b ++ ⟨#[32]⟩ ++ nstr c)] W fun e w' => e = .returned (.tuple #[.agg #[.int .i64 a, .int .i64 b, .int .i64 c], .int .i64 0]) ∧ Kept Nil W w') := Lib.hid cp
  have CA : Hid (∀ W : World, Env W → Calls Tryd.prog 11 #[] W fun e w' => e = .returned (.bool true) ∧ Kept Nil W w') := Lib.hid fun W h => awake_any W h
  have hq : ∀ W, (Op.equalIn 10000 23 (.agg #[.int .i64 a, .int .i64 b, .int .i64 c]) (.agg #[.int .i64 a, .int .i64 b, .int .i64 c])).run Tryd.prog W = .ok true W := fun W => by rw [eqT]; simp
  have HE := Lib.hid E
  have za : (nstr a).size ≤ 21 := nstr_size a0 a1
  have zb : (nstr b).size ≤ 21 := nstr_size b0 b1
  have zc : (nstr c).size ≤ 21 := nstr_size c0 c1
  clear cr cs ct cp ht E
  show Calls Tryd.prog 3 #[.agg #[.int .i64 a, .int .i64 b, .int .i64 c]] w _
  go_enter Tryd.func3, Tryd.ntmps3
  go_wp2_with fail
  refine (CT.out _ (HE.out.kept ((Kept.refl _ _).alloc _))).mono ?_
  rintro e w1 ⟨rfl, k1⟩
  have O1 := Lib.hid (keep3 (own3a w (.int .i64 a) (.int .i64 b) (.int .i64 c) 23) k1)
  obtain ⟨x0, x1, x2, _⟩ := O1.out
  go_wp2_with fail
  refine (CS.out _).mono ?_
  rintro e w2 ⟨rfl, k2⟩
  clear x0 x1 x2
  have O2 := Lib.hid (keep3 O1.out k2)
  go_wp2_with fail
  refine wp_region_in (C3 w w.heap.size (.int .i64 a) (.int .i64 b) (.int .i64 c)) (by kernel_rfl) (by kernel_rfl) (C3.drew O2.out) ?_
  have inst : Nonempty (CW (C3 w w.heap.size (.int .i64 a) (.int .i64 b) (.int .i64 c))) := ⟨⟨_, O2.out⟩⟩
  have hc0 : ∀ n : CW (C3 w w.heap.size (.int .i64 a) (.int .i64 b) (.int .i64 c)), n.w.cell? ⟨w.heap.size, 0, none⟩ = some (.int .i64 a) := fun n => n.of.1
  have hc1 : ∀ n : CW (C3 w w.heap.size (.int .i64 a) (.int .i64 b) (.int .i64 c)), n.w.cell? ⟨w.heap.size, 1, none⟩ = some (.int .i64 b) := fun n => n.of.2.1
  have hc2 : ∀ n : CW (C3 w w.heap.size (.int .i64 a) (.int .i64 b) (.int .i64 c)), n.w.cell? ⟨w.heap.size, 2, none⟩ = some (.int .i64 c) := fun n => n.of.2.2.1
  repeat (go_big_quiet_step ((go_at_call 12; exact call_in C3.step (digits_int _ (by omega) (by omega) _))))
  refine wpQuiet_nil ?_
  rintro _ ⟨n, rfl⟩
  go_wp2_with fail
  refine (CP.out _ (HE.out.kept n.of.2.2.2)).mono ?_
  rintro e w3 ⟨rfl, k3⟩
  have O3 := Lib.hid (keep3 n.of k3)
  clear hc0 hc1 hc2 inst
  have O3a := Lib.hid (keep3 O3.out ((Kept.refl _ _).alloc (.cells #[.int .i64 a, .int .i64 b, .int .i64 c] 23)))
  obtain ⟨x0, x1, x2, _⟩ := O3.out
  have hl := World.block_lt_of_cell? w3 _ x0
  go_wp2_with fail
  refine (CR.out _).mono ?_
  rintro e w4 ⟨rfl, k4⟩
  clear x0 x1 x2
  have O4 := Lib.hid (keep3 O3a.out k4)
  have P4 := Lib.hid (keep3 (own3a w3 (.int .i64 a) (.int .i64 b) (.int .i64 c) 23) k4)
  obtain ⟨x0, x1, x2, _⟩ := O4.out
  obtain ⟨y0, y1, y2, _⟩ := P4.out
  go_wp2_with fail
  refine (CA.out _ (HE.out.kept O4.out.2.2.2)).mono ?_
  rintro e w5 ⟨rfl, k5⟩
  go_wp2_with fail
  go_ret
  exact ⟨rfl, O4.out.2.2.2.trans k5 (fun _ _ g => g)⟩

theorem lawTexts_any (t : T3) (w : World) (E : Env w) :
    Calls Tryd.prog 3 #[arr t] w fun e w' => e = .returned (.bool true) ∧ Kept Nil w w' := by
  cases h : okT t with
  | true => exact texts_good t w E h
  | false => exact texts_bad t w E h
end Go.Proofs.YtdkjjkplmlmbeaaDoor
