/- The law's own examples: the text 3 1 4096 is a triple's, 03 1 2 is none's. -/
import Derived.Test.YtdkjjkplmlmbeaaDoorTParse
import Derived.Test.YtdkjjkplmlmbeaaDoorTEq
namespace Go.Proofs.YtdkjjkplmlmbeaaDoor
open Go.RowKit

def ex1 : ByteArray := ⟨#[51, 32, 49, 32, 52, 48, 57, 54]⟩
def ex2 : ByteArray := ⟨#[48, 51, 32, 49, 32, 50]⟩
theorem ex1_txt : txtL (3, 1, 4096) = ex1.data.toList := by
  unfold txtL
  rw [itoa_dec (by decide), itoa_dec (by decide), itoa_dec (by decide)]
  show Lib.decDigits 3 ++ 32 :: (Lib.decDigits 1 ++ 32 :: Lib.decDigits 4096) = _
  rw [dec_small (u := 3) (by decide), dec_small (u := 1) (by decide), dec_big (u := 4096) (by decide), dec_big (u := 4096 / 10) (by decide), dec_big (u := 4096 / 10 / 10) (by decide), dec_small (u := 4096 / 10 / 10 / 10) (by decide)]
  rfl
theorem ok1 : okT (3, 1, 4096) = true := by decide
theorem ex1_good : good ex1 = true := by unfold good; rw [← ex1_txt]; exact good_txt ok1
theorem ex1_raw : raw ex1 = (3, 1, 4096) := by rw [← raw_list, ← ex1_txt]; exact raw_txt ok1
theorem ex2_bad : good ex2 = false := by
  cases h : good ex2 with
  | false => rfl
  | true => exact absurd rfl (good_head h)

set_option maxRecDepth 100000 in
set_option maxHeartbeats 1000000 in
theorem awake_any (w : World) (E : Env w) :
    Calls Tryd.prog 11 #[] w fun e w' => e = .returned (.bool true) ∧ Kept Nil w w' := by
  have HE := Lib.hid E
  clear E
  have C1 : Hid (∀ W : World, Env W → Calls Tryd.prog 13 #[.string ⟨#[51, 32, 49, 32, 52, 48, 57, 54]⟩] W fun e w' => e = .returned (.tuple #[.agg #[.int .i64 3, .int .i64 1, .int .i64 4096], .int .i64 0]) ∧ Kept Nil W w') := Lib.hid fun W h => by
    have := parse_any ex1 (by decide) W h
    rw [(parsed_yes ex1_good).1, (parsed_yes ex1_good).2, ex1_raw] at this
    exact this
  have C2 : Hid (∀ W : World, Env W → Calls Tryd.prog 13 #[.string ⟨#[48, 51, 32, 49, 32, 50]⟩] W fun e w' => e = .returned (.tuple #[.agg #[.int .i64 0, .int .i64 0, .int .i64 0], .int .i64 14]) ∧ Kept Nil W w') := Lib.hid fun W h => by
    have := parse_any ex2 (by decide) W h
    rw [(parsed_no ex2_bad).1, (parsed_no ex2_bad).2] at this
    exact this
  go_enter Tryd.func11, Tryd.ntmps11
  go_wp2_with fail
  refine (C1.out _ HE.out).mono ?_
  rintro e w1 ⟨rfl, k1⟩
  go_wp2_with fail
  refine (C2.out _ (HE.out.kept (k1.alloc _))).mono ?_
  rintro e w2 ⟨rfl, k2⟩
  have O := Lib.hid (keep3 (own3a w1 (.int .i64 3) (.int .i64 1) (.int .i64 4096) 23) k2)
  obtain ⟨c0, c1, c2, _⟩ := O.out
  have hl := World.block_lt_of_cell? w2 _ c0
  have hq : ∀ W, (Op.equalIn 10000 23 (.agg #[.int .i64 3, .int .i64 1, .int .i64 4096]) (.agg #[.int .i64 3, .int .i64 1, .int .i64 4096])).run Tryd.prog W = .ok true W := fun W => by rw [eqT]; simp
  have k3 := Lib.hid (((k1.alloc (.cells #[.int .i64 3, .int .i64 1, .int .i64 4096] 23)).trans k2 (fun _ _ g => g)).alloc (.cells #[.int .i64 0, .int .i64 0, .int .i64 0] 23))
  go_wp2_with fail
  go_ret
  exact ⟨rfl, k3.out⟩
end Go.Proofs.YtdkjjkplmlmbeaaDoor
