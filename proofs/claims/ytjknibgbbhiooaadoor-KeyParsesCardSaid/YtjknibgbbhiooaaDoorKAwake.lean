/- The law's own example: the key 5 of 7 8 9 is 7 0 9, and its text. -/
import Derived.Test.YtjknibgbbhiooaaDoorKAll
import Derived.Test.YtjknibgbbhiooaaDoorKText
namespace Go.Proofs.YtjknibgbbhiooaaDoor
open Go.RowKit
set_option maxRecDepth 100000

theorem exTxt : ktxt (7, 0, 9) = ⟨#[55, 32, 42, 32, 57]⟩ := by
  have e7 : fstr 7 = ⟨#[55]⟩ := by unfold fstr; rw [ft_num (by decide), itoa_dec (by decide)]; show (⟨(Lib.decDigits 7).toArray⟩ : ByteArray) = _; rw [dec_small (u := 7) (by decide)]; rfl
  have e9 : fstr 9 = ⟨#[57]⟩ := by unfold fstr; rw [ft_num (by decide), itoa_dec (by decide)]; show (⟨(Lib.decDigits 9).toArray⟩ : ByteArray) = _; rw [dec_small (u := 9) (by decide)]; rfl
  show fstr 7 ++ sp ++ fstr 0 ++ sp ++ fstr 9 = _
  rw [e7, e9, fstr_zero]
  rfl
theorem exKey : keyT (7, 8, 9) 5 = (7, 0, 9) := by decide

set_option maxHeartbeats 1000000 in
theorem awake_any (w : World) (E : TabW w) :
    Calls Tryd.prog 10 #[] w fun e w' => e = .returned (.bool true) ∧ Kept Nil w w' := by
  have HE := Lib.hid E
  clear E
  have C1 : Hid (∀ W : World, Calls Tryd.prog 11 #[.agg #[.int .i64 7, .int .i64 8, .int .i64 9]] W (AllEnd (7, 8, 9) W)) := Lib.hid fun W => all_any (7, 8, 9) W
  have C2 : Hid (∀ W : World, TabW W → Calls Tryd.prog 18 #[.agg #[.int .i64 7, .int .i64 0, .int .i64 9]] W fun e w' => e = .returned (.tuple #[.string ⟨#[55, 32, 42, 32, 57]⟩, .int .i64 0]) ∧ Kept Nil W w') := Lib.hid fun W h => by
    have := ktext_good (7, 0, 9) W h (by decide)
    rw [exTxt] at this
    exact this
  have hq : ∀ W, (Op.equalIn 10000 23 (.agg #[.int .i64 7, .int .i64 0, .int .i64 9]) (.agg #[.int .i64 7, .int .i64 0, .int .i64 9])).run Tryd.prog W = .ok true W := fun W => by rw [eqT]; simp
  go_enter Tryd.func10, Tryd.ntmps10
  go_wp2_with fail
  refine (C1.out _).mono ?_
  rintro e w1 ⟨g, cap, rfl, hc, h8, k1⟩
  have H8 := Lib.hid h8
  obtain ⟨q0, q1, q2⟩ := h8 5 (by decide)
  rw [exKey] at q0 q1 q2
  have q0' : w1.cell? ⟨g, 15, none⟩ = some (.int .i64 7) := q0
  have q1' : w1.cell? ⟨g, 16, none⟩ = some (.int .i64 0) := q1
  have q2' : w1.cell? ⟨g, 17, none⟩ = some (.int .i64 9) := q2
  clear q0 q1 q2 h8
  go_wp2_with fail
  refine (C2.out _ (HE.out.kept k1)).mono ?_
  rintro e w2 ⟨rfl, k2⟩
  have hl : g < w1.heap.size := World.block_lt_of_cell? w1 _ q0'
  have p0 : w2.cell? ⟨g, 15, none⟩ = some (.int .i64 7) := by rw [k2.cell hl id]; exact q0'
  have p1 : w2.cell? ⟨g, 16, none⟩ = some (.int .i64 0) := by rw [k2.cell hl id]; exact q1'
  have p2 : w2.cell? ⟨g, 17, none⟩ = some (.int .i64 9) := by rw [k2.cell hl id]; exact q2'
  clear q0' q1' q2'
  go_wp2_with fail
  go_ret
  exact ⟨rfl, k1.trans k2 (fun _ _ g => g)⟩
end Go.Proofs.YtjknibgbbhiooaaDoor
