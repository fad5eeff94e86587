/- Layer 18: what the reference answers. -/
import Derived.Test.YtljefbfjehblpaaHA
namespace Go.Proofs.Ytljefbfjehblpaa
open Go.RowKit
set_option maxRecDepth 100000
theorem refFits_0000 (a b : Int) (_ : 0 < a) (_ : 0 < b) (w : World) :
    Calls Try.prog 15 #[.agg #[.int .i64 0, .int .i64 0], .int .i64 a, .int .i64 b] w fun e w' => e = .returned (.bool false) ∧ Kept Nil w w' := by
  go_enter Try.func15, Try.ntmps15
  go_wp2_with fail
  go_ret
  exact ⟨rfl, (Kept.refl _ _).alloc _⟩
theorem refFits_0001 (a b : Int) (_ : 0 < a) (_ : b ≤ 0) (w : World) :
    Calls Try.prog 15 #[.agg #[.int .i64 0, .int .i64 0], .int .i64 a, .int .i64 b] w fun e w' => e = .returned (.bool false) ∧ Kept Nil w w' := by
  go_enter Try.func15, Try.ntmps15
  go_wp2_with fail
  go_ret
  exact ⟨rfl, (Kept.refl _ _).alloc _⟩
theorem refFits_0010 (a b : Int) (_ : a ≤ 0) (_ : 0 < b) (w : World) :
    Calls Try.prog 15 #[.agg #[.int .i64 0, .int .i64 0], .int .i64 a, .int .i64 b] w fun e w' => e = .returned (.bool false) ∧ Kept Nil w w' := by
  go_enter Try.func15, Try.ntmps15
  go_wp2_with fail
  go_ret
  exact ⟨rfl, (Kept.refl _ _).alloc _⟩
theorem refFits_0011 (a b : Int) (_ : a ≤ 0) (_ : b ≤ 0) (w : World) :
    Calls Try.prog 15 #[.agg #[.int .i64 0, .int .i64 0], .int .i64 a, .int .i64 b] w fun e w' => e = .returned (.bool false) ∧ Kept Nil w w' := by
  go_enter Try.func15, Try.ntmps15
  go_wp2_with fail
  go_ret
  exact ⟨rfl, (Kept.refl _ _).alloc _⟩
theorem refFits_0100 (a b : Int) (_ : 0 < a) (_ : 0 < b) (w : World) :
    Calls Try.prog 15 #[.agg #[.int .i64 0, .int .i64 1], .int .i64 a, .int .i64 b] w fun e w' => e = .returned (.bool false) ∧ Kept Nil w w' := by
  go_enter Try.func15, Try.ntmps15
  go_wp2_with fail
  go_ret
  exact ⟨rfl, (Kept.refl _ _).alloc _⟩
theorem refFits_0101 (a b : Int) (_ : 0 < a) (_ : b ≤ 0) (w : World) :
    Calls Try.prog 15 #[.agg #[.int .i64 0, .int .i64 1], .int .i64 a, .int .i64 b] w fun e w' => e = .returned (.bool false) ∧ Kept Nil w w' := by
  go_enter Try.func15, Try.ntmps15
  go_wp2_with fail
  go_ret
  exact ⟨rfl, (Kept.refl _ _).alloc _⟩
theorem refFits_0110 (a b : Int) (_ : a ≤ 0) (_ : 0 < b) (w : World) :
    Calls Try.prog 15 #[.agg #[.int .i64 0, .int .i64 1], .int .i64 a, .int .i64 b] w fun e w' => e = .returned (.bool true) ∧ Kept Nil w w' := by
  go_enter Try.func15, Try.ntmps15
  go_wp2_with fail
  go_ret
  exact ⟨rfl, (Kept.refl _ _).alloc _⟩
theorem refFits_0111 (a b : Int) (_ : a ≤ 0) (_ : b ≤ 0) (w : World) :
    Calls Try.prog 15 #[.agg #[.int .i64 0, .int .i64 1], .int .i64 a, .int .i64 b] w fun e w' => e = .returned (.bool true) ∧ Kept Nil w w' := by
  go_enter Try.func15, Try.ntmps15
  go_wp2_with fail
  go_ret
  exact ⟨rfl, (Kept.refl _ _).alloc _⟩
theorem refFits_1000 (a b : Int) (_ : 0 < a) (_ : 0 < b) (w : World) :
    Calls Try.prog 15 #[.agg #[.int .i64 1, .int .i64 0], .int .i64 a, .int .i64 b] w fun e w' => e = .returned (.bool false) ∧ Kept Nil w w' := by
  go_enter Try.func15, Try.ntmps15
  go_wp2_with fail
  go_ret
  exact ⟨rfl, (Kept.refl _ _).alloc _⟩
theorem refFits_1001 (a b : Int) (_ : 0 < a) (_ : b ≤ 0) (w : World) :
    Calls Try.prog 15 #[.agg #[.int .i64 1, .int .i64 0], .int .i64 a, .int .i64 b] w fun e w' => e = .returned (.bool true) ∧ Kept Nil w w' := by
  go_enter Try.func15, Try.ntmps15
  go_wp2_with fail
  go_ret
  exact ⟨rfl, (Kept.refl _ _).alloc _⟩
theorem refFits_1010 (a b : Int) (_ : a ≤ 0) (_ : 0 < b) (w : World) :
    Calls Try.prog 15 #[.agg #[.int .i64 1, .int .i64 0], .int .i64 a, .int .i64 b] w fun e w' => e = .returned (.bool false) ∧ Kept Nil w w' := by
  go_enter Try.func15, Try.ntmps15
  go_wp2_with fail
  go_ret
  exact ⟨rfl, (Kept.refl _ _).alloc _⟩
theorem refFits_1011 (a b : Int) (_ : a ≤ 0) (_ : b ≤ 0) (w : World) :
    Calls Try.prog 15 #[.agg #[.int .i64 1, .int .i64 0], .int .i64 a, .int .i64 b] w fun e w' => e = .returned (.bool true) ∧ Kept Nil w w' := by
  go_enter Try.func15, Try.ntmps15
  go_wp2_with fail
  go_ret
  exact ⟨rfl, (Kept.refl _ _).alloc _⟩
theorem refFits_1100 (a b : Int) (_ : 0 < a) (_ : 0 < b) (w : World) :
    Calls Try.prog 15 #[.agg #[.int .i64 1, .int .i64 1], .int .i64 a, .int .i64 b] w fun e w' => e = .returned (.bool true) ∧ Kept Nil w w' := by
  go_enter Try.func15, Try.ntmps15
  go_wp2_with fail
  go_ret
  exact ⟨rfl, (Kept.refl _ _).alloc _⟩
theorem refFits_1101 (a b : Int) (_ : 0 < a) (_ : b ≤ 0) (w : World) :
    Calls Try.prog 15 #[.agg #[.int .i64 1, .int .i64 1], .int .i64 a, .int .i64 b] w fun e w' => e = .returned (.bool true) ∧ Kept Nil w w' := by
  go_enter Try.func15, Try.ntmps15
  go_wp2_with fail
  go_ret
  exact ⟨rfl, (Kept.refl _ _).alloc _⟩
theorem refFits_1110 (a b : Int) (_ : a ≤ 0) (_ : 0 < b) (w : World) :
    Calls Try.prog 15 #[.agg #[.int .i64 1, .int .i64 1], .int .i64 a, .int .i64 b] w fun e w' => e = .returned (.bool true) ∧ Kept Nil w w' := by
  go_enter Try.func15, Try.ntmps15
  go_wp2_with fail
  go_ret
  exact ⟨rfl, (Kept.refl _ _).alloc _⟩
theorem refFits_1111 (a b : Int) (_ : a ≤ 0) (_ : b ≤ 0) (w : World) :
    Calls Try.prog 15 #[.agg #[.int .i64 1, .int .i64 1], .int .i64 a, .int .i64 b] w fun e w' => e = .returned (.bool true) ∧ Kept Nil w w' := by
  go_enter Try.func15, Try.ntmps15
  go_wp2_with fail
  go_ret
  exact ⟨rfl, (Kept.refl _ _).alloc _⟩
theorem refItems_000 (o a b c : Int) (_ : 0 < a) (_ : 0 < b) (w : World) :
    Calls Try.prog 11 #[.agg #[.int .i64 o, .int .i64 0], .int .i64 a, .int .i64 b, .int .i64 c] w fun e w' => e = .returned (.agg #[.int .i64 o, .int .i64 0]) ∧ Kept Nil w w' := by
  go_enter Try.func11, Try.ntmps11
  go_wp2_with fail
  exact bodyPost_ret (results_cell_row Try.results11 _ _ _ _ _ _ _ rfl (hn1 _ _ _) Try.underlying27 rfl (by kernel_rfl)) rfl ⟨rfl, ((Kept.refl _ _).alloc _).alloc _⟩
theorem refItems_001 (o a b c : Int) (_ : 0 < a) (_ : b ≤ 0) (w : World) :
    Calls Try.prog 11 #[.agg #[.int .i64 o, .int .i64 0], .int .i64 a, .int .i64 b, .int .i64 c] w fun e w' => e = .returned (.agg #[.int .i64 o, .int .i64 0]) ∧ Kept Nil w w' := by
  go_enter Try.func11, Try.ntmps11
  go_wp2_with fail
  exact bodyPost_ret (results_cell_row Try.results11 _ _ _ _ _ _ _ rfl (hn1 _ _ _) Try.underlying27 rfl (by kernel_rfl)) rfl ⟨rfl, ((Kept.refl _ _).alloc _).alloc _⟩
theorem refItems_010 (o a b c : Int) (_ : a ≤ 0) (_ : 0 < b) (w : World) :
    Calls Try.prog 11 #[.agg #[.int .i64 o, .int .i64 0], .int .i64 a, .int .i64 b, .int .i64 c] w fun e w' => e = .returned (.agg #[.int .i64 o, .int .i64 0]) ∧ Kept Nil w w' := by
  go_enter Try.func11, Try.ntmps11
  go_wp2_with fail
  exact bodyPost_ret (results_cell_row Try.results11 _ _ _ _ _ _ _ rfl (hn1 _ _ _) Try.underlying27 rfl (by kernel_rfl)) rfl ⟨rfl, ((Kept.refl _ _).alloc _).alloc _⟩
theorem refItems_011 (o a b c : Int) (_ : a ≤ 0) (_ : b ≤ 0) (w : World) :
    Calls Try.prog 11 #[.agg #[.int .i64 o, .int .i64 0], .int .i64 a, .int .i64 b, .int .i64 c] w fun e w' => e = .returned (.agg #[.int .i64 o, .int .i64 0]) ∧ Kept Nil w w' := by
  go_enter Try.func11, Try.ntmps11
  go_wp2_with fail
  exact bodyPost_ret (results_cell_row Try.results11 _ _ _ _ _ _ _ rfl (hn1 _ _ _) Try.underlying27 rfl (by kernel_rfl)) rfl ⟨rfl, ((Kept.refl _ _).alloc _).alloc _⟩
theorem refItems_100 (o a b c : Int) (_ : 0 < a) (_ : 0 < b) (w : World) :
    Calls Try.prog 11 #[.agg #[.int .i64 o, .int .i64 1], .int .i64 a, .int .i64 b, .int .i64 c] w fun e w' => e = .returned (.agg #[.int .i64 o, .int .i64 1]) ∧ Kept Nil w w' := by
  go_enter Try.func11, Try.ntmps11
  go_wp2_with fail
  exact bodyPost_ret (results_cell_row Try.results11 _ _ _ _ _ _ _ rfl (hn1 _ _ _) Try.underlying27 rfl (by kernel_rfl)) rfl ⟨rfl, ((Kept.refl _ _).alloc _).alloc _⟩
theorem refItems_101 (o a b c : Int) (_ : 0 < a) (_ : b ≤ 0) (w : World) :
    Calls Try.prog 11 #[.agg #[.int .i64 o, .int .i64 1], .int .i64 a, .int .i64 b, .int .i64 c] w fun e w' => e = .returned (.agg #[.int .i64 0, .int .i64 1]) ∧ Kept Nil w w' := by
  go_enter Try.func11, Try.ntmps11
  go_wp2_with fail
  exact bodyPost_ret (results_cell_row Try.results11 _ _ _ _ _ _ _ rfl (hn1 _ _ _) Try.underlying27 rfl (by kernel_rfl)) rfl ⟨rfl, ((Kept.refl _ _).alloc _).alloc _⟩
theorem refItems_1100 (o a b c : Int) (_ : a ≤ 0) (_ : 0 < b) (_ : 0 < c) (w : World) :
    Calls Try.prog 11 #[.agg #[.int .i64 o, .int .i64 1], .int .i64 a, .int .i64 b, .int .i64 c] w fun e w' => e = .returned (.agg #[.int .i64 1, .int .i64 1]) ∧ Kept Nil w w' := by
  go_enter Try.func11, Try.ntmps11
  go_wp2_with fail
  exact bodyPost_ret (results_cell_row Try.results11 _ _ _ _ _ _ _ rfl (hn1 _ _ _) Try.underlying27 rfl (by kernel_rfl)) rfl ⟨rfl, ((Kept.refl _ _).alloc _).alloc _⟩
theorem refItems_1101 (o a b c : Int) (_ : a ≤ 0) (_ : 0 < b) (_ : c ≤ 0) (w : World) :
    Calls Try.prog 11 #[.agg #[.int .i64 o, .int .i64 1], .int .i64 a, .int .i64 b, .int .i64 c] w fun e w' => e = .returned (.agg #[.int .i64 1, .int .i64 0]) ∧ Kept Nil w w' := by
  go_enter Try.func11, Try.ntmps11
  go_wp2_with fail
  exact bodyPost_ret (results_cell_row Try.results11 _ _ _ _ _ _ _ rfl (hn1 _ _ _) Try.underlying27 rfl (by kernel_rfl)) rfl ⟨rfl, ((Kept.refl _ _).alloc _).alloc _⟩
theorem refItems_111 (o a b c : Int) (_ : a ≤ 0) (_ : b ≤ 0) (w : World) :
    Calls Try.prog 11 #[.agg #[.int .i64 o, .int .i64 1], .int .i64 a, .int .i64 b, .int .i64 c] w fun e w' => e = .returned (.agg #[.int .i64 o, .int .i64 1]) ∧ Kept Nil w w' := by
  go_enter Try.func11, Try.ntmps11
  go_wp2_with fail
  exact bodyPost_ret (results_cell_row Try.results11 _ _ _ _ _ _ _ rfl (hn1 _ _ _) Try.underlying27 rfl (by kernel_rfl)) rfl ⟨rfl, ((Kept.refl _ _).alloc _).alloc _⟩
theorem refAbove_000 (o a b c : Int) (_ : 0 < a) (_ : 0 < b) (w : World) :
    Calls Try.prog 13 #[.agg #[.int .i64 0, .int .i64 o], .int .i64 a, .int .i64 b, .int .i64 c] w fun e w' => e = .returned (.agg #[.int .i64 0, .int .i64 o]) ∧ Kept Nil w w' := by
  go_enter Try.func13, Try.ntmps13
  go_wp2_with fail
  exact bodyPost_ret (results_cell_row Try.results13 _ _ _ _ _ _ _ rfl (hn1 _ _ _) Try.underlying27 rfl (by kernel_rfl)) rfl ⟨rfl, ((Kept.refl _ _).alloc _).alloc _⟩
theorem refAbove_001 (o a b c : Int) (_ : 0 < a) (_ : b ≤ 0) (w : World) :
    Calls Try.prog 13 #[.agg #[.int .i64 0, .int .i64 o], .int .i64 a, .int .i64 b, .int .i64 c] w fun e w' => e = .returned (.agg #[.int .i64 0, .int .i64 o]) ∧ Kept Nil w w' := by
  go_enter Try.func13, Try.ntmps13
  go_wp2_with fail
  exact bodyPost_ret (results_cell_row Try.results13 _ _ _ _ _ _ _ rfl (hn1 _ _ _) Try.underlying27 rfl (by kernel_rfl)) rfl ⟨rfl, ((Kept.refl _ _).alloc _).alloc _⟩
theorem refAbove_010 (o a b c : Int) (_ : a ≤ 0) (_ : 0 < b) (w : World) :
    Calls Try.prog 13 #[.agg #[.int .i64 0, .int .i64 o], .int .i64 a, .int .i64 b, .int .i64 c] w fun e w' => e = .returned (.agg #[.int .i64 0, .int .i64 o]) ∧ Kept Nil w w' := by
  go_enter Try.func13, Try.ntmps13
  go_wp2_with fail
  exact bodyPost_ret (results_cell_row Try.results13 _ _ _ _ _ _ _ rfl (hn1 _ _ _) Try.underlying27 rfl (by kernel_rfl)) rfl ⟨rfl, ((Kept.refl _ _).alloc _).alloc _⟩
theorem refAbove_011 (o a b c : Int) (_ : a ≤ 0) (_ : b ≤ 0) (w : World) :
    Calls Try.prog 13 #[.agg #[.int .i64 0, .int .i64 o], .int .i64 a, .int .i64 b, .int .i64 c] w fun e w' => e = .returned (.agg #[.int .i64 0, .int .i64 o]) ∧ Kept Nil w w' := by
  go_enter Try.func13, Try.ntmps13
  go_wp2_with fail
  exact bodyPost_ret (results_cell_row Try.results13 _ _ _ _ _ _ _ rfl (hn1 _ _ _) Try.underlying27 rfl (by kernel_rfl)) rfl ⟨rfl, ((Kept.refl _ _).alloc _).alloc _⟩
theorem refAbove_100 (o a b c : Int) (_ : 0 < a) (_ : 0 < b) (w : World) :
    Calls Try.prog 13 #[.agg #[.int .i64 1, .int .i64 o], .int .i64 a, .int .i64 b, .int .i64 c] w fun e w' => e = .returned (.agg #[.int .i64 1, .int .i64 o]) ∧ Kept Nil w w' := by
  go_enter Try.func13, Try.ntmps13
  go_wp2_with fail
  exact bodyPost_ret (results_cell_row Try.results13 _ _ _ _ _ _ _ rfl (hn1 _ _ _) Try.underlying27 rfl (by kernel_rfl)) rfl ⟨rfl, ((Kept.refl _ _).alloc _).alloc _⟩
theorem refAbove_101 (o a b c : Int) (_ : 0 < a) (_ : b ≤ 0) (w : World) :
    Calls Try.prog 13 #[.agg #[.int .i64 1, .int .i64 o], .int .i64 a, .int .i64 b, .int .i64 c] w fun e w' => e = .returned (.agg #[.int .i64 1, .int .i64 0]) ∧ Kept Nil w w' := by
  go_enter Try.func13, Try.ntmps13
  go_wp2_with fail
  exact bodyPost_ret (results_cell_row Try.results13 _ _ _ _ _ _ _ rfl (hn1 _ _ _) Try.underlying27 rfl (by kernel_rfl)) rfl ⟨rfl, ((Kept.refl _ _).alloc _).alloc _⟩
theorem refAbove_1100 (o a b c : Int) (_ : a ≤ 0) (_ : 0 < b) (_ : 0 < c) (w : World) :
    Calls Try.prog 13 #[.agg #[.int .i64 1, .int .i64 o], .int .i64 a, .int .i64 b, .int .i64 c] w fun e w' => e = .returned (.agg #[.int .i64 1, .int .i64 1]) ∧ Kept Nil w w' := by
  go_enter Try.func13, Try.ntmps13
  go_wp2_with fail
  exact bodyPost_ret (results_cell_row Try.results13 _ _ _ _ _ _ _ rfl (hn1 _ _ _) Try.underlying27 rfl (by kernel_rfl)) rfl ⟨rfl, ((Kept.refl _ _).alloc _).alloc _⟩
theorem refAbove_1101 (o a b c : Int) (_ : a ≤ 0) (_ : 0 < b) (_ : c ≤ 0) (w : World) :
    Calls Try.prog 13 #[.agg #[.int .i64 1, .int .i64 o], .int .i64 a, .int .i64 b, .int .i64 c] w fun e w' => e = .returned (.agg #[.int .i64 0, .int .i64 1]) ∧ Kept Nil w w' := by
  go_enter Try.func13, Try.ntmps13
  go_wp2_with fail
  exact bodyPost_ret (results_cell_row Try.results13 _ _ _ _ _ _ _ rfl (hn1 _ _ _) Try.underlying27 rfl (by kernel_rfl)) rfl ⟨rfl, ((Kept.refl _ _).alloc _).alloc _⟩
theorem refAbove_111 (o a b c : Int) (_ : a ≤ 0) (_ : b ≤ 0) (w : World) :
    Calls Try.prog 13 #[.agg #[.int .i64 1, .int .i64 o], .int .i64 a, .int .i64 b, .int .i64 c] w fun e w' => e = .returned (.agg #[.int .i64 1, .int .i64 o]) ∧ Kept Nil w w' := by
  go_enter Try.func13, Try.ntmps13
  go_wp2_with fail
  exact bodyPost_ret (results_cell_row Try.results13 _ _ _ _ _ _ _ rfl (hn1 _ _ _) Try.underlying27 rfl (by kernel_rfl)) rfl ⟨rfl, ((Kept.refl _ _).alloc _).alloc _⟩
theorem zr_cases (n : Int) : (n ≤ 0 ∧ zr n = true) ∨ (0 < n ∧ zr n = false) := by
  by_cases h : n ≤ 0
  · exact .inl ⟨h, zr_yes h⟩
  · exact .inr ⟨by omega, zr_no (by omega)⟩
theorem refFits_any (p : Bool × Bool) (a b : Int) (w : World) :
    Calls Try.prog 15 #[vR p, .int .i64 a, .int .i64 b] w fun e w' => e = .returned (.bool (fitsF p (zr a) (zr b))) ∧ Kept Nil w w' := by
  obtain ⟨l, r⟩ := p
  rcases zr_cases a with ⟨ha, ea⟩ | ⟨ha, ea⟩ <;> rcases zr_cases b with ⟨hb, eb⟩ | ⟨hb, eb⟩ <;> rw [ea, eb] <;> cases l <;> cases r
  · exact refFits_0011 a b ha hb w
  · exact refFits_0111 a b ha hb w
  · exact refFits_1011 a b ha hb w
  · exact refFits_1111 a b ha hb w
  · exact refFits_0010 a b ha hb w
  · exact refFits_0110 a b ha hb w
  · exact refFits_1010 a b ha hb w
  · exact refFits_1110 a b ha hb w
  · exact refFits_0001 a b ha hb w
  · exact refFits_0101 a b ha hb w
  · exact refFits_1001 a b ha hb w
  · exact refFits_1101 a b ha hb w
  · exact refFits_0000 a b ha hb w
  · exact refFits_0100 a b ha hb w
  · exact refFits_1000 a b ha hb w
  · exact refFits_1100 a b ha hb w
theorem refItems_any (p : Bool × Bool) (a b c : Int) (w : World) :
    Calls Try.prog 11 #[vR p, .int .i64 a, .int .i64 b, .int .i64 c] w fun e w' => e = .returned (vR (itemsF p (zr a) (zr b) (zr c))) ∧ Kept Nil w w' := by
  obtain ⟨l, r⟩ := p
  rcases zr_cases a with ⟨ha, ea⟩ | ⟨ha, ea⟩ <;> rcases zr_cases b with ⟨hb, eb⟩ | ⟨hb, eb⟩ <;> rcases zr_cases c with ⟨hc, ec⟩ | ⟨hc, ec⟩ <;> rw [ea, eb, ec] <;> cases l <;> cases r
  · exact refItems_011 0 a b c ha hb w
  · exact refItems_111 0 a b c ha hb w
  · exact refItems_011 1 a b c ha hb w
  · exact refItems_111 1 a b c ha hb w
  · exact refItems_011 0 a b c ha hb w
  · exact refItems_111 0 a b c ha hb w
  · exact refItems_011 1 a b c ha hb w
  · exact refItems_111 1 a b c ha hb w
  · exact refItems_010 0 a b c ha hb w
  · exact refItems_1101 0 a b c ha hb hc w
  · exact refItems_010 1 a b c ha hb w
  · exact refItems_1101 1 a b c ha hb hc w
  · exact refItems_010 0 a b c ha hb w
  · exact refItems_1100 0 a b c ha hb hc w
  · exact refItems_010 1 a b c ha hb w
  · exact refItems_1100 1 a b c ha hb hc w
  · exact refItems_001 0 a b c ha hb w
  · exact refItems_101 0 a b c ha hb w
  · exact refItems_001 1 a b c ha hb w
  · exact refItems_101 1 a b c ha hb w
  · exact refItems_001 0 a b c ha hb w
  · exact refItems_101 0 a b c ha hb w
  · exact refItems_001 1 a b c ha hb w
  · exact refItems_101 1 a b c ha hb w
  · exact refItems_000 0 a b c ha hb w
  · exact refItems_100 0 a b c ha hb w
  · exact refItems_000 1 a b c ha hb w
  · exact refItems_100 1 a b c ha hb w
  · exact refItems_000 0 a b c ha hb w
  · exact refItems_100 0 a b c ha hb w
  · exact refItems_000 1 a b c ha hb w
  · exact refItems_100 1 a b c ha hb w
theorem refAbove_any (p : Bool × Bool) (a b c : Int) (w : World) :
    Calls Try.prog 13 #[vR p, .int .i64 a, .int .i64 b, .int .i64 c] w fun e w' => e = .returned (vR (aboveF p (zr a) (zr b) (zr c))) ∧ Kept Nil w w' := by
  obtain ⟨l, r⟩ := p
  rcases zr_cases a with ⟨ha, ea⟩ | ⟨ha, ea⟩ <;> rcases zr_cases b with ⟨hb, eb⟩ | ⟨hb, eb⟩ <;> rcases zr_cases c with ⟨hc, ec⟩ | ⟨hc, ec⟩ <;> rw [ea, eb, ec] <;> cases l <;> cases r
  · exact refAbove_011 0 a b c ha hb w
  · exact refAbove_011 1 a b c ha hb w
  · exact refAbove_111 0 a b c ha hb w
  · exact refAbove_111 1 a b c ha hb w
  · exact refAbove_011 0 a b c ha hb w
  · exact refAbove_011 1 a b c ha hb w
  · exact refAbove_111 0 a b c ha hb w
  · exact refAbove_111 1 a b c ha hb w
  · exact refAbove_010 0 a b c ha hb w
  · exact refAbove_010 1 a b c ha hb w
  · exact refAbove_1101 0 a b c ha hb hc w
  · exact refAbove_1101 1 a b c ha hb hc w
  · exact refAbove_010 0 a b c ha hb w
  · exact refAbove_010 1 a b c ha hb w
  · exact refAbove_1100 0 a b c ha hb hc w
  · exact refAbove_1100 1 a b c ha hb hc w
  · exact refAbove_001 0 a b c ha hb w
  · exact refAbove_001 1 a b c ha hb w
  · exact refAbove_101 0 a b c ha hb w
  · exact refAbove_101 1 a b c ha hb w
  · exact refAbove_001 0 a b c ha hb w
  · exact refAbove_001 1 a b c ha hb w
  · exact refAbove_101 0 a b c ha hb w
  · exact refAbove_101 1 a b c ha hb w
  · exact refAbove_000 0 a b c ha hb w
  · exact refAbove_000 1 a b c ha hb w
  · exact refAbove_100 0 a b c ha hb w
  · exact refAbove_100 1 a b c ha hb w
  · exact refAbove_000 0 a b c ha hb w
  · exact refAbove_000 1 a b c ha hb w
  · exact refAbove_100 0 a b c ha hb w
  · exact refAbove_100 1 a b c ha hb w
theorem eqLink (p q : Bool × Bool) (w : World) : (Op.equalIn 10000 23 (.agg #[.bool p.1, .bool p.2]) (.agg #[.bool q.1, .bool q.2])).run Try.prog w = .ok (decide (p = q)) w := by
  have eb : ∀ x y : Bool, (Op.equalIn 9999 4 (.bool x) (.bool y)).run Try.prog w = .ok (x == y) w := fun x y => run_equalIn_bool w 9998 4 x y Try.underlying4
  rw [run_equalIn_struct w 9999 _ _ _ (by kernel_rfl) (by kernel_rfl)]
  simp only [Program.fieldsOf, Try.underlying23]
  obtain ⟨a, b⟩ := p
  obtain ⟨c, d⟩ := q
  cases a <;> cases b <;> cases c <;> cases d <;> simp [Op.eqFields, part, isAgg, run_underlying Try.underlying4, eb]
theorem eqRef (a b : Int) (w : World) : (Op.equalIn 10000 27 (.agg #[.int .i64 a, .int .i64 b]) (.agg #[.int .i64 a, .int .i64 b])).run Try.prog w = .ok true w := by
  have e : ∀ x y : Int, (Op.equalIn 9999 3 (.int .i64 x) (.int .i64 y)).run Try.prog w = .ok (x == y) w := fun x y => run_equalIn_int w 9998 3 .i64 .i64 x y Try.underlying3
  rw [run_equalIn_struct w 9999 _ _ _ (by kernel_rfl) (by kernel_rfl)]
  simp [Program.fieldsOf, Try.underlying27, Op.eqFields, part, isAgg, run_underlying Try.underlying3, e]
set_option maxHeartbeats 4000000 in
theorem awake_any (w : World) : Calls Try.prog 16 #[] w fun e w' => e = .returned (.bool true) ∧ Kept Nil w w' := by
  have C1 : Hid (∀ W, Calls Try.prog 8 #[.int .i64 0, .int .i64 0] W fun e w' => e = .returned (.agg #[.bool true, .bool false]) ∧ Kept Nil W w') := Lib.hid fun W => start_any 0 0 W
  have C2 : Hid (∀ W, Calls Try.prog 10 #[.agg #[.bool true, .bool false], .int .i64 0, .int .i64 1, .int .i64 0] W fun e w' => e = .returned (.agg #[.bool true, .bool false]) ∧ Kept Nil W w') := Lib.hid fun W => items_any (true, false) 0 1 0 W
  have C3 : Hid (∀ W, Calls Try.prog 12 #[.agg #[.bool true, .bool false], .int .i64 0, .int .i64 1, .int .i64 1] W fun e w' => e = .returned (.agg #[.bool true, .bool true]) ∧ Kept Nil W w') := Lib.hid fun W => above_any (true, false) 0 1 1 W
  have e1 : ∀ W, (Op.equalIn 10000 23 (.agg #[.bool true, .bool false]) (.agg #[.bool true, .bool false])).run Try.prog W = .ok true W := fun W => eqLink (true, false) (true, false) W
  have e2 : ∀ W, (Op.equalIn 10000 23 (.agg #[.bool true, .bool true]) (.agg #[.bool true, .bool true])).run Try.prog W = .ok true W := fun W => eqLink (true, true) (true, true) W
  go_enter Try.func16, Try.ntmps16
  go_wp2_with fail
  refine (C1.out _).mono ?_
  rintro e w1 ⟨rfl, k1⟩
  have K1 := Lib.hid (k1.alloc (.cells #[.bool true, .bool false] 23))
  have B1 := Lib.hid (Blk.new w1 23 #[.bool true, .bool false])
  clear k1
  go_wp2_with fail
  generalize w1.alloc (.cells #[.bool true, .bool false] 23) = W1 at *
  generalize w1.heap.size = b1 at *
  refine (C2.out _).mono ?_
  rintro e w2 ⟨rfl, k2⟩
  have K2 := Lib.hid ((K1.out.trans k2 (fun _ _ g => g)).alloc (.cells #[.bool true, .bool false] 23))
  have B2 := Lib.hid (Blk.new w2 23 #[.bool true, .bool false])
  have B12 := Lib.hid ((B1.out.kept k2 id).alloc (.cells #[.bool true, .bool false] 23))
  clear k2 B1 K1
  go_wp2_with fail
  generalize w2.alloc (.cells #[.bool true, .bool false] 23) = W2 at *
  generalize w2.heap.size = b2 at *
  refine (C3.out _).mono ?_
  rintro e w3 ⟨rfl, k3⟩
  have K3 := Lib.hid (K2.out.trans k3 (fun _ _ g => g))
  have B13 := B12.out.kept k3 id
  have B23 := B2.out.kept k3 id
  have x0 := B13.cell 0
  have x1 := B13.cell 1
  have y0 := B23.cell 0
  have y1 := B23.cell 1
  simp only [List.getElem?_toArray, List.getElem?_cons_zero, List.getElem?_cons_succ] at x0 x1 y0 y1
  have l1 := B13.lt
  have l2 := B23.lt
  clear k3 B2 K2 B12 B13 B23
  go_wp2_with fail
  go_ret
  exact ⟨rfl, K3.out.alloc _⟩
end Go.Proofs.Ytljefbfjehblpaa
