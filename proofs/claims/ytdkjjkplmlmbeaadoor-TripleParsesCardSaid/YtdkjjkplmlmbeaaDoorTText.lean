/- Layer triple: the contract of Text. -/
import Derived.Test.YtdkjjkplmlmbeaaDoorTSame
import Derived.Test.YtdkjjkplmlmbeaaDoorTEnv
import Derived.Laws.Concat
import Derived.Lib.ItoaLen
namespace Go.Proofs.YtdkjjkplmlmbeaaDoor
open Go.RowKit

/-- A triple's text, as it is put together. -/
def txt (t : T3) : ByteArray := nstr t.1 ++ sp ++ nstr t.2.1 ++ sp ++ nstr t.2.2
theorem txt_list (t : T3) : (txt t).data.toList = txtL t := by
  unfold txt txtL nstr sp
  simp

theorem nstr_size {n : Int} (h0 : 1 ≤ n) (h1 : n ≤ 4096) : (nstr n).size ≤ 21 := by
  have := Lib.itoa_length_le n (by omega) (by omega)
  show (Lib.itoa n).toArray.size ≤ 21
  simpa using this

theorem C3.env {w : World} {B : Nat} {x y z : Value} (E : Env w) (n : CW (C3 w B x y z)) : Env n.w := E.kept n.of.2.2.2

set_option maxHeartbeats 1000000 in
theorem text_good (t : T3) (w : World) (E : Env w) (ht : okT t = true) :
    Calls Tryd.prog 8 #[arr t] w fun e w' => e = .returned (.tuple #[.string (txt t), .int .i64 0]) ∧ Kept Nil w w' := by
  obtain ⟨⟨a0, a1⟩, ⟨b0, b1⟩, c0, c1⟩ := okT_iff.1 ht
  have cr : ∀ W : World, Calls Tryd.prog 10 #[arr t] W fun e w' => e = .returned (.bool (okT t)) ∧ Kept Nil W w' := fun W => right_any t W
  rw [ht] at cr
  obtain ⟨a, b, c⟩ := t
  have CR : Hid (∀ W : World, Calls Tryd.prog 10 #[.agg #[.int .i64 a, .int .i64 b, .int .i64 c]] W fun e w' => e = .returned (.bool true) ∧ Kept Nil W w') := Lib.hid cr
  have HX := Lib.hid (show txt (a, b, c) = nstr a ++ sp ++ nstr b ++ sp ++ nstr c from rfl)
  have HE := Lib.hid E
  have za : (nstr a).size ≤ 21 := nstr_size a0 a1
  have zb : (nstr b).size ≤ 21 := nstr_size b0 b1
  have zc : (nstr c).size ≤ 21 := nstr_size c0 c1
  clear cr ht E
  show Calls Tryd.prog 8 #[.agg #[.int .i64 a, .int .i64 b, .int .i64 c]] w _
  go_enter Tryd.func8, Tryd.ntmps8
  go_wp2_with fail
  refine (CR.out _).mono ?_
  rintro e w1 ⟨rfl, hk⟩
  have O := Lib.hid (keep3 (own3a w (.int .i64 a) (.int .i64 b) (.int .i64 c) 23) hk)
  go_wp2_with fail
  refine wp_region_in (C3 w w.heap.size (.int .i64 a) (.int .i64 b) (.int .i64 c)) (by kernel_rfl) (by kernel_rfl) (C3.drew O.out) ?_
  have inst : Nonempty (CW (C3 w w.heap.size (.int .i64 a) (.int .i64 b) (.int .i64 c))) := ⟨⟨_, O.out⟩⟩
  have hc0 : ∀ n : CW (C3 w w.heap.size (.int .i64 a) (.int .i64 b) (.int .i64 c)), n.w.cell? ⟨w.heap.size, 0, none⟩ = some (.int .i64 a) := fun n => n.of.1
  have hc1 : ∀ n : CW (C3 w w.heap.size (.int .i64 a) (.int .i64 b) (.int .i64 c)), n.w.cell? ⟨w.heap.size, 1, none⟩ = some (.int .i64 b) := fun n => n.of.2.1
  have hc2 : ∀ n : CW (C3 w w.heap.size (.int .i64 a) (.int .i64 b) (.int .i64 c)), n.w.cell? ⟨w.heap.size, 2, none⟩ = some (.int .i64 c) := fun n => n.of.2.2.1
  repeat (go_big_quiet_step ((go_at_call 19; exact call_in C3.step (itoa_any _ (by omega) (by omega) _ (C3.env HE.out _)))))
  refine wpQuiet_nil ?_
  rintro _ ⟨n, rfl⟩
  go_wp2
  go_ret2
  exact ⟨rfl, n.of.2.2.2⟩

set_option maxHeartbeats 1000000 in
theorem text_bad (t : T3) (w : World) (ht : okT t = false) :
    Calls Tryd.prog 8 #[arr t] w fun e w' => e = .returned (.tuple #[.string .empty, .int .i64 13]) ∧ Kept Nil w w' := by
  have cr : ∀ W : World, Calls Tryd.prog 10 #[arr t] W fun e w' => e = .returned (.bool (okT t)) ∧ Kept Nil W w' := fun W => right_any t W
  rw [ht] at cr
  obtain ⟨a, b, c⟩ := t
  have CR : Hid (∀ W : World, Calls Tryd.prog 10 #[.agg #[.int .i64 a, .int .i64 b, .int .i64 c]] W fun e w' => e = .returned (.bool false) ∧ Kept Nil W w') := Lib.hid cr
  clear cr ht
  show Calls Tryd.prog 8 #[.agg #[.int .i64 a, .int .i64 b, .int .i64 c]] w _
  go_enter Tryd.func8, Tryd.ntmps8
  go_wp2_with fail
  refine (CR.out _).mono ?_
  rintro e w1 ⟨rfl, hk⟩
  go_wp2_with fail
  go_ret2
  exact ⟨rfl, ((Kept.refl _ _).alloc _).trans hk (fun _ _ g => g)⟩
end Go.Proofs.YtdkjjkplmlmbeaaDoor
