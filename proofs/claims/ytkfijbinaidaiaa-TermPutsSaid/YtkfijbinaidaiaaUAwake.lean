/- Layer term: the law's own example; two bindings held against each other by ==. -/
import Derived.Test.YtkfijbinaidaiaaUFit
import Derived.Test.YtkfijbinaidaiaaURef
import Derived.ChangeKeysEq
import Derived.Laws.StructEq
namespace Go.Proofs.Ytkfijbinaidaiaa
open Go.RowKit

theorem infoInt : (Try.prog.info? 3).isSome = true := by kernel_rfl
theorem cellsInt : Try.prog.cellsOf 3 = 1 := by kernel_rfl
theorem partInt (xs : Array Value) (i : Nat) (v : Value) (h : xs[i]? = some v) (w : World) : (part 3 xs i).run Try.prog w = .ok v w := by
  simp [part, isAgg, run_underlying Try.underlying3, h]
theorem eqItemsB (a b : Bd) (w : World) : ∀ l : List Nat, (∀ k ∈ l, k < 33) → (Op.eqItems 9999 3 1 (cellsB a) (cellsB b) l).run Try.prog w = .ok (l.all fun k => decide (a k = b k)) w
  | [], _ => by simp [Op.eqItems]
  | k :: r, h => by
    have hk := h k (by simp)
    have e : ∀ x y : Int, (Op.equalIn 9999 3 (.int .i64 x) (.int .i64 y)).run Try.prog w = .ok (x == y) w := fun x y => run_equalIn_int w 9998 3 .i64 .i64 x y Try.underlying3
    have pa := partInt (cellsB a) k _ (cellsB_get a hk) w
    have pb := partInt (cellsB b) k _ (cellsB_get b hk) w
    have ih := eqItemsB a b w r (fun q hq => h q (by simp [hq]))
    by_cases hab : a k = b k
    · simp [Op.eqItems, pa, pb, e, hab, ih]
    · simp [Op.eqItems, pa, pb, e, hab]
theorem eqB (a b : Bd) (w : World) : (Op.equalIn 10000 37 (.agg (cellsB a)) (.agg (cellsB b))).run Try.prog w = .ok (sameB a b) w := by
  obtain ⟨i, hi⟩ := Option.isSome_iff_exists.1 infoInt
  rw [run_equalIn_array w 9999 _ _ Try.underlying37 hi, cellsInt]
  exact eqItemsB a b w _ (fun k hk => by simpa using hk)
theorem sameB_refl (a : Bd) : sameB a a = true := sameB_iff.2 fun _ _ => rfl

/-- The example's binding. -/
def exB : Bd := upd zeroB 1 5
theorem ex_run : runL (fl true false true 1 2 1 5 2 5) zeroB = some exB := by
  have s1 : step1 (true, ((1 : Nat) : Int)) 5 zeroB = some exB := step1_new (by decide) rfl
  have s2 : step1 (false, 2) 2 exB = some exB := step1_sym (by decide) rfl
  have s3 : step1 (true, ((1 : Nat) : Int)) 5 exB = some exB := step1_old (by decide) (by decide) (by decide)
  show (step1 (true, ((1 : Nat) : Int)) 5 zeroB).bind _ = _
  rw [s1]
  show (step1 (false, 2) 2 exB).bind _ = _
  rw [s2]
  show (step1 (true, ((1 : Nat) : Int)) 5 exB).bind _ = _
  rw [s3]
  rfl
theorem built0 : Try.prog.built 37 [] = some (cellsB zeroB) := by kernel_rfl
theorem built1 : Try.prog.built 37 [(0, .int .i64 0), (1, .int .i64 5)] = some (cellsB exB) := by kernel_rfl
theorem wpList_build_bind0 {ops : Array Oper} {rest : List Oper} {o : Oper} {a : Act} {w : World} {Q : Exit → Act → World → Prop} (hg : o.guard = none) (ho : o.op = .build 37 #[])
    (h : wpList Try.prog ops Q rest (a.put o.dst (.agg (cellsB zeroB))) w) : wpList Try.prog ops Q (o :: rest) a w := by
  refine wpList_build hg _ _ ho ?_ ?_
  · simp [built0]
  · simpa [built0] using h
theorem wpList_build_bind1 {ops : Array Oper} {rest : List Oper} {o : Oper} {a : Act} {w : World} {Q : Exit → Act → World → Prop} (hw : Region.wanted o (yielded ops a.tmps) = true)
    (ho : o.op = .build 37 #[(0, .const (.int .i64 0)), (1, .const (.int .i64 5))])
    (h : wpList Try.prog ops Q rest (a.put o.dst (.agg (cellsB exB))) w) : wpList Try.prog ops Q (o :: rest) a w := by
  refine BigFrame.wpList_want hw fun K hK => ?_
  refine wp_build _ _ ho ?_ ?_
  · simp [BigFrame.eval_const, built1]
  · have := hK _ _ h
    simpa [BigFrame.eval_const, built1] using this
theorem wpList_load_bindG {ops : Array Oper} {rest : List Oper} {o : Oper} {a : Act} {w : World} {Q : Exit → Act → World → Prop} (hw : Region.wanted o (yielded ops a.tmps) = true) (x : Operand) (ho : o.op = .load 37 x)
    (g : Nat) (hx : a.eval x = .pointer (some ⟨g, 0, none⟩)) (b : Bd) (hg : Blk w g 37 (cellsB b))
    (h : wpList Try.prog ops Q rest (a.put o.dst (.agg (cellsB b))) w) : wpList Try.prog ops Q (o :: rest) a w :=
  BigFrame.wpList_want hw fun _ hK => wp_load_row _ x ho g hx _ _ _ _ hg Try.underlying37 rfl (infoB b) (hK _ _ h)

set_option maxRecDepth 100000 in
set_option maxHeartbeats 1000000 in
theorem awake_any (w : World) :
    Calls Try.prog 13 #[] w fun e w' => e = .returned (.bool true) ∧ Kept Nil w w' := by
  have CF : Hid (∀ W : World, Calls Try.prog 17 #[.agg #[.bool true, .int .i64 1, .bool false, .int .i64 2, .bool true, .int .i64 1], .agg #[.int .i64 5, .int .i64 2, .int .i64 5], .agg (cellsB zeroB)] W fun e w' => e = .returned (.tuple #[.agg (cellsB exB), .bool true]) ∧ Kept Nil W w') := Lib.hid fun W => by
    refine (fit_any true false true 1 2 1 5 2 5 zeroB W).mono ?_
    rintro e w' ⟨he, k⟩
    rw [(fit_some ex_run).1, (fit_some ex_run).2] at he
    exact ⟨he, k⟩
  have V1 : Hid (∀ W : World, Calls Try.prog 12 #[.int .i64 1] W fun e w' => e = .returned (.agg #[.bool true, .int .i64 1]) ∧ Kept Nil W w') := Lib.hid fun W => var_any 1 W
  have S2 : Hid (∀ W : World, Calls Try.prog 11 #[.int .i64 2] W fun e w' => e = .returned (.agg #[.bool false, .int .i64 2]) ∧ Kept Nil W w') := Lib.hid fun W => sym_any 2 W
  have hq : ∀ W, (Op.equalIn 10000 37 (.agg (cellsB exB)) (.agg (cellsB exB))).run Try.prog W = .ok true W := fun W => by rw [eqB, sameB_refl]
  go_enter Try.func13, Try.ntmps13
  go_wp2_with fail
  refine (V1.out _).mono ?_
  rintro e w1 ⟨rfl, k1⟩
  go_wp2_with fail
  refine (S2.out _).mono ?_
  rintro e w2 ⟨rfl, k2⟩
  go_wp2_with fail
  refine (V1.out _).mono ?_
  rintro e w3 ⟨rfl, k3⟩
  go_wp2_with (with_reducible refine wpList_build_bind0 rfl rfl ?_)
  refine (CF.out _).mono ?_
  rintro e w4 ⟨rfl, k4⟩
  have K4 := Lib.hid (((k1.trans k2 (fun _ _ g => g)).trans k3 (fun _ _ g => g)).trans k4 (fun _ _ g => g))
  clear k1 k2 k3 k4
  go_wp2_with (first
    | ((with_reducible refine wpList_alloc_bind rfl rfl _ ?_ ?_)
       · simp; rfl)
    | ((with_reducible refine wpList_store_bindW rfl _ _ rfl _ exB rfl rfl zeroB ?_ ?_)
       · exact Blk.new _ _ _
       intro W kW bW
       have KW := Lib.hid kW
       have BW := Lib.hid bW
       clear kW bW)
    | ((refine wpList_load_bindG (by rfl) (.tmp 1) (by rfl) _ (by rfl) exB ?_ ?_)
       · exact BW.out)
    | (refine wpList_build_bind1 (by rfl) (by rfl) ?_))
  go_ret
  exact ⟨rfl, (K4.out.alloc _).trans KW.out (fun i hi e => by have := K4.out.size; omega)⟩
end Go.Proofs.Ytkfijbinaidaiaa
