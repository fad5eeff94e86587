/- Whatever the term, TermRight returns true, and writes nothing that was there. No condition. -/
import Derived.Test.YtkfijbinaidaiaaUOpen
namespace Go.Proofs.Ytkfijbinaidaiaa
open Go.RowKit Go.ChangeShapes Go.WideShapes Go.ChangeAt

theorem eqTm (v : Bool) (n : Int) (w : World) : (Op.equalIn 10000 23 (.agg #[.bool v, .int .i64 n]) (.agg #[.bool v, .int .i64 n])).run Try.prog w = .ok true w := by
  rw [run_equalIn_agg w 9999 _ _ _ (by kernel_rfl) (by kernel_rfl)]
  simp [go_sem]

/-- The term's block. -/
def TmC (w : World) (v : Bool) (n : Int) (W : World) : Prop := Blk W w.heap.size 23 #[.bool v, .int .i64 n] ∧ Kept Nil w W
theorem TmC.step {w : World} {v : Bool} {n : Int} (W W' : World) (h : TmC w v n W) (k : Kept Nil W W') : TmC w v n W' := ⟨h.1.kept k id, h.2.trans k (fun _ _ g => g)⟩
theorem TmC.start (w : World) (v : Bool) (n : Int) : TmC w v n (w.alloc (.cells #[.bool v, .int .i64 n] 23)).drew := ⟨(Blk.new w _ _).drew, ((Kept.refl Nil w).alloc _).drew⟩

set_option maxHeartbeats 1000000 in
theorem termRightLaw_any (v : Bool) (n : Int) (w : World) :
    Calls Try.prog 3 #[.bool v, .int .i64 n] w fun e w' => e = .returned (.bool true) ∧ Kept Nil w w' := by
  have HR := Lib.hid (fun W => termRight_any v n W)
  have HF : Hid (∀ W : World, Calls Try.prog 10 #[.agg #[.bool v, .int .i64 n, .bool false, .int .i64 0, .bool false, .int .i64 0]] W fun e w' => e = .returned (.agg #[.int .i64 (isV v), .int .i64 n, .int .i64 0, .int .i64 0, .int .i64 0, .int .i64 0]) ∧ Kept Nil W w') := Lib.hid fun W => ref_any v false false n 0 0 W
  have HQ := Lib.hid (fun W => refRight_any v n W)
  have HS := Lib.hid (fun W => sym_any n W)
  have HV := Lib.hid (fun W => var_any n W)
  have HA := Lib.hid (fun W => awake_any W)
  have O := Lib.hid (TmC.start w v n)
  generalize hr : okTm v n = r at HR HQ
  clear hr
  have hi : ∀ W, (Instr.index 28 (.agg #[.int .i64 (isV v), .int .i64 n, .int .i64 0, .int .i64 0, .int .i64 0, .int .i64 0]) (.int .i64 0)).run Try.prog W = .ok (.agg #[.int .i64 (isV v), .int .i64 n]) W := fun W => by kernel_rfl
  go_enter Try.func3, Try.ntmps3
  go_wp2_with fail
  refine wp_region_in (TmC w v n) (by kernel_rfl) (by kernel_rfl) O.out ?_
  have inst : Nonempty (CW (TmC w v n)) := ⟨⟨_, O.out⟩⟩
  have hx0 : ∀ p : CW (TmC w v n), p.w.cell? ⟨w.heap.size, 0, none⟩ = some (.bool v) := fun p => p.of.1.cell 0
  have hx1 : ∀ p : CW (TmC w v n), p.w.cell? ⟨w.heap.size, 1, none⟩ = some (.int .i64 n) := fun p => p.of.1.cell 1
  repeat (go_big_quiet_step ((first | (go_at_call 8; with_reducible exact call_in TmC.step (HR.out _)) | (go_at_call 10; with_reducible exact call_in TmC.step (HF.out _)) | (go_at_call 9; with_reducible exact call_in TmC.step (HQ.out _)))))
  refine wpQuiet_nil ?_
  rintro _ ⟨p, rfl⟩
  go_wp2_with fail
  refine (HS.out _).mono ?_
  rintro e w2 ⟨rfl, k2⟩
  go_wp2_with fail
  refine (HV.out _).mono ?_
  rintro e w3 ⟨rfl, k3⟩
  go_wp2_with fail
  refine (HA.out _).mono ?_
  rintro e w4 ⟨rfl, k4⟩
  go_wp2_with fail
  go_ret
  exact ⟨rfl, ((p.of.2.trans k2 (fun _ _ g => g)).trans k3 (fun _ _ g => g)).trans k4 (fun _ _ g => g)⟩

set_option maxRecDepth 100000 in
theorem termRight_lifted (os : Os) (started : os.Started) (H : Type) (enc : TypeId × Value → H) :
    ReturnsInHanded {} Try.checked os 3 .any (Rows.termRightSpec.pre6 enc Try.prog Try.f3 Rows.termRightRow.domain false) (Rows.termRightSpec.post enc Try.prog Try.f3 false true false false) := by
  refine returnsInHanded_of_change (C := Try.checked) own started (by kernel_rfl) Try.func3
    (ChangeSpec.witness6 (enc := enc) (C := Try.checked) false ⟨#[], #[(.bool false : Value), (.int .i64 0 : Value)], []⟩ 8 (by kernel_rfl) (by kernel_rfl) (by kernel_rfl) (by kernel_rfl)) ?_
  intro W base args ds gs before hval0 hW hcnd _
  have hval : ∀ (j : Nat) t v, Try.f3.params[j]? = some t → args[j]? = some v → Value.okWide Try.prog W .any base t v := hval0
  have hW' := hW
  obtain ⟨p, q, hA0, hV, rfl, hfz, hnd⟩ := hW
  have hA : DataW.TrodAll enc Try.prog W 0 (fun _ => true) true Try.f3.params.toList args.toList ds p := hA0
  rw [Try.params3] at hA hval
  obtain ⟨v0, vs0, d0, ds0, p0, q0, hargs, rfl, rfl, h0, r0⟩ := trodAll_cons hA
  obtain ⟨v1, vs1, d1, ds1, p1, q1, rfl, rfl, rfl, h1, r1⟩ := trodAll_cons r0
  obtain ⟨rfl, rfl, rfl⟩ := trodAll_nil r1
  obtain rfl : args = #[v0, v1] := by cases args; simp_all
  obtain ⟨rfl, rfl⟩ := trodVars_none hV
  have lt0 : ∀ x ∈ p0, x.block < W.heap.size := by obtain ⟨m, hm⟩ := h0; exact DataW.trod_lt m _ _ _ hm
  have g0 := h0
  obtain ⟨x0, rfl⟩ := okWide_bool Try.underlying4 (hval 0 4 v0 rfl rfl)
  have lt1 : ∀ x ∈ p1, x.block < W.heap.size := by obtain ⟨m, hm⟩ := h1; exact DataW.trod_lt m _ _ _ hm
  have g1 := h1
  obtain ⟨x1, rfl⟩ := okWide_int Try.underlying3 (hval 1 3 v1 rfl rfl)
  refine (termRightLaw_any x0 x1 W).mono fun e W' ⟨he, hk⟩ => ?_
  subst he
  exact ⟨_, rfl, _, _, _, [], _, [], hW', trodAll_mk1 (shut_bool Try.underlying4 _), trodAll_cons_mk (Below.trod laidOut (by kernel_rfl) (of_decide_eq_true (by kernel_rfl)) h0 hk.toBelow lt0) (trodAll_cons_mk (Below.trod laidOut (by kernel_rfl) (of_decide_eq_true (by kernel_rfl)) h1 hk.toBelow lt1) (trodAll_mk0)), rfl, hk.toBelow.frame _, fun h => by cases h⟩

theorem termRight_holds : Rows.TermRightSaid :=
  OpenClaim.holds_of_wide 3 Try.f3 rfl rfl rfl rfl rfl rfl rfl ⟨rfl, rfl, rfl, rfl, rfl⟩ rfl rfl rfl rfl rfl (by kernel_rfl) Try.func3 (by kernel_rfl)
    (of_decide_eq_true (by kernel_rfl)) (by unfold Func.isWrapper; first | (rw [if_neg (of_decide_eq_false (by kernel_rfl))]; exact ⟨rfl, rfl⟩) | (rw [if_pos (by decide +kernel)]; kernel_rfl))
    (fun os started H enc _ => termRight_lifted os started H enc)
#print axioms termRight_holds
end Go.Proofs.Ytkfijbinaidaiaa
