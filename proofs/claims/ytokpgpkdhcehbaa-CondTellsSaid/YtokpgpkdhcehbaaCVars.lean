/- Layer cond: the contract of term.Vars: the variables of three terms, each once, rising, in a row of its own. -/
import Derived.Test.YtokpgpkdhcehbaaCInts
namespace Go.Proofs.Ytokpgpkdhcehbaa
open Go.RowKit Go.Shelf Go.Sort

/-- append at the operation, by an equation on its run. -/
theorem wpList_append_run {P : Program} {w : World} {ops : Array Oper} {rest : List Oper} {o : Oper} {a : Act} {Q : Exit → Act → World → Prop} (hgd : o.guard = none) (s x : Operand) (t : TypeId)
    (ho : o.op = .call { callee := .builtin .append, args := #[s, x], argTypes := #[t, t] }) (v y : Value) (hs : a.eval s = v) (hx : a.eval x = y) {v' : Value} {w' : World}
    (hr : (Builtin.append_ #[t, t] o.type #[v, y]).run P w = .ok v' w') (h : wpList P ops Q rest (a.put o.dst v') w') : wpList P ops Q (o :: rest) a w := by
  refine wpList_plain hgd fun K hK => ?_
  unfold Oper.wp execOp
  simp only [ho, resolve, invoke, builtin, Sem.run_bind, Sem.run_pure, Result.andThen_ok, List.map_toArray, List.map_cons, List.map_nil, hs, hx, hr]
  exact hK _ _ h
/-- The variables among the first k terms. -/
def varsTo (k : Nat) (x0 x1 x2 : Bool) (n0 n1 n2 : Int) : List Int := (if decide (0 < k) && x0 then [n0] else []) ++ ((if decide (1 < k) && x1 then [n1] else []) ++ (if decide (2 < k) && x2 then [n2] else []))
theorem varsTo_zero (x0 x1 x2 : Bool) (n0 n1 n2 : Int) : varsTo 0 x0 x1 x2 n0 n1 n2 = [] := rfl
theorem varsTo_len (k : Nat) (x0 x1 x2 : Bool) (n0 n1 n2 : Int) : (varsTo k x0 x1 x2 n0 n1 n2).length ≤ 3 := by
  have h : ∀ (b : Bool) (n : Int), (if b then [n] else ([] : List Int)).length ≤ 1 := fun b n => by cases b <;> simp
  unfold varsTo
  rw [List.length_append, List.length_append]
  have h0 := h (decide (0 < k) && x0) n0
  have h1 := h (decide (1 < k) && x1) n1
  have h2 := h (decide (2 < k) && x2) n2
  omega
/-- All of them, each once, rising. -/
def varsC (x0 x1 x2 : Bool) (n0 n1 n2 : Int) : List Int := Lib.compact ((varsTo 3 x0 x1 x2 n0 n1 n2).mergeSort fun x y => decide (x ≤ y))

theorem varsTo_succ {k : Nat} (hk : k < 3) (x0 x1 x2 : Bool) (n0 n1 n2 : Int) : ∃ v n, varsTo (k + 1) x0 x1 x2 n0 n1 n2 = varsTo k x0 x1 x2 n0 n1 n2 ++ (if v then [n] else []) ∧
    (∀ w, (Instr.index 24 (.agg #[.bool x0, .int .i64 n0, .bool x1, .int .i64 n1, .bool x2, .int .i64 n2]) (.int .i64 k)).run Try.prog w = .ok (.agg #[.bool v, .int .i64 n]) w) := by
  have : k = 0 ∨ k = 1 ∨ k = 2 := by omega
  rcases this with rfl | rfl | rfl
  · exact ⟨x0, n0, by unfold varsTo; simp, fun w => by kernel_rfl⟩
  · exact ⟨x1, n1, by unfold varsTo; simp, fun w => by kernel_rfl⟩
  · exact ⟨x2, n2, by unfold varsTo; simp, fun w => by kernel_rfl⟩
set_option maxHeartbeats 2000000 in
theorem vars_any (x0 x1 x2 : Bool) (n0 n1 n2 : Int) (w : World) :
    Calls Try.prog 33 #[valL x0 x1 x2 n0 n1 n2] w fun e w' => ∃ v, e = .returned v ∧ IRow w' w.heap.size v (varsC x0 x1 x2 n0 n1 n2) ∧ Kept Nil w w' := by
  have K0 := Lib.hid ((Kept.refl Nil w).alloc (.cells #[.bool x0, .int .i64 n0, .bool x1, .int .i64 n1, .bool x2, .int .i64 n2] 24))
  go_enter Try.func33, Try.ntmps33
  go_wp2_with fail
  go_loopw [3, 7] (fun v i wr => ∃ k : Nat, k ≤ 3 ∧ i = .int .i64 k ∧ IRow wr w.heap.size v (varsTo k x0 x1 x2 n0 n1 n2) ∧ Kept Nil w wr) (fun _ i _ => 3 - (intOf i).toNat)
  case atStart => exact ⟨0, by omega, rfl, World.ownsRow_nil _ _ _ _, K0.out⟩
  case round =>
    obtain ⟨k, hk, rfl, hR, hK⟩ := hrel
    have HR := Lib.hid hR
    have HK := Lib.hid hK
    clear hR hK K0
    by_cases hlt : k < 3
    · obtain ⟨v, n, hM, hidx⟩ := varsTo_succ hlt x0 x1 x2 n0 n1 n2
      have HM := Lib.hid hM
      clear hM
      cases v
      · go_wp2_with fail
        go_roundw
        case rel => exact ⟨k + 1, by omega, by go_num, by rw [HM.out]; simpa using HR.out.kept ((Kept.refl _ _).alloc _), HK.out.alloc _⟩
        case measure => simp [intOf]; omega
      · have R1 := Lib.hid (appendI_one (wr.alloc (.cells #[.bool true, .int .i64 n] 23)) (HR.out.kept ((Kept.refl _ _).alloc _)) (by have := HK.out.size; simp; omega) (by have := varsTo_len k x0 x1 x2 n0 n1 n2; omega) n)
        obtain ⟨v', w', r1, o1, g1⟩ := R1.out
        have RR : Hid ((Builtin.append_ #[40, 40] 40 #[u3, .slice (some ⟨wr.heap.size + 1, 0, none⟩) 1 1]).run Try.prog ((wr.alloc (.cells #[.bool true, .int .i64 n] 23)).alloc (.cells #[.int .i64 n] 3)) = .ok v' w') := Lib.hid (by simpa using r1)
        have O1 := Lib.hid o1
        have G1 := Lib.hid g1
        clear r1 o1 g1 R1
        go_wp2_with (at_builtin; refine wpList_append_run rfl (.tmp 12) (.tmp 15) 40 rfl _ _ rfl rfl RR.out ?_)
        go_roundw
        case rel => exact ⟨k + 1, by omega, by go_num, by rw [HM.out]; exact O1.out, ((HK.out.alloc _).alloc _).grown G1.out (fun i hi => .inr (HR.out.own i hi))⟩
        case measure => simp [intOf]; omega
    · obtain rfl : k = 3 := by omega
      have HL3 := Lib.hid (varsTo_len 3 x0 x1 x2 n0 n1 n2)
      have CS := Lib.hid (sort_any HR.out (by have := HL3.out; omega))
      have HO := Lib.hid (fun i (hi : u3.ownBlock = some i) => HR.out.own i hi)
      go_wp2_with fail
      refine CS.out.mono ?_
      rintro e w2 ⟨rfl, h2, k2⟩
      have CC := Lib.hid (compact_any h2 (by rw [List.length_mergeSort]; have := HL3.out; omega))
      have K2 := Lib.hid (HK.out.trans k2 (fun i hi e => by have := HO.out i e; omega))
      clear h2 k2 CS
      go_wp2_with fail
      refine CC.out.mono ?_
      rintro e w3 ⟨a, cap, rfl, h3, k3⟩
      have H3 := Lib.hid h3
      have K3 := Lib.hid (K2.out.trans k3 (fun i hi e => by have := HO.out i e; omega))
      clear h3 k3 CC
      go_wp2_with fail
      go_ret
      exact ⟨_, rfl, H3.out, K3.out⟩
end Go.Proofs.Ytokpgpkdhcehbaa
