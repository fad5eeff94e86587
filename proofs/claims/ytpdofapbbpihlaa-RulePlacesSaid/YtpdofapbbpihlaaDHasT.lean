/- Layer rule: whether a variable is one of a condition's three terms, by slices.Contains, and by the program's closure over it. -/
import Derived.Test.YtpdofapbbpihlaaDWaysM
namespace Go.Proofs.Ytpdofapbbpihlaa
open Go.RowKit

theorem eqTm4 (x y : Bool) (n m : Int) (w : World) : (Op.equalIn 10000 42 (.agg #[.bool x, .int .i64 n]) (.agg #[.bool y, .int .i64 m])).run Try.prog w = .ok (decide (x = y ∧ n = m)) w := by
  have e : ∀ x y : Int, (Op.equalIn 9999 3 (.int .i64 x) (.int .i64 y)).run Try.prog w = .ok (x == y) w := fun x y => run_equalIn_int w 9998 3 .i64 .i64 x y Try.underlying3
  have eb : ∀ x y : Bool, (Op.equalIn 9999 4 (.bool x) (.bool y)).run Try.prog w = .ok (x == y) w := fun x y => run_equalIn_bool w 9998 4 x y Try.underlying4
  rw [run_equalIn_struct w 9999 _ _ _ (by kernel_rfl) (by kernel_rfl)]
  simp only [Program.fieldsOf, Try.underlying42]
  by_cases h : x = y
  · subst h
    by_cases hn : n = m <;> simp [Op.eqFields, part, isAgg, run_underlying Try.underlying3, run_underlying Try.underlying4, e, eb, hn]
  · simp [Op.eqFields, part, isAgg, run_underlying Try.underlying3, run_underlying Try.underlying4, eb, h]
theorem eqlTm (x y : Bool) (n m : Int) (b : Bool) (hb : decide (x = y ∧ n = m) = b) (w : World) : (binOp .eql 42 (.agg #[.bool x, .int .i64 n]) (.agg #[.bool y, .int .i64 m])).run Try.prog w = .ok (.bool b) w := by
  rw [run_eql_struct, eqTm4, hb]; rfl
theorem Blk.drewN {w : World} {g n : Nat} {t : TypeId} {cs : Array Value} (h : Blk w g t cs) : Blk (w.drewN n) g t cs := h
theorem ownN_three (x0 x1 x2 : Bool) (n0 n1 n2 v : Int) : ownN x0 x1 x2 n0 n1 n2 v = (decide (true = x0 ∧ v = n0) || (decide (true = x1 ∧ v = n1) || decide (true = x2 ∧ v = n2))) := by
  have key : ∀ (x : Bool) (n : Int), (x && n == v) = decide (true = x ∧ v = n) := fun x n => by
    rw [Bool.eq_iff_iff]
    cases x
    · simp
    · simp only [Bool.true_and, beq_iff_eq, true_and, decide_eq_true_eq]; exact ⟨Eq.symm, Eq.symm⟩
  unfold ownN
  rw [key, key, key]
/-- The first of three that is so; -1 if none is. -/
def first3 (b0 b1 b2 : Bool) : Int := if b0 then 0 else if b1 then 1 else if b2 then 2 else -1
abbrev arr8 (h : Hd) (u : Value) : Array Value := #[.int .i64 h.k, .bool h.x0, .int .i64 h.n0, .bool h.x1, .int .i64 h.n1, .bool h.x2, .int .i64 h.n2, u]
set_option maxHeartbeats 1000000 in
theorem index3_any (k : Int) (x0 x1 x2 : Bool) (n0 n1 n2 : Int) (u : Value) (v : Int) (G : Nat) (w : World) (h : Blk w G 45 (arr8 ⟨k, x0, x1, x2, n0, n1, n2⟩ u)) :
    Calls Try.prog 55 #[.slice (some ⟨G, 1, none⟩) 3 3, .agg #[.bool true, .int .i64 v]] w fun e w' => e = .returned (.int .i64 (first3 (decide (true = x0 ∧ v = n0)) (decide (true = x1 ∧ v = n1)) (decide (true = x2 ∧ v = n2)))) ∧ Kept Nil w w' := by
  generalize hb0 : decide (true = x0 ∧ v = n0) = b0
  generalize hb1 : decide (true = x1 ∧ v = n1) = b1
  generalize hb2 : decide (true = x2 ∧ v = n2) = b2
  have E0 := Lib.hid (fun W => eqlTm true x0 v n0 b0 hb0 W)
  have E1 := Lib.hid (fun W => eqlTm true x1 v n1 b1 hb1 W)
  have E2 := Lib.hid (fun W => eqlTm true x2 v n2 b2 hb2 W)
  clear hb0 hb1 hb2
  have B0 := Lib.hid (h.alloc (.cells #[.bool true, .int .i64 v] 42))
  have B1 := Lib.hid (Blk.new w 42 #[.bool true, .int .i64 v])
  have K0 := Lib.hid ((Kept.refl Nil w).alloc (.cells #[.bool true, .int .i64 v] 42))
  clear h
  go_enter Try.func55, Try.ntmps55
  go_wp2_with fail
  go_loopw [5, 8] (fun _ i wr => ((i = .int .i64 0) ∨ (i = .int .i64 1 ∧ b0 = false) ∨ (i = .int .i64 2 ∧ b0 = false ∧ b1 = false) ∨ (i = .int .i64 3 ∧ b0 = false ∧ b1 = false ∧ b2 = false)) ∧ Blk wr G 45 (arr8 ⟨k, x0, x1, x2, n0, n1, n2⟩ u) ∧ Blk wr w.heap.size 42 #[.bool true, .int .i64 v] ∧ Kept Nil w wr) (fun _ i _ => (3 - intOf i).toNat)
  case atStart => exact ⟨.inl rfl, B0.out, B1.out, K0.out⟩
  case round =>
    obtain ⟨hrel, hB, hB1, hK⟩ := hrel
    have HB := Lib.hid hB
    have HB1 := Lib.hid hB1
    have HK := Lib.hid hK
    have z0 := hB1.cell 0
    have z1 := hB1.cell 1
    simp at z0 z1
    clear hB1 hK B0 B1 K0
    rcases hrel with rfl | ⟨rfl, rfl⟩ | ⟨rfl, rfl, rfl⟩ | ⟨rfl, rfl, rfl, rfl⟩
    · have c0 := hB.cell 1
      have c1 := hB.cell 2
      simp at c0 c1
      clear hB
      have e0 := E0.out
      cases b0
      · go_wp2_with fail
        go_quiet (fail)
        go_wp2_with fail
        go_roundw
        case rel => exact ⟨by simp, Blk.drewN HB.out, Blk.drewN HB1.out, HK.out.drewN _⟩
        case measure => decide
      · go_wp2_with fail
        go_quiet (fail)
        go_wp2_with fail
        go_ret
        exact ⟨rfl, HK.out.drewN _⟩
    · have c0 := hB.cell 3
      have c1 := hB.cell 4
      simp at c0 c1
      clear hB
      have e1 := E1.out
      cases b1
      · go_wp2_with fail
        go_quiet (fail)
        go_wp2_with fail
        go_roundw
        case rel => exact ⟨by simp, Blk.drewN HB.out, Blk.drewN HB1.out, HK.out.drewN _⟩
        case measure => decide
      · go_wp2_with fail
        go_quiet (fail)
        go_wp2_with fail
        go_ret
        exact ⟨rfl, HK.out.drewN _⟩
    · have c0 := hB.cell 5
      have c1 := hB.cell 6
      simp at c0 c1
      clear hB
      have e2 := E2.out
      cases b2
      · go_wp2_with fail
        go_quiet (fail)
        go_wp2_with fail
        go_roundw
        case rel => exact ⟨by simp, Blk.drewN HB.out, Blk.drewN HB1.out, HK.out.drewN _⟩
        case measure => decide
      · go_wp2_with fail
        go_quiet (fail)
        go_wp2_with fail
        go_ret
        exact ⟨rfl, HK.out.drewN _⟩
    · clear hB
      go_wp2_with fail
      go_ret
      exact ⟨rfl, HK.out⟩
theorem first3_ge (b0 b1 b2 : Bool) : decide (0 ≤ first3 b0 b1 b2) = (b0 || (b1 || b2)) := by cases b0 <;> cases b1 <;> cases b2 <;> rfl
set_option maxHeartbeats 1000000 in
theorem contains3_any (k : Int) (x0 x1 x2 : Bool) (n0 n1 n2 : Int) (u : Value) (v : Int) (G : Nat) (w : World) (h : Blk w G 45 (arr8 ⟨k, x0, x1, x2, n0, n1, n2⟩ u)) :
    Calls Try.prog 47 #[.slice (some ⟨G, 1, none⟩) 3 3, .agg #[.bool true, .int .i64 v]] w fun e w' => e = .returned (.bool (ownN x0 x1 x2 n0 n1 n2 v)) ∧ Kept Nil w w' := by
  have HE := Lib.hid (ownN_three x0 x1 x2 n0 n1 n2 v)
  have C := Lib.hid (index3_any k x0 x1 x2 n0 n1 n2 u v G _ (h.alloc (.cells #[.bool true, .int .i64 v] 42)))
  have HG := Lib.hid (first3_ge (decide (true = x0 ∧ v = n0)) (decide (true = x1 ∧ v = n1)) (decide (true = x2 ∧ v = n2)))
  generalize first3 (decide (true = x0 ∧ v = n0)) (decide (true = x1 ∧ v = n1)) (decide (true = x2 ∧ v = n2)) = r at C HG
  have K0 := Lib.hid ((Kept.refl Nil w).alloc (.cells #[.bool true, .int .i64 v] 42))
  clear h
  go_enter Try.func47, Try.ntmps47
  go_wp2_with fail
  refine C.out.mono ?_
  rintro e w2 ⟨rfl, k2⟩
  go_wp2_with fail
  go_ret
  exact ⟨ret_bool (by rw [HE.out, ← HG.out]), K0.out.trans k2 (fun _ _ g => g)⟩
/-- The class of worlds in which a condition's block and a term's are as they were laid. -/
def CS2 (w : World) (G : Nat) (cs : Array Value) (S : Nat) (v : Int) (W : World) : Prop := Blk W G 45 cs ∧ Blk W S 42 #[.bool true, .int .i64 v] ∧ Kept Nil w W
theorem CS2.step {w : World} {G S : Nat} {cs : Array Value} {v : Int} (W W' : World) (h : CS2 w G cs S v W) (k : Kept Nil W W') : CS2 w G cs S v W' := ⟨h.1.kept k id, h.2.1.kept k id, h.2.2.trans k (fun _ _ g => g)⟩
set_option maxHeartbeats 1000000 in
/-- The closure over the term. -/
theorem stands_any (k : Int) (x0 x1 x2 : Bool) (n0 n1 n2 : Int) (u : Value) (v : Int) (S : Nat) (w : World) (h : Blk w S 42 #[.bool true, .int .i64 v]) :
    Calls Try.prog 46 #[vA ⟨k, x0, x1, x2, n0, n1, n2⟩ u, .pointer (some ⟨S, 0, none⟩)] w fun e w' => e = .returned (.bool (ownN x0 x1 x2 n0 n1 n2 v)) ∧ Kept Nil w w' := by
  have B0 := Lib.hid (h.alloc (.cells (arr8 ⟨k, x0, x1, x2, n0, n1, n2⟩ u) 45))
  have K0 := Lib.hid ((Kept.refl Nil w).alloc (.cells (arr8 ⟨k, x0, x1, x2, n0, n1, n2⟩ u) 45))
  have C := Lib.hid (fun W (b : Blk W w.heap.size 45 (arr8 ⟨k, x0, x1, x2, n0, n1, n2⟩ u)) => contains3_any k x0 x1 x2 n0 n1 n2 u v w.heap.size W b)
  have O := Lib.hid (show CS2 w w.heap.size (arr8 ⟨k, x0, x1, x2, n0, n1, n2⟩ u) S v ((w.alloc (.cells (arr8 ⟨k, x0, x1, x2, n0, n1, n2⟩ u) 45)).drew) from ⟨Blk.new w _ _, B0.out, K0.out.drew⟩)
  clear h B0 K0
  go_enter Try.func46, Try.ntmps46
  go_wp2_with fail
  refine wp_region_in (CS2 w w.heap.size (arr8 ⟨k, x0, x1, x2, n0, n1, n2⟩ u) S v) (by kernel_rfl) (by kernel_rfl) O.out ?_
  have inst : Nonempty (CW (CS2 w w.heap.size (arr8 ⟨k, x0, x1, x2, n0, n1, n2⟩ u) S v)) := ⟨⟨_, O.out⟩⟩
  have CN := Lib.hid (fun n : CW (CS2 w w.heap.size (arr8 ⟨k, x0, x1, x2, n0, n1, n2⟩ u) S v) => C.out n.w n.of.1)
  have hc0 : ∀ n : CW (CS2 w w.heap.size (arr8 ⟨k, x0, x1, x2, n0, n1, n2⟩ u) S v), n.w.cell? ⟨S, 0, none⟩ = some (.bool true) := fun n => n.of.2.1.cell 0
  have hc1 : ∀ n : CW (CS2 w w.heap.size (arr8 ⟨k, x0, x1, x2, n0, n1, n2⟩ u) S v), n.w.cell? ⟨S, 1, none⟩ = some (.int .i64 v) := fun n => n.of.2.1.cell 1
  repeat (go_big_quiet_step ((go_at_call 47; exact call_in CS2.step (CN.out _))))
  refine wpQuiet_nil ?_
  rintro _ ⟨n, rfl⟩
  go_wp2
  go_ret
  exact ⟨rfl, n.of.2.2⟩
end Go.Proofs.Ytpdofapbbpihlaa
