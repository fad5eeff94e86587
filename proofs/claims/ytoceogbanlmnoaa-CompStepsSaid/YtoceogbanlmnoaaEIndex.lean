/- Layer scope: slices.Index of a condition's three terms; term.Var. -/
import Derived.Test.YtoceogbanlmnoaaERows
namespace Go.Proofs.Ytoceogbanlmnoaa
open Go.RowKit
set_option maxRecDepth 100000

theorem eqTm4 (x y : Bool) (n m : Int) (w : World) : (Op.equalIn 10000 24 (.agg #[.bool x, .int .i64 n]) (.agg #[.bool y, .int .i64 m])).run Try.prog w = .ok (decide (x = y ∧ n = m)) w := by
  have e : ∀ x y : Int, (Op.equalIn 9999 3 (.int .i64 x) (.int .i64 y)).run Try.prog w = .ok (x == y) w := fun x y => run_equalIn_int w 9998 3 .i64 .i64 x y Try.underlying3
  have eb : ∀ x y : Bool, (Op.equalIn 9999 4 (.bool x) (.bool y)).run Try.prog w = .ok (x == y) w := fun x y => run_equalIn_bool w 9998 4 x y Try.underlying4
  rw [run_equalIn_struct w 9999 _ _ _ (by kernel_rfl) (by kernel_rfl)]
  simp only [Program.fieldsOf, Try.underlying24]
  by_cases h : x = y
  · subst h
    by_cases hn : n = m <;> simp [Op.eqFields, part, isAgg, run_underlying Try.underlying3, run_underlying Try.underlying4, e, eb, hn]
  · simp [Op.eqFields, part, isAgg, run_underlying Try.underlying3, run_underlying Try.underlying4, eb, h]
theorem eqlTm (x y : Bool) (n m : Int) (b : Bool) (hb : decide (x = y ∧ n = m) = b) (w : World) : (binOp .eql 24 (.agg #[.bool x, .int .i64 n]) (.agg #[.bool y, .int .i64 m])).run Try.prog w = .ok (.bool b) w := by
  rw [run_eql_struct, eqTm4, hb]; rfl
theorem Blk.drewN {w : World} {g n : Nat} {t : TypeId} {cs : Array Value} (h : Blk w g t cs) : Blk (w.drewN n) g t cs := h
/-- The first of three that is so; -1 if none is. -/
def first3 (b0 b1 b2 : Bool) : Int := if b0 then 0 else if b1 then 1 else if b2 then 2 else -1
abbrev arr8 (h : Hd) (u : Value) : Array Value := #[.int .i64 h.k, .bool h.x0, .int .i64 h.n0, .bool h.x1, .int .i64 h.n1, .bool h.x2, .int .i64 h.n2, u]
set_option maxHeartbeats 1000000 in
theorem index3_any (k : Int) (x0 x1 x2 : Bool) (n0 n1 n2 : Int) (u : Value) (v : Int) (G : Nat) (w : World) (h : Blk w G 27 (arr8 ⟨k, x0, x1, x2, n0, n1, n2⟩ u)) :
    Calls Try.prog 70 #[.slice (some ⟨G, 1, none⟩) 3 3, .agg #[.bool true, .int .i64 v]] w fun e w' => e = .returned (.int .i64 (first3 (decide (true = x0 ∧ v = n0)) (decide (true = x1 ∧ v = n1)) (decide (true = x2 ∧ v = n2)))) ∧ Kept Nil w w' := by
  generalize hb0 : decide (true = x0 ∧ v = n0) = b0
  generalize hb1 : decide (true = x1 ∧ v = n1) = b1
  generalize hb2 : decide (true = x2 ∧ v = n2) = b2
  have E0 := Lib.hid (fun W => eqlTm true x0 v n0 b0 hb0 W)
  have E1 := Lib.hid (fun W => eqlTm true x1 v n1 b1 hb1 W)
  have E2 := Lib.hid (fun W => eqlTm true x2 v n2 b2 hb2 W)
  clear hb0 hb1 hb2
  have B0 := Lib.hid (h.alloc (.cells #[.bool true, .int .i64 v] 24))
  have B1 := Lib.hid (Blk.new w 24 #[.bool true, .int .i64 v])
  have K0 := Lib.hid ((Kept.refl Nil w).alloc (.cells #[.bool true, .int .i64 v] 24))
  clear h
  go_enter Try.func70, Try.ntmps70
  go_wp2_with fail
  go_loopw [5, 8] (fun _ i wr => ((i = .int .i64 0) ∨ (i = .int .i64 1 ∧ b0 = false) ∨ (i = .int .i64 2 ∧ b0 = false ∧ b1 = false) ∨ (i = .int .i64 3 ∧ b0 = false ∧ b1 = false ∧ b2 = false)) ∧ Blk wr G 27 (arr8 ⟨k, x0, x1, x2, n0, n1, n2⟩ u) ∧ Blk wr w.heap.size 24 #[.bool true, .int .i64 v] ∧ Kept Nil w wr) (fun _ i _ => (3 - intOf i).toNat)
  case atStart => exact ⟨.inl rfl, B0.out, B1.out, K0.out⟩
  case round =>
    obtain ⟨hrel, hB, hB1, hK⟩ := hrel
    have HB := Lib.hid hB
    have HB1 := Lib.hid hB1
    have HK := Lib.hid hK
    have z0 := hB1.cell 0
    have z1 := hB1.cell 1
    simp at z0 z1
    clear hB1 hK B0 B1 K0
    rcases hrel with rfl | ⟨rfl, rfl⟩ | ⟨rfl, rfl, rfl⟩ | ⟨rfl, rfl, rfl, rfl⟩
    · have c0 := hB.cell 1
      have c1 := hB.cell 2
      simp at c0 c1
      clear hB
      have e0 := E0.out
      cases b0
      · go_wp2_with fail
        go_quiet (fail)
        go_wp2_with fail
        go_roundw
        case rel => exact ⟨by simp, Blk.drewN HB.out, Blk.drewN HB1.out, HK.out.drewN _⟩
        case measure => decide
      · go_wp2_with fail
        go_quiet (fail)
        go_wp2_with fail
        go_ret
        exact ⟨rfl, HK.out.drewN _⟩
    · have c0 := hB.cell 3
      have c1 := hB.cell 4
      simp at c0 c1
      clear hB
      have e1 := E1.out
      cases b1
      · go_wp2_with fail
        go_quiet (fail)
        go_wp2_with fail
        go_roundw
        case rel => exact ⟨by simp, Blk.drewN HB.out, Blk.drewN HB1.out, HK.out.drewN _⟩
        case measure => decide
      · go_wp2_with fail
        go_quiet (fail)
        go_wp2_with fail
        go_ret
        exact ⟨rfl, HK.out.drewN _⟩
    · have c0 := hB.cell 5
      have c1 := hB.cell 6
      simp at c0 c1
      clear hB
      have e2 := E2.out
      cases b2
      · go_wp2_with fail
        go_quiet (fail)
        go_wp2_with fail
        go_roundw
        case rel => exact ⟨by simp, Blk.drewN HB.out, Blk.drewN HB1.out, HK.out.drewN _⟩
        case measure => decide
      · go_wp2_with fail
        go_quiet (fail)
        go_wp2_with fail
        go_ret
        exact ⟨rfl, HK.out.drewN _⟩
    · clear hB
      go_wp2_with fail
      go_ret
      exact ⟨rfl, HK.out⟩
theorem termVar_any (n : Int) (w : World) : Calls Try.prog 81 #[.int .i64 n] w fun e w' => e = .returned (.agg #[.bool true, .int .i64 n]) ∧ Kept Nil w w' := by
  go_enter Try.func81, Try.ntmps81
  go_wp2
  exact bodyPost_ret (v := .agg #[.bool true, .int .i64 n]) (by simp [results, Try.results81, go_sem]) rfl ⟨rfl, (Kept.refl _ _).alloc _⟩
end Go.Proofs.Ytoceogbanlmnoaa
