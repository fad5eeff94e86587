/- The key of terms is what their symbols are: KeyOf returns true, and writes nothing that was there. No condition but Go's own variables. -/
import Derived.Test.YtjknibgbbhiooaaDoorKOf
import Derived.Test.YtjknibgbbhiooaaDoorKAwake
namespace Go.Proofs.YtjknibgbbhiooaaDoor
open Go.RowKit
set_option maxRecDepth 100000

/-- Terms, as cells. -/
abbrev c6 (x0 x1 x2 : Bool) (n0 n1 n2 : Int) : Array Value := #[.bool x0, .int .i64 n0, .bool x1, .int .i64 n1, .bool x2, .int .i64 n2]
/-- What came in: terms, a triple. -/
structure OIn (w : World) (l d : Array Value) (W : World) : Prop where
  kept : Kept Nil w W
  b0 : Blk W w.heap.size 34 l
  b1 : Blk W (w.heap.size + 1) 23 d
theorem OIn.start (w : World) (l d : Array Value) : OIn w l d ((w.alloc (.cells l 34)).alloc (.cells d 23)) := by
  refine ⟨((Kept.refl Nil w).alloc _).alloc _, (Blk.new w _ _).alloc _, ?_⟩
  have := Blk.new (w.alloc (.cells l 34)) 23 d
  simpa using this
section
variable {w W W' : World} {l d e f : Array Value} {kb xb : Nat}
theorem OIn.step (h : OIn w l d W) (k : Kept Nil W W') : OIn w l d W' := ⟨h.kept.trans k (fun _ _ g => g), h.b0.kept k id, h.b1.kept k id⟩
theorem OIn.cells {x0 x1 x2 : Bool} {n0 n1 n2 : Int} (h : OIn w (c6 x0 x1 x2 n0 n1 n2) d W) :
    W.cell? ⟨w.heap.size, 0, none⟩ = some (.bool x0) ∧ W.cell? ⟨w.heap.size, 1, none⟩ = some (.int .i64 n0) ∧ W.cell? ⟨w.heap.size, 2, none⟩ = some (.bool x1) ∧
    W.cell? ⟨w.heap.size, 3, none⟩ = some (.int .i64 n1) ∧ W.cell? ⟨w.heap.size, 4, none⟩ = some (.bool x2) ∧ W.cell? ⟨w.heap.size, 5, none⟩ = some (.int .i64 n2) :=
  ⟨h.b0.cell 0, h.b0.cell 1, h.b0.cell 2, h.b0.cell 3, h.b0.cell 4, h.b0.cell 5⟩
theorem OIn.tri {a b c : Int} (h : OIn w l (c3 a b c) W) :
    W.cell? ⟨w.heap.size + 1, 0, none⟩ = some (.int .i64 a) ∧ W.cell? ⟨w.heap.size + 1, 1, none⟩ = some (.int .i64 b) ∧ W.cell? ⟨w.heap.size + 1, 2, none⟩ = some (.int .i64 c) :=
  ⟨h.b1.cell 0, h.b1.cell 1, h.b1.cell 2⟩
/-- .. and the key. -/
structure OKey (w : World) (l d : Array Value) (kb : Nat) (e : Array Value) (W : World) : Prop where
  oin : OIn w l d W
  key : Blk W kb 23 e
theorem OKey.step (h : OKey w l d kb e W) (k : Kept Nil W W') : OKey w l d kb e W' := ⟨h.oin.step k, h.key.kept k id⟩
/-- .. and the term that is looked at. -/
structure OOne (w : World) (l d : Array Value) (kb : Nat) (e : Array Value) (xb : Nat) (f : Array Value) (W : World) : Prop where
  okey : OKey w l d kb e W
  one : Blk W xb 33 f
theorem OOne.step (W W' : World) (h : OOne w l d kb e xb f W) (k : Kept Nil W W') : OOne w l d kb e xb f W' := ⟨h.okey.step k, h.one.kept k id⟩
end

/-- A term fits a field, as far as its symbol goes. -/
def mt (x : Bool) (n t : Int) : Bool := x || (n == t)
theorem hasF_mt {x : Bool} {n t : Int} (h : okTm x n = true) : hasF t (ofF x n) = mt x n t := by
  cases x
  · have := (okTm_sym.1 h).1
    unfold hasF ofF mt
    rw [Bool.eq_iff_iff]
    simp
    omega
  · unfold hasF ofF mt; simp
theorem hasK_mt {x0 x1 x2 : Bool} {n0 n1 n2 a b c : Int} (h : fine x0 x1 x2 n0 n1 n2 = true) : hasK (a, b, c) (ofF x0 n0, ofF x1 n1, ofF x2 n2) = (((true && mt x0 n0 a) && mt x1 n1 b) && mt x2 n2 c) := by
  unfold fine at h
  rw [Bool.and_eq_true, Bool.and_eq_true] at h
  unfold hasK
  simp only [hasF_mt h.1.1, hasF_mt h.1.2, hasF_mt h.2, Bool.true_and, Bool.and_assoc]

theorem of_no1 (x0 x1 x2 : Bool) (n0 n1 n2 a b c : Int) (w : World) (E : TabW w) (hf : fine x0 x1 x2 n0 n1 n2 = false) :
    Calls Tryd.prog 4 #[valL x0 x1 x2 n0 n1 n2, .agg #[.int .i64 a, .int .i64 b, .int .i64 c]] w fun e w' => e = .returned (.bool true) ∧ Kept Nil w w' := by
  have cf : ∀ W : World, Calls Tryd.prog 16 #[valL x0 x1 x2 n0 n1 n2] W fun e w' => e = .returned (.bool (fine x0 x1 x2 n0 n1 n2)) ∧ Kept Nil W w' := fun W => fine_any x0 x1 x2 n0 n1 n2 W
  rw [hf] at cf
  have CF := Lib.hid cf
  have CA : Hid (∀ W : World, TabW W → Calls Tryd.prog 10 #[] W fun e w' => e = .returned (.bool true) ∧ Kept Nil W w') := Lib.hid fun W h => awake_any W h
  have HE := Lib.hid E
  clear cf hf E
  have S0 := Lib.hid (OIn.start w (c6 x0 x1 x2 n0 n1 n2) (c3 a b c))
  go_enter Tryd.func4, Tryd.ntmps4
  go_wp2_with fail
  refine (CF.out _).mono ?_
  rintro e w1 ⟨rfl, k1⟩
  have S1 := Lib.hid (S0.out.step k1)
  go_wp2_with fail
  refine (CA.out _ (HE.out.kept S1.out.kept)).mono ?_
  rintro e w2 ⟨rfl, k2⟩
  go_wp2_with fail
  go_ret
  exact ⟨rfl, (S1.out.step k2).kept⟩
theorem of_no2 (x0 x1 x2 : Bool) (n0 n1 n2 a b c : Int) (w : World) (E : TabW w) (hf : fine x0 x1 x2 n0 n1 n2 = true) (ht : okT (a, b, c) = false) :
    Calls Tryd.prog 4 #[valL x0 x1 x2 n0 n1 n2, .agg #[.int .i64 a, .int .i64 b, .int .i64 c]] w fun e w' => e = .returned (.bool true) ∧ Kept Nil w w' := by
  have cf : ∀ W : World, Calls Tryd.prog 16 #[valL x0 x1 x2 n0 n1 n2] W fun e w' => e = .returned (.bool (fine x0 x1 x2 n0 n1 n2)) ∧ Kept Nil W w' := fun W => fine_any x0 x1 x2 n0 n1 n2 W
  rw [hf] at cf
  have CF := Lib.hid cf
  have CA : Hid (∀ W : World, TabW W → Calls Tryd.prog 10 #[] W fun e w' => e = .returned (.bool true) ∧ Kept Nil W w') := Lib.hid fun W h => awake_any W h
  have HE := Lib.hid E
  have cs : ∀ W : World, Calls Tryd.prog 8 #[arr (a, b, c)] W fun e w' => e = .returned (.bool (okT (a, b, c))) ∧ Kept Nil W w' := fun W => refRight_any (a, b, c) W
  rw [ht] at cs
  have CS : Hid (∀ W : World, Calls Tryd.prog 8 #[.agg #[.int .i64 a, .int .i64 b, .int .i64 c]] W fun e w' => e = .returned (.bool false) ∧ Kept Nil W w') := Lib.hid cs
  clear cf hf cs ht E
  have S0 := Lib.hid (OIn.start w (c6 x0 x1 x2 n0 n1 n2) (c3 a b c))
  go_enter Tryd.func4, Tryd.ntmps4
  go_wp2_with fail
  refine (CF.out _).mono ?_
  rintro e w1 ⟨rfl, k1⟩
  have S1 := Lib.hid (S0.out.step k1)
  obtain ⟨p0, p1, p2⟩ := S1.out.tri
  go_wp2_with fail
  refine (CS.out _).mono ?_
  rintro e w2 ⟨rfl, k2⟩
  have S2 := Lib.hid (S1.out.step k2)
  clear p0 p1 p2
  go_wp2_with fail
  refine (CA.out _ (HE.out.kept S2.out.kept)).mono ?_
  rintro e w3 ⟨rfl, k3⟩
  go_wp2_with fail
  go_ret
  exact ⟨rfl, (S2.out.step k3).kept⟩

set_option maxHeartbeats 4000000 in
theorem of_yes (x0 x1 x2 : Bool) (n0 n1 n2 a b c : Int) (w : World) (E : TabW w) (hf : fine x0 x1 x2 n0 n1 n2 = true) (ht : okT (a, b, c) = true) :
    Calls Tryd.prog 4 #[valL x0 x1 x2 n0 n1 n2, .agg #[.int .i64 a, .int .i64 b, .int .i64 c]] w fun e w' => e = .returned (.bool true) ∧ Kept Nil w w' := by
  have hm := hasK_mt (a := a) (b := b) (c := c) hf
  have cf : ∀ W : World, Calls Tryd.prog 16 #[valL x0 x1 x2 n0 n1 n2] W fun e w' => e = .returned (.bool (fine x0 x1 x2 n0 n1 n2)) ∧ Kept Nil W w' := fun W => fine_any x0 x1 x2 n0 n1 n2 W
  rw [hf] at cf
  have CF := Lib.hid cf
  have CA : Hid (∀ W : World, TabW W → Calls Tryd.prog 10 #[] W fun e w' => e = .returned (.bool true) ∧ Kept Nil W w') := Lib.hid fun W h => awake_any W h
  have HE := Lib.hid E
  have cs : ∀ W : World, Calls Tryd.prog 8 #[arr (a, b, c)] W fun e w' => e = .returned (.bool (okT (a, b, c))) ∧ Kept Nil W w' := fun W => refRight_any (a, b, c) W
  rw [ht] at cs
  have CS : Hid (∀ W : World, Calls Tryd.prog 8 #[.agg #[.int .i64 a, .int .i64 b, .int .i64 c]] W fun e w' => e = .returned (.bool true) ∧ Kept Nil W w') := Lib.hid cs
  obtain ⟨K0, hK0⟩ : ∃ K, K = ofF x0 n0 := ⟨_, rfl⟩
  obtain ⟨K1, hK1⟩ : ∃ K, K = ofF x1 n1 := ⟨_, rfl⟩
  obtain ⟨K2, hK2⟩ : ∃ K, K = ofF x2 n2 := ⟨_, rfl⟩
  obtain ⟨T0, hS0⟩ : ∃ S, S = true := ⟨_, rfl⟩
  obtain ⟨T1, hS1⟩ : ∃ S, S = (T0 && mt x0 n0 a) := ⟨_, rfl⟩
  obtain ⟨T2, hS2⟩ : ∃ S, S = (T1 && mt x1 n1 b) := ⟨_, rfl⟩
  obtain ⟨T3, hS3⟩ : ∃ S, S = (T2 && mt x2 n2 c) := ⟨_, rfl⟩
  have CO : Hid (∀ W : World, Calls Tryd.prog 17 #[valL x0 x1 x2 n0 n1 n2] W fun e w' => e = .returned (.agg #[.int .i64 K0, .int .i64 K1, .int .i64 K2]) ∧ Kept Nil W w') := Lib.hid fun W => by rw [hK0, hK1, hK2]; exact of_any x0 x1 x2 n0 n1 n2 W
  have CH : Hid (∀ W : World, Calls Tryd.prog 13 #[.agg #[.int .i64 a, .int .i64 b, .int .i64 c], .agg #[.int .i64 K0, .int .i64 K1, .int .i64 K2]] W fun e w' => e = .returned (.bool T3) ∧ Kept Nil W w') := Lib.hid fun W => by have := has_any (a, b, c) (K0, K1, K2) W; rw [hK0, hK1, hK2, hm, ← hS0, ← hS1, ← hS2, ← hS3] at this; rw [hK0, hK1, hK2]; exact this
  have HK0 := Lib.hid hK0
  have HK1 := Lib.hid hK1
  have HK2 := Lib.hid hK2
  have HS0 := Lib.hid hS0
  have HS1 := Lib.hid hS1
  have HS2 := Lib.hid hS2
  have HS3 := Lib.hid hS3
  clear cf hf cs ht E hm hK0 hK1 hK2 hS0 hS1 hS2 hS3
  have S0 := Lib.hid (OIn.start w (c6 x0 x1 x2 n0 n1 n2) (c3 a b c))
  go_enter Tryd.func4, Tryd.ntmps4
  go_wp2_with fail
  refine (CF.out _).mono ?_
  rintro e w1 ⟨rfl, k1⟩
  have S1 := Lib.hid (S0.out.step k1)
  obtain ⟨p0, p1, p2⟩ := S1.out.tri
  go_wp2_with fail
  refine (CS.out _).mono ?_
  rintro e w2 ⟨rfl, k2⟩
  have S2 := Lib.hid (S1.out.step k2)
  clear p0 p1 p2
  obtain ⟨l0, l1, l2, l3, l4, l5⟩ := S2.out.cells
  go_wp2_with fail
  refine (CO.out _).mono ?_
  rintro e w3 ⟨rfl, k3⟩
  have S3 := Lib.hid (S2.out.step k3)
  have S4 := Lib.hid (show OKey w (c6 x0 x1 x2 n0 n1 n2) (c3 a b c) w3.heap.size (c3 K0 K1 K2) (w3.alloc (.cells (c3 K0 K1 K2) 23)) from ⟨S3.out.step ((Kept.refl _ _).alloc _), Blk.new _ _ _⟩)
  clear l0 l1 l2 l3 l4 l5
  obtain ⟨l0, l1, l2, l3, l4, l5⟩ := S3.out.cells
  have hl0 : w.heap.size < w3.heap.size := S3.out.b0.lt
  go_wp2_with fail
  obtain ⟨i0, i1, i2⟩ := idxL3 x0 x1 x2 n0 n1 n2
  go_loopw [6, 21] (fun s i wr => Hid (OKey w (c6 x0 x1 x2 n0 n1 n2) (c3 a b c) w3.heap.size (c3 K0 K1 K2) wr) ∧ ((i = .int .i64 0 ∧ s = .bool T0) ∨ (i = .int .i64 1 ∧ s = .bool T1) ∨ (i = .int .i64 2 ∧ s = .bool T2) ∨ (i = .int .i64 3 ∧ s = .bool T3))) (fun _ i _ => (3 - intOf i).toNat)
  case atStart => exact ⟨S4, .inl ⟨rfl, by rw [HS0.out]⟩⟩
  case round =>
    obtain ⟨S, hrel⟩ := hrel
    clear S0 S1 S2 S4 l0 l1 l2 l3 l4 l5
    rcases hrel with ⟨rfl, rfl⟩ | ⟨rfl, rfl⟩ | ⟨rfl, rfl⟩ | ⟨rfl, rfl⟩
    · have QS := Lib.hid (show T1 = (T0 && mt x0 n0 a) from HS1.out)
      generalize T0 = s at QS
      cases x0 with
      | true =>
        have KV : Hid (K0 = 0) := Lib.hid (HK0.out.trans rfl)
        cases s with
        | false =>
          have I0 := Lib.hid (show OOne w (c6 true x1 x2 n0 n1 n2) (c3 a b c) w3.heap.size (c3 K0 K1 K2) wr.heap.size #[.bool true, .int .i64 n0] (wr.alloc (.cells #[.bool true, .int .i64 n0] 33)) from ⟨S.out.step ((Kept.refl _ _).alloc _), Blk.new _ _ _⟩)
          have inst : Nonempty (CW (OOne w (c6 true x1 x2 n0 n1 n2) (c3 a b c) w3.heap.size (c3 K0 K1 K2) wr.heap.size #[.bool true, .int .i64 n0])) := ⟨⟨_, I0.out⟩⟩
          have q0 : ∀ n : CW (OOne w (c6 true x1 x2 n0 n1 n2) (c3 a b c) w3.heap.size (c3 K0 K1 K2) wr.heap.size #[.bool true, .int .i64 n0]), n.w.cell? ⟨wr.heap.size, 0, none⟩ = some (.bool true) := fun n => n.of.one.cell 0
          have q1 : ∀ n : CW (OOne w (c6 true x1 x2 n0 n1 n2) (c3 a b c) w3.heap.size (c3 K0 K1 K2) wr.heap.size #[.bool true, .int .i64 n0]), n.w.cell? ⟨wr.heap.size, 1, none⟩ = some (.int .i64 n0) := fun n => n.of.one.cell 1
          have q2 : ∀ n : CW (OOne w (c6 true x1 x2 n0 n1 n2) (c3 a b c) w3.heap.size (c3 K0 K1 K2) wr.heap.size #[.bool true, .int .i64 n0]), n.w.cell? ⟨w3.heap.size, 0, none⟩ = some (.int .i64 0) := fun n => (n.of.okey.key.cell 0).trans (by show some (Value.int IntKind.i64 K0) = _; rw [KV.out])
          have q3 : ∀ n : CW (OOne w (c6 true x1 x2 n0 n1 n2) (c3 a b c) w3.heap.size (c3 K0 K1 K2) wr.heap.size #[.bool true, .int .i64 n0]), n.w.cell? ⟨w.heap.size + 1, 0, none⟩ = some (.int .i64 a) := fun n => n.of.okey.oin.b1.cell 0
          go_wp2_with fail
          refine wp_region_in (OOne w (c6 true x1 x2 n0 n1 n2) (c3 a b c) w3.heap.size (c3 K0 K1 K2) wr.heap.size #[.bool true, .int .i64 n0]) (by kernel_rfl) (by kernel_rfl) (OOne.step _ _ I0.out (Kept.refl _ _).drew) ?_
          repeat (go_big_quiet_step (fail))
          refine wpQuiet_nil ?_
          rintro _ ⟨m1, rfl⟩
          go_wp2_with fail
          refine wp_region_in (OOne w (c6 true x1 x2 n0 n1 n2) (c3 a b c) w3.heap.size (c3 K0 K1 K2) wr.heap.size #[.bool true, .int .i64 n0]) (by kernel_rfl) (by kernel_rfl) (OOne.step _ _ m1.of (Kept.refl _ _).drew) ?_
          repeat (go_big_quiet_step (fail))
          refine wpQuiet_nil ?_
          rintro _ ⟨m2, rfl⟩
          have IN := Lib.hid m2.of.okey
          clear q0 q1 q2 q3 inst
          go_wp2_with fail
          go_roundw
          case rel => exact ⟨IN, .inr (.inl ⟨rfl, by rw [QS.out]; rfl⟩)⟩
          case measure => decide
        | true =>
          have I0 := Lib.hid (show OOne w (c6 true x1 x2 n0 n1 n2) (c3 a b c) w3.heap.size (c3 K0 K1 K2) wr.heap.size #[.bool true, .int .i64 n0] (wr.alloc (.cells #[.bool true, .int .i64 n0] 33)) from ⟨S.out.step ((Kept.refl _ _).alloc _), Blk.new _ _ _⟩)
          have inst : Nonempty (CW (OOne w (c6 true x1 x2 n0 n1 n2) (c3 a b c) w3.heap.size (c3 K0 K1 K2) wr.heap.size #[.bool true, .int .i64 n0])) := ⟨⟨_, I0.out⟩⟩
          have q0 : ∀ n : CW (OOne w (c6 true x1 x2 n0 n1 n2) (c3 a b c) w3.heap.size (c3 K0 K1 K2) wr.heap.size #[.bool true, .int .i64 n0]), n.w.cell? ⟨wr.heap.size, 0, none⟩ = some (.bool true) := fun n => n.of.one.cell 0
          have q1 : ∀ n : CW (OOne w (c6 true x1 x2 n0 n1 n2) (c3 a b c) w3.heap.size (c3 K0 K1 K2) wr.heap.size #[.bool true, .int .i64 n0]), n.w.cell? ⟨wr.heap.size, 1, none⟩ = some (.int .i64 n0) := fun n => n.of.one.cell 1
          have q2 : ∀ n : CW (OOne w (c6 true x1 x2 n0 n1 n2) (c3 a b c) w3.heap.size (c3 K0 K1 K2) wr.heap.size #[.bool true, .int .i64 n0]), n.w.cell? ⟨w3.heap.size, 0, none⟩ = some (.int .i64 0) := fun n => (n.of.okey.key.cell 0).trans (by show some (Value.int IntKind.i64 K0) = _; rw [KV.out])
          have q3 : ∀ n : CW (OOne w (c6 true x1 x2 n0 n1 n2) (c3 a b c) w3.heap.size (c3 K0 K1 K2) wr.heap.size #[.bool true, .int .i64 n0]), n.w.cell? ⟨w.heap.size + 1, 0, none⟩ = some (.int .i64 a) := fun n => n.of.okey.oin.b1.cell 0
          go_wp2_with fail
          refine wp_region_in (OOne w (c6 true x1 x2 n0 n1 n2) (c3 a b c) w3.heap.size (c3 K0 K1 K2) wr.heap.size #[.bool true, .int .i64 n0]) (by kernel_rfl) (by kernel_rfl) (OOne.step _ _ I0.out (Kept.refl _ _).drew) ?_
          repeat (go_big_quiet_step (fail))
          refine wpQuiet_nil ?_
          rintro _ ⟨m1, rfl⟩
          go_wp2_with fail
          refine wp_region_in (OOne w (c6 true x1 x2 n0 n1 n2) (c3 a b c) w3.heap.size (c3 K0 K1 K2) wr.heap.size #[.bool true, .int .i64 n0]) (by kernel_rfl) (by kernel_rfl) (OOne.step _ _ m1.of (Kept.refl _ _).drew) ?_
          repeat (go_big_quiet_step (fail))
          refine wpQuiet_nil ?_
          rintro _ ⟨m2, rfl⟩
          have IN := Lib.hid m2.of.okey
          clear q0 q1 q2 q3 inst
          go_wp2_with fail
          go_roundw
          case rel => exact ⟨IN, .inr (.inl ⟨rfl, by rw [QS.out]; rfl⟩)⟩
          case measure => decide
      | false =>
        have KV : Hid (K0 = n0) := Lib.hid (HK0.out.trans rfl)
        cases s with
        | false =>
          have I0 := Lib.hid (show OOne w (c6 false x1 x2 n0 n1 n2) (c3 a b c) w3.heap.size (c3 K0 K1 K2) wr.heap.size #[.bool false, .int .i64 n0] (wr.alloc (.cells #[.bool false, .int .i64 n0] 33)) from ⟨S.out.step ((Kept.refl _ _).alloc _), Blk.new _ _ _⟩)
          have inst : Nonempty (CW (OOne w (c6 false x1 x2 n0 n1 n2) (c3 a b c) w3.heap.size (c3 K0 K1 K2) wr.heap.size #[.bool false, .int .i64 n0])) := ⟨⟨_, I0.out⟩⟩
          have q0 : ∀ n : CW (OOne w (c6 false x1 x2 n0 n1 n2) (c3 a b c) w3.heap.size (c3 K0 K1 K2) wr.heap.size #[.bool false, .int .i64 n0]), n.w.cell? ⟨wr.heap.size, 0, none⟩ = some (.bool false) := fun n => n.of.one.cell 0
          have q1 : ∀ n : CW (OOne w (c6 false x1 x2 n0 n1 n2) (c3 a b c) w3.heap.size (c3 K0 K1 K2) wr.heap.size #[.bool false, .int .i64 n0]), n.w.cell? ⟨wr.heap.size, 1, none⟩ = some (.int .i64 n0) := fun n => n.of.one.cell 1
          have q2 : ∀ n : CW (OOne w (c6 false x1 x2 n0 n1 n2) (c3 a b c) w3.heap.size (c3 K0 K1 K2) wr.heap.size #[.bool false, .int .i64 n0]), n.w.cell? ⟨w3.heap.size, 0, none⟩ = some (.int .i64 n0) := fun n => (n.of.okey.key.cell 0).trans (by show some (Value.int IntKind.i64 K0) = _; rw [KV.out])
          have q3 : ∀ n : CW (OOne w (c6 false x1 x2 n0 n1 n2) (c3 a b c) w3.heap.size (c3 K0 K1 K2) wr.heap.size #[.bool false, .int .i64 n0]), n.w.cell? ⟨w.heap.size + 1, 0, none⟩ = some (.int .i64 a) := fun n => n.of.okey.oin.b1.cell 0
          go_wp2_with fail
          refine wp_region_in (OOne w (c6 false x1 x2 n0 n1 n2) (c3 a b c) w3.heap.size (c3 K0 K1 K2) wr.heap.size #[.bool false, .int .i64 n0]) (by kernel_rfl) (by kernel_rfl) (OOne.step _ _ I0.out (Kept.refl _ _).drew) ?_
          repeat (go_big_quiet_step (fail))
          refine wpQuiet_nil ?_
          rintro _ ⟨m1, rfl⟩
          go_wp2_with fail
          refine wp_region_in (OOne w (c6 false x1 x2 n0 n1 n2) (c3 a b c) w3.heap.size (c3 K0 K1 K2) wr.heap.size #[.bool false, .int .i64 n0]) (by kernel_rfl) (by kernel_rfl) (OOne.step _ _ m1.of (Kept.refl _ _).drew) ?_
          repeat (go_big_quiet_step (fail))
          refine wpQuiet_nil ?_
          rintro _ ⟨m2, rfl⟩
          have IN := Lib.hid m2.of.okey
          clear q0 q1 q2 q3 inst
          go_wp2_with fail
          go_roundw
          case rel => exact ⟨IN, .inr (.inl ⟨rfl, by rw [QS.out]; rfl⟩)⟩
          case measure => decide
        | true =>
          have I0 := Lib.hid (show OOne w (c6 false x1 x2 n0 n1 n2) (c3 a b c) w3.heap.size (c3 K0 K1 K2) wr.heap.size #[.bool false, .int .i64 n0] (wr.alloc (.cells #[.bool false, .int .i64 n0] 33)) from ⟨S.out.step ((Kept.refl _ _).alloc _), Blk.new _ _ _⟩)
          have inst : Nonempty (CW (OOne w (c6 false x1 x2 n0 n1 n2) (c3 a b c) w3.heap.size (c3 K0 K1 K2) wr.heap.size #[.bool false, .int .i64 n0])) := ⟨⟨_, I0.out⟩⟩
          have q0 : ∀ n : CW (OOne w (c6 false x1 x2 n0 n1 n2) (c3 a b c) w3.heap.size (c3 K0 K1 K2) wr.heap.size #[.bool false, .int .i64 n0]), n.w.cell? ⟨wr.heap.size, 0, none⟩ = some (.bool false) := fun n => n.of.one.cell 0
          have q1 : ∀ n : CW (OOne w (c6 false x1 x2 n0 n1 n2) (c3 a b c) w3.heap.size (c3 K0 K1 K2) wr.heap.size #[.bool false, .int .i64 n0]), n.w.cell? ⟨wr.heap.size, 1, none⟩ = some (.int .i64 n0) := fun n => n.of.one.cell 1
          have q2 : ∀ n : CW (OOne w (c6 false x1 x2 n0 n1 n2) (c3 a b c) w3.heap.size (c3 K0 K1 K2) wr.heap.size #[.bool false, .int .i64 n0]), n.w.cell? ⟨w3.heap.size, 0, none⟩ = some (.int .i64 n0) := fun n => (n.of.okey.key.cell 0).trans (by show some (Value.int IntKind.i64 K0) = _; rw [KV.out])
          have q3 : ∀ n : CW (OOne w (c6 false x1 x2 n0 n1 n2) (c3 a b c) w3.heap.size (c3 K0 K1 K2) wr.heap.size #[.bool false, .int .i64 n0]), n.w.cell? ⟨w.heap.size + 1, 0, none⟩ = some (.int .i64 a) := fun n => n.of.okey.oin.b1.cell 0
          go_wp2_with fail
          refine wp_region_in (OOne w (c6 false x1 x2 n0 n1 n2) (c3 a b c) w3.heap.size (c3 K0 K1 K2) wr.heap.size #[.bool false, .int .i64 n0]) (by kernel_rfl) (by kernel_rfl) (OOne.step _ _ I0.out (Kept.refl _ _).drew) ?_
          repeat (go_big_quiet_step (fail))
          refine wpQuiet_nil ?_
          rintro _ ⟨m1, rfl⟩
          go_wp2_with fail
          refine wp_region_in (OOne w (c6 false x1 x2 n0 n1 n2) (c3 a b c) w3.heap.size (c3 K0 K1 K2) wr.heap.size #[.bool false, .int .i64 n0]) (by kernel_rfl) (by kernel_rfl) (OOne.step _ _ m1.of (Kept.refl _ _).drew) ?_
          repeat (go_big_quiet_step (fail))
          refine wpQuiet_nil ?_
          rintro _ ⟨m2, rfl⟩
          have IN := Lib.hid m2.of.okey
          clear q0 q1 q2 q3 inst
          go_wp2_with fail
          go_roundw
          case rel => exact ⟨IN, .inr (.inl ⟨rfl, by rw [QS.out]; rfl⟩)⟩
          case measure => decide

    · have QS := Lib.hid (show T2 = (T1 && mt x1 n1 b) from HS2.out)
      generalize T1 = s at QS
      cases x1 with
      | true =>
        have KV : Hid (K1 = 0) := Lib.hid (HK1.out.trans rfl)
        cases s with
        | false =>
          have I0 := Lib.hid (show OOne w (c6 x0 true x2 n0 n1 n2) (c3 a b c) w3.heap.size (c3 K0 K1 K2) wr.heap.size #[.bool true, .int .i64 n1] (wr.alloc (.cells #[.bool true, .int .i64 n1] 33)) from ⟨S.out.step ((Kept.refl _ _).alloc _), Blk.new _ _ _⟩)
          have inst : Nonempty (CW (OOne w (c6 x0 true x2 n0 n1 n2) (c3 a b c) w3.heap.size (c3 K0 K1 K2) wr.heap.size #[.bool true, .int .i64 n1])) := ⟨⟨_, I0.out⟩⟩
          have q0 : ∀ n : CW (OOne w (c6 x0 true x2 n0 n1 n2) (c3 a b c) w3.heap.size (c3 K0 K1 K2) wr.heap.size #[.bool true, .int .i64 n1]), n.w.cell? ⟨wr.heap.size, 0, none⟩ = some (.bool true) := fun n => n.of.one.cell 0
          have q1 : ∀ n : CW (OOne w (c6 x0 true x2 n0 n1 n2) (c3 a b c) w3.heap.size (c3 K0 K1 K2) wr.heap.size #[.bool true, .int .i64 n1]), n.w.cell? ⟨wr.heap.size, 1, none⟩ = some (.int .i64 n1) := fun n => n.of.one.cell 1
          have q2 : ∀ n : CW (OOne w (c6 x0 true x2 n0 n1 n2) (c3 a b c) w3.heap.size (c3 K0 K1 K2) wr.heap.size #[.bool true, .int .i64 n1]), n.w.cell? ⟨w3.heap.size, 1, none⟩ = some (.int .i64 0) := fun n => (n.of.okey.key.cell 1).trans (by show some (Value.int IntKind.i64 K1) = _; rw [KV.out])
          have q3 : ∀ n : CW (OOne w (c6 x0 true x2 n0 n1 n2) (c3 a b c) w3.heap.size (c3 K0 K1 K2) wr.heap.size #[.bool true, .int .i64 n1]), n.w.cell? ⟨w.heap.size + 1, 1, none⟩ = some (.int .i64 b) := fun n => n.of.okey.oin.b1.cell 1
          go_wp2_with fail
          refine wp_region_in (OOne w (c6 x0 true x2 n0 n1 n2) (c3 a b c) w3.heap.size (c3 K0 K1 K2) wr.heap.size #[.bool true, .int .i64 n1]) (by kernel_rfl) (by kernel_rfl) (OOne.step _ _ I0.out (Kept.refl _ _).drew) ?_
          repeat (go_big_quiet_step (fail))
          refine wpQuiet_nil ?_
          rintro _ ⟨m1, rfl⟩
          go_wp2_with fail
          refine wp_region_in (OOne w (c6 x0 true x2 n0 n1 n2) (c3 a b c) w3.heap.size (c3 K0 K1 K2) wr.heap.size #[.bool true, .int .i64 n1]) (by kernel_rfl) (by kernel_rfl) (OOne.step _ _ m1.of (Kept.refl _ _).drew) ?_
          repeat (go_big_quiet_step (fail))
          refine wpQuiet_nil ?_
          rintro _ ⟨m2, rfl⟩
          have IN := Lib.hid m2.of.okey
          clear q0 q1 q2 q3 inst
          go_wp2_with fail
          go_roundw
          case rel => exact ⟨IN, .inr (.inr (.inl ⟨rfl, by rw [QS.out]; rfl⟩))⟩
          case measure => decide
        | true =>
          have I0 := Lib.hid (show OOne w (c6 x0 true x2 n0 n1 n2) (c3 a b c) w3.heap.size (c3 K0 K1 K2) wr.heap.size #[.bool true, .int .i64 n1] (wr.alloc (.cells #[.bool true, .int .i64 n1] 33)) from ⟨S.out.step ((Kept.refl _ _).alloc _), Blk.new _ _ _⟩)
          have inst : Nonempty (CW (OOne w (c6 x0 true x2 n0 n1 n2) (c3 a b c) w3.heap.size (c3 K0 K1 K2) wr.heap.size #[.bool true, .int .i64 n1])) := ⟨⟨_, I0.out⟩⟩
          have q0 : ∀ n : CW (OOne w (c6 x0 true x2 n0 n1 n2) (c3 a b c) w3.heap.size (c3 K0 K1 K2) wr.heap.size #[.bool true, .int .i64 n1]), n.w.cell? ⟨wr.heap.size, 0, none⟩ = some (.bool true) := fun n => n.of.one.cell 0
          have q1 : ∀ n : CW (OOne w (c6 x0 true x2 n0 n1 n2) (c3 a b c) w3.heap.size (c3 K0 K1 K2) wr.heap.size #[.bool true, .int .i64 n1]), n.w.cell? ⟨wr.heap.size, 1, none⟩ = some (.int .i64 n1) := fun n => n.of.one.cell 1
          have q2 : ∀ n : CW (OOne w (c6 x0 true x2 n0 n1 n2) (c3 a b c) w3.heap.size (c3 K0 K1 K2) wr.heap.size #[.bool true, .int .i64 n1]), n.w.cell? ⟨w3.heap.size, 1, none⟩ = some (.int .i64 0) := fun n => (n.of.okey.key.cell 1).trans (by show some (Value.int IntKind.i64 K1) = _; rw [KV.out])
          have q3 : ∀ n : CW (OOne w (c6 x0 true x2 n0 n1 n2) (c3 a b c) w3.heap.size (c3 K0 K1 K2) wr.heap.size #[.bool true, .int .i64 n1]), n.w.cell? ⟨w.heap.size + 1, 1, none⟩ = some (.int .i64 b) := fun n => n.of.okey.oin.b1.cell 1
          go_wp2_with fail
          refine wp_region_in (OOne w (c6 x0 true x2 n0 n1 n2) (c3 a b c) w3.heap.size (c3 K0 K1 K2) wr.heap.size #[.bool true, .int .i64 n1]) (by kernel_rfl) (by kernel_rfl) (OOne.step _ _ I0.out (Kept.refl _ _).drew) ?_
          repeat (go_big_quiet_step (fail))
          refine wpQuiet_nil ?_
          rintro _ ⟨m1, rfl⟩
          go_wp2_with fail
          refine wp_region_in (OOne w (c6 x0 true x2 n0 n1 n2) (c3 a b c) w3.heap.size (c3 K0 K1 K2) wr.heap.size #[.bool true, .int .i64 n1]) (by kernel_rfl) (by kernel_rfl) (OOne.step _ _ m1.of (Kept.refl _ _).drew) ?_
          repeat (go_big_quiet_step (fail))
          refine wpQuiet_nil ?_
          rintro _ ⟨m2, rfl⟩
          have IN := Lib.hid m2.of.okey
          clear q0 q1 q2 q3 inst
          go_wp2_with fail
          go_roundw
          case rel => exact ⟨IN, .inr (.inr (.inl ⟨rfl, by rw [QS.out]; rfl⟩))⟩
          case measure => decide
      | false =>
        have KV : Hid (K1 = n1) := Lib.hid (HK1.out.trans rfl)
        cases s with
        | false =>
          have I0 := Lib.hid (show OOne w (c6 x0 false x2 n0 n1 n2) (c3 a b c) w3.heap.size (c3 K0 K1 K2) wr.heap.size #[.bool false, .int .i64 n1] (wr.alloc (.cells #[.bool false, .int .i64 n1] 33)) from ⟨S.out.step ((Kept.refl _ _).alloc _), Blk.new _ _ _⟩)
          have inst : Nonempty (CW (OOne w (c6 x0 false x2 n0 n1 n2) (c3 a b c) w3.heap.size (c3 K0 K1 K2) wr.heap.size #[.bool false, .int .i64 n1])) := ⟨⟨_, I0.out⟩⟩
          have q0 : ∀ n : CW (OOne w (c6 x0 false x2 n0 n1 n2) (c3 a b c) w3.heap.size (c3 K0 K1 K2) wr.heap.size #[.bool false, .int .i64 n1]), n.w.cell? ⟨wr.heap.size, 0, none⟩ = some (.bool false) := fun n => n.of.one.cell 0
          have q1 : ∀ n : CW (OOne w (c6 x0 false x2 n0 n1 n2) (c3 a b c) w3.heap.size (c3 K0 K1 K2) wr.heap.size #[.bool false, .int .i64 n1]), n.w.cell? ⟨wr.heap.size, 1, none⟩ = some (.int .i64 n1) := fun n => n.of.one.cell 1
          have q2 : ∀ n : CW (OOne w (c6 x0 false x2 n0 n1 n2) (c3 a b c) w3.heap.size (c3 K0 K1 K2) wr.heap.size #[.bool false, .int .i64 n1]), n.w.cell? ⟨w3.heap.size, 1, none⟩ = some (.int .i64 n1) := fun n => (n.of.okey.key.cell 1).trans (by show some (Value.int IntKind.i64 K1) = _; rw [KV.out])
          have q3 : ∀ n : CW (OOne w (c6 x0 false x2 n0 n1 n2) (c3 a b c) w3.heap.size (c3 K0 K1 K2) wr.heap.size #[.bool false, .int .i64 n1]), n.w.cell? ⟨w.heap.size + 1, 1, none⟩ = some (.int .i64 b) := fun n => n.of.okey.oin.b1.cell 1
          go_wp2_with fail
          refine wp_region_in (OOne w (c6 x0 false x2 n0 n1 n2) (c3 a b c) w3.heap.size (c3 K0 K1 K2) wr.heap.size #[.bool false, .int .i64 n1]) (by kernel_rfl) (by kernel_rfl) (OOne.step _ _ I0.out (Kept.refl _ _).drew) ?_
          repeat (go_big_quiet_step (fail))
          refine wpQuiet_nil ?_
          rintro _ ⟨m1, rfl⟩
          go_wp2_with fail
          refine wp_region_in (OOne w (c6 x0 false x2 n0 n1 n2) (c3 a b c) w3.heap.size (c3 K0 K1 K2) wr.heap.size #[.bool false, .int .i64 n1]) (by kernel_rfl) (by kernel_rfl) (OOne.step _ _ m1.of (Kept.refl _ _).drew) ?_
          repeat (go_big_quiet_step (fail))
          refine wpQuiet_nil ?_
          rintro _ ⟨m2, rfl⟩
          have IN := Lib.hid m2.of.okey
          clear q0 q1 q2 q3 inst
          go_wp2_with fail
          go_roundw
          case rel => exact ⟨IN, .inr (.inr (.inl ⟨rfl, by rw [QS.out]; rfl⟩))⟩
          case measure => decide
        | true =>
          have I0 := Lib.hid (show OOne w (c6 x0 false x2 n0 n1 n2) (c3 a b c) w3.heap.size (c3 K0 K1 K2) wr.heap.size #[.bool false, .int .i64 n1] (wr.alloc (.cells #[.bool false, .int .i64 n1] 33)) from ⟨S.out.step ((Kept.refl _ _).alloc _), Blk.new _ _ _⟩)
          have inst : Nonempty (CW (OOne w (c6 x0 false x2 n0 n1 n2) (c3 a b c) w3.heap.size (c3 K0 K1 K2) wr.heap.size #[.bool false, .int .i64 n1])) := ⟨⟨_, I0.out⟩⟩
          have q0 : ∀ n : CW (OOne w (c6 x0 false x2 n0 n1 n2) (c3 a b c) w3.heap.size (c3 K0 K1 K2) wr.heap.size #[.bool false, .int .i64 n1]), n.w.cell? ⟨wr.heap.size, 0, none⟩ = some (.bool false) := fun n => n.of.one.cell 0
          have q1 : ∀ n : CW (OOne w (c6 x0 false x2 n0 n1 n2) (c3 a b c) w3.heap.size (c3 K0 K1 K2) wr.heap.size #[.bool false, .int .i64 n1]), n.w.cell? ⟨wr.heap.size, 1, none⟩ = some (.int .i64 n1) := fun n => n.of.one.cell 1
          have q2 : ∀ n : CW (OOne w (c6 x0 false x2 n0 n1 n2) (c3 a b c) w3.heap.size (c3 K0 K1 K2) wr.heap.size #[.bool false, .int .i64 n1]), n.w.cell? ⟨w3.heap.size, 1, none⟩ = some (.int .i64 n1) := fun n => (n.of.okey.key.cell 1).trans (by show some (Value.int IntKind.i64 K1) = _; rw [KV.out])
          have q3 : ∀ n : CW (OOne w (c6 x0 false x2 n0 n1 n2) (c3 a b c) w3.heap.size (c3 K0 K1 K2) wr.heap.size #[.bool false, .int .i64 n1]), n.w.cell? ⟨w.heap.size + 1, 1, none⟩ = some (.int .i64 b) := fun n => n.of.okey.oin.b1.cell 1
          go_wp2_with fail
          refine wp_region_in (OOne w (c6 x0 false x2 n0 n1 n2) (c3 a b c) w3.heap.size (c3 K0 K1 K2) wr.heap.size #[.bool false, .int .i64 n1]) (by kernel_rfl) (by kernel_rfl) (OOne.step _ _ I0.out (Kept.refl _ _).drew) ?_
          repeat (go_big_quiet_step (fail))
          refine wpQuiet_nil ?_
          rintro _ ⟨m1, rfl⟩
          go_wp2_with fail
          refine wp_region_in (OOne w (c6 x0 false x2 n0 n1 n2) (c3 a b c) w3.heap.size (c3 K0 K1 K2) wr.heap.size #[.bool false, .int .i64 n1]) (by kernel_rfl) (by kernel_rfl) (OOne.step _ _ m1.of (Kept.refl _ _).drew) ?_
          repeat (go_big_quiet_step (fail))
          refine wpQuiet_nil ?_
          rintro _ ⟨m2, rfl⟩
          have IN := Lib.hid m2.of.okey
          clear q0 q1 q2 q3 inst
          go_wp2_with fail
          go_roundw
          case rel => exact ⟨IN, .inr (.inr (.inl ⟨rfl, by rw [QS.out]; rfl⟩))⟩
          case measure => decide

    · have QS := Lib.hid (show T3 = (T2 && mt x2 n2 c) from HS3.out)
      generalize T2 = s at QS
      cases x2 with
      | true =>
        have KV : Hid (K2 = 0) := Lib.hid (HK2.out.trans rfl)
        cases s with
        | false =>
          have I0 := Lib.hid (show OOne w (c6 x0 x1 true n0 n1 n2) (c3 a b c) w3.heap.size (c3 K0 K1 K2) wr.heap.size #[.bool true, .int .i64 n2] (wr.alloc (.cells #[.bool true, .int .i64 n2] 33)) from ⟨S.out.step ((Kept.refl _ _).alloc _), Blk.new _ _ _⟩)
          have inst : Nonempty (CW (OOne w (c6 x0 x1 true n0 n1 n2) (c3 a b c) w3.heap.size (c3 K0 K1 K2) wr.heap.size #[.bool true, .int .i64 n2])) := ⟨⟨_, I0.out⟩⟩
          have q0 : ∀ n : CW (OOne w (c6 x0 x1 true n0 n1 n2) (c3 a b c) w3.heap.size (c3 K0 K1 K2) wr.heap.size #[.bool true, .int .i64 n2]), n.w.cell? ⟨wr.heap.size, 0, none⟩ = some (.bool true) := fun n => n.of.one.cell 0
          have q1 : ∀ n : CW (OOne w (c6 x0 x1 true n0 n1 n2) (c3 a b c) w3.heap.size (c3 K0 K1 K2) wr.heap.size #[.bool true, .int .i64 n2]), n.w.cell? ⟨wr.heap.size, 1, none⟩ = some (.int .i64 n2) := fun n => n.of.one.cell 1
          have q2 : ∀ n : CW (OOne w (c6 x0 x1 true n0 n1 n2) (c3 a b c) w3.heap.size (c3 K0 K1 K2) wr.heap.size #[.bool true, .int .i64 n2]), n.w.cell? ⟨w3.heap.size, 2, none⟩ = some (.int .i64 0) := fun n => (n.of.okey.key.cell 2).trans (by show some (Value.int IntKind.i64 K2) = _; rw [KV.out])
          have q3 : ∀ n : CW (OOne w (c6 x0 x1 true n0 n1 n2) (c3 a b c) w3.heap.size (c3 K0 K1 K2) wr.heap.size #[.bool true, .int .i64 n2]), n.w.cell? ⟨w.heap.size + 1, 2, none⟩ = some (.int .i64 c) := fun n => n.of.okey.oin.b1.cell 2
          go_wp2_with fail
          refine wp_region_in (OOne w (c6 x0 x1 true n0 n1 n2) (c3 a b c) w3.heap.size (c3 K0 K1 K2) wr.heap.size #[.bool true, .int .i64 n2]) (by kernel_rfl) (by kernel_rfl) (OOne.step _ _ I0.out (Kept.refl _ _).drew) ?_
          repeat (go_big_quiet_step (fail))
          refine wpQuiet_nil ?_
          rintro _ ⟨m1, rfl⟩
          go_wp2_with fail
          refine wp_region_in (OOne w (c6 x0 x1 true n0 n1 n2) (c3 a b c) w3.heap.size (c3 K0 K1 K2) wr.heap.size #[.bool true, .int .i64 n2]) (by kernel_rfl) (by kernel_rfl) (OOne.step _ _ m1.of (Kept.refl _ _).drew) ?_
          repeat (go_big_quiet_step (fail))
          refine wpQuiet_nil ?_
          rintro _ ⟨m2, rfl⟩
          have IN := Lib.hid m2.of.okey
          clear q0 q1 q2 q3 inst
          go_wp2_with fail
          go_roundw
          case rel => exact ⟨IN, .inr (.inr (.inr (⟨rfl, by rw [QS.out]; rfl⟩)))⟩
          case measure => decide
        | true =>
          have I0 := Lib.hid (show OOne w (c6 x0 x1 true n0 n1 n2) (c3 a b c) w3.heap.size (c3 K0 K1 K2) wr.heap.size #[.bool true, .int .i64 n2] (wr.alloc (.cells #[.bool true, .int .i64 n2] 33)) from ⟨S.out.step ((Kept.refl _ _).alloc _), Blk.new _ _ _⟩)
          have inst : Nonempty (CW (OOne w (c6 x0 x1 true n0 n1 n2) (c3 a b c) w3.heap.size (c3 K0 K1 K2) wr.heap.size #[.bool true, .int .i64 n2])) := ⟨⟨_, I0.out⟩⟩
          have q0 : ∀ n : CW (OOne w (c6 x0 x1 true n0 n1 n2) (c3 a b c) w3.heap.size (c3 K0 K1 K2) wr.heap.size #[.bool true, .int .i64 n2]), n.w.cell? ⟨wr.heap.size, 0, none⟩ = some (.bool true) := fun n => n.of.one.cell 0
          have q1 : ∀ n : CW (OOne w (c6 x0 x1 true n0 n1 n2) (c3 a b c) w3.heap.size (c3 K0 K1 K2) wr.heap.size #[.bool true, .int .i64 n2]), n.w.cell? ⟨wr.heap.size, 1, none⟩ = some (.int .i64 n2) := fun n => n.of.one.cell 1
          have q2 : ∀ n : CW (OOne w (c6 x0 x1 true n0 n1 n2) (c3 a b c) w3.heap.size (c3 K0 K1 K2) wr.heap.size #[.bool true, .int .i64 n2]), n.w.cell? ⟨w3.heap.size, 2, none⟩ = some (.int .i64 0) := fun n => (n.of.okey.key.cell 2).trans (by show some (Value.int IntKind.i64 K2) = _; rw [KV.out])
          have q3 : ∀ n : CW (OOne w (c6 x0 x1 true n0 n1 n2) (c3 a b c) w3.heap.size (c3 K0 K1 K2) wr.heap.size #[.bool true, .int .i64 n2]), n.w.cell? ⟨w.heap.size + 1, 2, none⟩ = some (.int .i64 c) := fun n => n.of.okey.oin.b1.cell 2
          go_wp2_with fail
          refine wp_region_in (OOne w (c6 x0 x1 true n0 n1 n2) (c3 a b c) w3.heap.size (c3 K0 K1 K2) wr.heap.size #[.bool true, .int .i64 n2]) (by kernel_rfl) (by kernel_rfl) (OOne.step _ _ I0.out (Kept.refl _ _).drew) ?_
          repeat (go_big_quiet_step (fail))
          refine wpQuiet_nil ?_
          rintro _ ⟨m1, rfl⟩
          go_wp2_with fail
          refine wp_region_in (OOne w (c6 x0 x1 true n0 n1 n2) (c3 a b c) w3.heap.size (c3 K0 K1 K2) wr.heap.size #[.bool true, .int .i64 n2]) (by kernel_rfl) (by kernel_rfl) (OOne.step _ _ m1.of (Kept.refl _ _).drew) ?_
          repeat (go_big_quiet_step (fail))
          refine wpQuiet_nil ?_
          rintro _ ⟨m2, rfl⟩
          have IN := Lib.hid m2.of.okey
          clear q0 q1 q2 q3 inst
          go_wp2_with fail
          go_roundw
          case rel => exact ⟨IN, .inr (.inr (.inr (⟨rfl, by rw [QS.out]; rfl⟩)))⟩
          case measure => decide
      | false =>
        have KV : Hid (K2 = n2) := Lib.hid (HK2.out.trans rfl)
        cases s with
        | false =>
          have I0 := Lib.hid (show OOne w (c6 x0 x1 false n0 n1 n2) (c3 a b c) w3.heap.size (c3 K0 K1 K2) wr.heap.size #[.bool false, .int .i64 n2] (wr.alloc (.cells #[.bool false, .int .i64 n2] 33)) from ⟨S.out.step ((Kept.refl _ _).alloc _), Blk.new _ _ _⟩)
          have inst : Nonempty (CW (OOne w (c6 x0 x1 false n0 n1 n2) (c3 a b c) w3.heap.size (c3 K0 K1 K2) wr.heap.size #[.bool false, .int .i64 n2])) := ⟨⟨_, I0.out⟩⟩
          have q0 : ∀ n : CW (OOne w (c6 x0 x1 false n0 n1 n2) (c3 a b c) w3.heap.size (c3 K0 K1 K2) wr.heap.size #[.bool false, .int .i64 n2]), n.w.cell? ⟨wr.heap.size, 0, none⟩ = some (.bool false) := fun n => n.of.one.cell 0
          have q1 : ∀ n : CW (OOne w (c6 x0 x1 false n0 n1 n2) (c3 a b c) w3.heap.size (c3 K0 K1 K2) wr.heap.size #[.bool false, .int .i64 n2]), n.w.cell? ⟨wr.heap.size, 1, none⟩ = some (.int .i64 n2) := fun n => n.of.one.cell 1
          have q2 : ∀ n : CW (OOne w (c6 x0 x1 false n0 n1 n2) (c3 a b c) w3.heap.size (c3 K0 K1 K2) wr.heap.size #[.bool false, .int .i64 n2]), n.w.cell? ⟨w3.heap.size, 2, none⟩ = some (.int .i64 n2) := fun n => (n.of.okey.key.cell 2).trans (by show some (Value.int IntKind.i64 K2) = _; rw [KV.out])
          have q3 : ∀ n : CW (OOne w (c6 x0 x1 false n0 n1 n2) (c3 a b c) w3.heap.size (c3 K0 K1 K2) wr.heap.size #[.bool false, .int .i64 n2]), n.w.cell? ⟨w.heap.size + 1, 2, none⟩ = some (.int .i64 c) := fun n => n.of.okey.oin.b1.cell 2
          go_wp2_with fail
          refine wp_region_in (OOne w (c6 x0 x1 false n0 n1 n2) (c3 a b c) w3.heap.size (c3 K0 K1 K2) wr.heap.size #[.bool false, .int .i64 n2]) (by kernel_rfl) (by kernel_rfl) (OOne.step _ _ I0.out (Kept.refl _ _).drew) ?_
          repeat (go_big_quiet_step (fail))
          refine wpQuiet_nil ?_
          rintro _ ⟨m1, rfl⟩
          go_wp2_with fail
          refine wp_region_in (OOne w (c6 x0 x1 false n0 n1 n2) (c3 a b c) w3.heap.size (c3 K0 K1 K2) wr.heap.size #[.bool false, .int .i64 n2]) (by kernel_rfl) (by kernel_rfl) (OOne.step _ _ m1.of (Kept.refl _ _).drew) ?_
          repeat (go_big_quiet_step (fail))
          refine wpQuiet_nil ?_
          rintro _ ⟨m2, rfl⟩
          have IN := Lib.hid m2.of.okey
          clear q0 q1 q2 q3 inst
          go_wp2_with fail
          go_roundw
          case rel => exact ⟨IN, .inr (.inr (.inr (⟨rfl, by rw [QS.out]; rfl⟩)))⟩
          case measure => decide
        | true =>
          have I0 := Lib.hid (show OOne w (c6 x0 x1 false n0 n1 n2) (c3 a b c) w3.heap.size (c3 K0 K1 K2) wr.heap.size #[.bool false, .int .i64 n2] (wr.alloc (.cells #[.bool false, .int .i64 n2] 33)) from ⟨S.out.step ((Kept.refl _ _).alloc _), Blk.new _ _ _⟩)
          have inst : Nonempty (CW (OOne w (c6 x0 x1 false n0 n1 n2) (c3 a b c) w3.heap.size (c3 K0 K1 K2) wr.heap.size #[.bool false, .int .i64 n2])) := ⟨⟨_, I0.out⟩⟩
          have q0 : ∀ n : CW (OOne w (c6 x0 x1 false n0 n1 n2) (c3 a b c) w3.heap.size (c3 K0 K1 K2) wr.heap.size #[.bool false, .int .i64 n2]), n.w.cell? ⟨wr.heap.size, 0, none⟩ = some (.bool false) := fun n => n.of.one.cell 0
          have q1 : ∀ n : CW (OOne w (c6 x0 x1 false n0 n1 n2) (c3 a b c) w3.heap.size (c3 K0 K1 K2) wr.heap.size #[.bool false, .int .i64 n2]), n.w.cell? ⟨wr.heap.size, 1, none⟩ = some (.int .i64 n2) := fun n => n.of.one.cell 1
          have q2 : ∀ n : CW (OOne w (c6 x0 x1 false n0 n1 n2) (c3 a b c) w3.heap.size (c3 K0 K1 K2) wr.heap.size #[.bool false, .int .i64 n2]), n.w.cell? ⟨w3.heap.size, 2, none⟩ = some (.int .i64 n2) := fun n => (n.of.okey.key.cell 2).trans (by show some (Value.int IntKind.i64 K2) = _; rw [KV.out])
          have q3 : ∀ n : CW (OOne w (c6 x0 x1 false n0 n1 n2) (c3 a b c) w3.heap.size (c3 K0 K1 K2) wr.heap.size #[.bool false, .int .i64 n2]), n.w.cell? ⟨w.heap.size + 1, 2, none⟩ = some (.int .i64 c) := fun n => n.of.okey.oin.b1.cell 2
          go_wp2_with fail
          refine wp_region_in (OOne w (c6 x0 x1 false n0 n1 n2) (c3 a b c) w3.heap.size (c3 K0 K1 K2) wr.heap.size #[.bool false, .int .i64 n2]) (by kernel_rfl) (by kernel_rfl) (OOne.step _ _ I0.out (Kept.refl _ _).drew) ?_
          repeat (go_big_quiet_step (fail))
          refine wpQuiet_nil ?_
          rintro _ ⟨m1, rfl⟩
          go_wp2_with fail
          refine wp_region_in (OOne w (c6 x0 x1 false n0 n1 n2) (c3 a b c) w3.heap.size (c3 K0 K1 K2) wr.heap.size #[.bool false, .int .i64 n2]) (by kernel_rfl) (by kernel_rfl) (OOne.step _ _ m1.of (Kept.refl _ _).drew) ?_
          repeat (go_big_quiet_step (fail))
          refine wpQuiet_nil ?_
          rintro _ ⟨m2, rfl⟩
          have IN := Lib.hid m2.of.okey
          clear q0 q1 q2 q3 inst
          go_wp2_with fail
          go_roundw
          case rel => exact ⟨IN, .inr (.inr (.inr (⟨rfl, by rw [QS.out]; rfl⟩)))⟩
          case measure => decide
    · obtain ⟨p0, p1, p2⟩ := S.out.oin.tri
      have r0 : wr.cell? ⟨w3.heap.size, 0, none⟩ = some (.int .i64 K0) := S.out.key.cell 0
      have r1 : wr.cell? ⟨w3.heap.size, 1, none⟩ = some (.int .i64 K1) := S.out.key.cell 1
      have r2 : wr.cell? ⟨w3.heap.size, 2, none⟩ = some (.int .i64 K2) := S.out.key.cell 2
      go_wp2_with fail
      refine (CH.out _).mono ?_
      rintro e w4 ⟨rfl, k4⟩
      have S5 := Lib.hid (S.out.step k4)
      clear p0 p1 p2 r0 r1 r2
      go_wp2_with fail
      refine (CA.out _ (HE.out.kept S5.out.oin.kept)).mono ?_
      rintro e w5 ⟨rfl, k5⟩
      go_wp2_with fail
      go_ret
      exact ⟨rfl, (S5.out.step k5).oin.kept⟩

theorem lawOf_any (x0 x1 x2 : Bool) (n0 n1 n2 : Int) (t : T3) (w : World) (E : TabW w) :
    Calls Tryd.prog 4 #[valL x0 x1 x2 n0 n1 n2, arr t] w fun e w' => e = .returned (.bool true) ∧ Kept Nil w w' := by
  obtain ⟨a, b, c⟩ := t
  cases hf : fine x0 x1 x2 n0 n1 n2 with
  | false => exact of_no1 x0 x1 x2 n0 n1 n2 a b c w E hf
  | true =>
    cases ht : okT (a, b, c) with
    | false => exact of_no2 x0 x1 x2 n0 n1 n2 a b c w E hf ht
    | true => exact of_yes x0 x1 x2 n0 n1 n2 a b c w E hf ht
end Go.Proofs.YtjknibgbbhiooaaDoor
