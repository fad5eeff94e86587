/- A triple has its eight keys, and no others: KeyAll returns true, and writes nothing that was there. No condition but Go's own variables. -/
import Derived.Test.YtjknibgbbhiooaaDoorKLawFewer
namespace Go.Proofs.YtjknibgbbhiooaaDoor
open Go.RowKit
set_option maxRecDepth 100000

theorem Two.tab {w : World} {c d : Array Value} (E : TabW w) (n : CW (Two w c d)) : TabW n.w := E.kept n.of.kept
theorem Two.stepC {w : World} {c d : Array Value} (W W' : World) (h : Two w c d W) (k : Kept Nil W W') : Two w c d W' := h.step k
/-- Worlds in which what came in, the eight keys, and the one that is looked at lie as they were laid. -/
structure KIn (w : World) (c d : Array Value) (T : T3) (g xb : Nat) (e : Array Value) (W : World) : Prop where
  two : Two w c d W
  keys : Keys8 T g W
  one : Blk W xb 23 e
theorem KIn.step {w : World} {c d : Array Value} {T : T3} {g xb : Nat} {e : Array Value} (W W' : World) (h : KIn w c d T g xb e W) (k : Kept Nil W W') : KIn w c d T g xb e W' := ⟨h.two.step k, h.keys.kept k, h.one.kept k id⟩

theorem all_no1 (t k : T3) (w : World) (E : TabW w) (ht : okT t = false) :
    Calls Tryd.prog 3 #[arr t, arr k] w fun e w' => e = .returned (.bool true) ∧ Kept Nil w w' := by
  have cs : ∀ W : World, Calls Tryd.prog 8 #[arr t] W fun e w' => e = .returned (.bool (okT t)) ∧ Kept Nil W w' := fun W => refRight_any t W
  rw [ht] at cs
  obtain ⟨a, b, c⟩ := t
  obtain ⟨x, y, z⟩ := k
  have CS : Hid (∀ W : World, Calls Tryd.prog 8 #[.agg #[.int .i64 a, .int .i64 b, .int .i64 c]] W fun e w' => e = .returned (.bool false) ∧ Kept Nil W w') := Lib.hid cs
  have CA : Hid (∀ W : World, TabW W → Calls Tryd.prog 10 #[] W fun e w' => e = .returned (.bool true) ∧ Kept Nil W w') := Lib.hid fun W h => awake_any W h
  have HE := Lib.hid E
  clear cs ht E
  show Calls Tryd.prog 3 #[.agg #[.int .i64 a, .int .i64 b, .int .i64 c], .agg #[.int .i64 x, .int .i64 y, .int .i64 z]] w _
  go_enter Tryd.func3, Tryd.ntmps3
  go_wp2_with fail
  refine (CS.out _).mono ?_
  rintro e w1 ⟨rfl, k1⟩
  have K1 := Lib.hid ((((Kept.refl Nil w).alloc (.cells #[.int .i64 a, .int .i64 b, .int .i64 c] 23)).alloc (.cells #[.int .i64 x, .int .i64 y, .int .i64 z] 23)).trans k1 (fun _ _ g => g))
  go_wp2_with fail
  refine (CA.out _ (HE.out.kept K1.out)).mono ?_
  rintro e w2 ⟨rfl, k2⟩
  go_wp2_with fail
  go_ret
  exact ⟨rfl, K1.out.trans k2 (fun _ _ g => g)⟩
theorem all_no2 (t k : T3) (w : World) (E : TabW w) (ht : okT t = true) (hk : okKT k = false) :
    Calls Tryd.prog 3 #[arr t, arr k] w fun e w' => e = .returned (.bool true) ∧ Kept Nil w w' := by
  have cs : ∀ W : World, Calls Tryd.prog 8 #[arr t] W fun e w' => e = .returned (.bool (okT t)) ∧ Kept Nil W w' := fun W => refRight_any t W
  have ck : ∀ W : World, Calls Tryd.prog 9 #[arr k] W fun e w' => e = .returned (.bool (okKT k)) ∧ Kept Nil W w' := fun W => kRefRight_any k W
  rw [ht] at cs
  rw [hk] at ck
  obtain ⟨a, b, c⟩ := t
  obtain ⟨x, y, z⟩ := k
  have CS : Hid (∀ W : World, Calls Tryd.prog 8 #[.agg #[.int .i64 a, .int .i64 b, .int .i64 c]] W fun e w' => e = .returned (.bool true) ∧ Kept Nil W w') := Lib.hid cs
  have CK : Hid (∀ W : World, Calls Tryd.prog 9 #[.agg #[.int .i64 x, .int .i64 y, .int .i64 z]] W fun e w' => e = .returned (.bool false) ∧ Kept Nil W w') := Lib.hid ck
  have CA : Hid (∀ W : World, TabW W → Calls Tryd.prog 10 #[] W fun e w' => e = .returned (.bool true) ∧ Kept Nil W w') := Lib.hid fun W h => awake_any W h
  have HE := Lib.hid E
  clear cs ck ht hk E
  have S0 := Lib.hid (Two.start w (c3 a b c) (c3 x y z))
  show Calls Tryd.prog 3 #[.agg #[.int .i64 a, .int .i64 b, .int .i64 c], .agg #[.int .i64 x, .int .i64 y, .int .i64 z]] w _
  go_enter Tryd.func3, Tryd.ntmps3
  go_wp2_with fail
  refine (CS.out _).mono ?_
  rintro e w1 ⟨rfl, k1⟩
  have S1 := Lib.hid (S0.out.step k1)
  obtain ⟨_, p0, p1, p2⟩ := S1.out.facts
  go_wp2_with fail
  refine (CK.out _).mono ?_
  rintro e w2 ⟨rfl, k2⟩
  have S2 := Lib.hid (S1.out.step k2)
  clear p0 p1 p2
  go_wp2_with fail
  refine (CA.out _ (HE.out.kept S2.out.kept)).mono ?_
  rintro e w3 ⟨rfl, k3⟩
  go_wp2_with fail
  go_ret
  exact ⟨rfl, (S2.out.step k3).kept⟩

set_option maxHeartbeats 4000000 in
theorem all_yes (t k : T3) (w : World) (E : TabW w) (ht : okT t = true) (hk : okKT k = true) :
    Calls Tryd.prog 3 #[arr t, arr k] w fun e w' => e = .returned (.bool true) ∧ Kept Nil w w' := by
  have cs : ∀ W : World, Calls Tryd.prog 8 #[arr t] W fun e w' => e = .returned (.bool (okT t)) ∧ Kept Nil W w' := fun W => refRight_any t W
  have ck : ∀ W : World, Calls Tryd.prog 9 #[arr k] W fun e w' => e = .returned (.bool (okKT k)) ∧ Kept Nil W w' := fun W => kRefRight_any k W
  rw [ht] at cs
  rw [hk] at ck
  obtain ⟨T, hT⟩ : ∃ T, T = t := ⟨_, rfl⟩
  obtain ⟨K, hK⟩ : ∃ K, K = k := ⟨_, rfl⟩
  obtain ⟨a, b, c⟩ := t
  obtain ⟨x, y, z⟩ := k
  have CS : Hid (∀ W : World, Calls Tryd.prog 8 #[.agg #[.int .i64 a, .int .i64 b, .int .i64 c]] W fun e w' => e = .returned (.bool true) ∧ Kept Nil W w') := Lib.hid cs
  have CK : Hid (∀ W : World, Calls Tryd.prog 9 #[.agg #[.int .i64 x, .int .i64 y, .int .i64 z]] W fun e w' => e = .returned (.bool true) ∧ Kept Nil W w') := Lib.hid ck
  have CA : Hid (∀ W : World, TabW W → Calls Tryd.prog 10 #[] W fun e w' => e = .returned (.bool true) ∧ Kept Nil W w') := Lib.hid fun W h => awake_any W h
  have CL : Hid (∀ W : World, Calls Tryd.prog 11 #[.agg #[.int .i64 a, .int .i64 b, .int .i64 c]] W (AllEnd T W)) := Lib.hid fun W => by rw [hT]; exact all_any (a, b, c) W
  have CY : Hid (∀ (j : Nat) (p q r : Int) (W : World), j < 8 → keyT T j = (p, q, r) → Calls Tryd.prog 12 #[.agg #[.int .i64 a, .int .i64 b, .int .i64 c], .int .i64 j] W fun e w' => e = .returned (.agg #[.int .i64 p, .int .i64 q, .int .i64 r]) ∧ Kept Nil W w') := Lib.hid fun j p q r W hj e => by have := refKey_any (a, b, c) j hj W; rw [← hT, e, hT] at this; exact this
  have CX : Hid (∀ (j : Nat) (p q r : Int) (W : World), keyT T j = (p, q, r) → Calls Tryd.prog 13 #[.agg #[.int .i64 a, .int .i64 b, .int .i64 c], .agg #[.int .i64 p, .int .i64 q, .int .i64 r]] W fun e w' => e = .returned (.bool true) ∧ Kept Nil W w') := Lib.hid fun j p q r W e => by have := has_any (a, b, c) (p, q, r) W; rw [← e, hT, key_has] at this; rw [hT] at e; rw [e] at this; exact this
  have CN : Hid (∀ (j : Nat) (p q r : Int) (W : World), j < 8 → keyT T j = (p, q, r) → Calls Tryd.prog 14 #[.agg #[.int .i64 p, .int .i64 q, .int .i64 r]] W fun e w' => e = .returned (.int .i64 j) ∧ Kept Nil W w') := Lib.hid fun j p q r W hj e => by have := number_any (p, q, r) W; rw [← e, hT, key_num ht hj] at this; rw [hT] at e; rw [e] at this; exact this
  obtain ⟨h, hh⟩ : ∃ h, h = hasK T K := ⟨_, rfl⟩
  have CH : Hid (∀ W : World, Calls Tryd.prog 13 #[.agg #[.int .i64 a, .int .i64 b, .int .i64 c], .agg #[.int .i64 x, .int .i64 y, .int .i64 z]] W fun e w' => e = .returned (.bool h) ∧ Kept Nil W w') := Lib.hid fun W => by rw [hh, hT, hK]; exact has_any (a, b, c) (x, y, z) W
  have CR : Hid (∀ W : World, Calls Tryd.prog 15 #[.agg #[.int .i64 a, .int .i64 b, .int .i64 c], .agg #[.int .i64 x, .int .i64 y, .int .i64 z]] W fun e w' => e = .returned (.bool h) ∧ Kept Nil W w') := Lib.hid fun W => by rw [hh, hT, hK]; exact refHas_any (a, b, c) (x, y, z) W
  have HH : Hid (isK T K 8 = h) := Lib.hid (by rw [isK_has, hh])
  have HK := Lib.hid hK
  have HE := Lib.hid E
  clear cs ck ht hk E hh hT hK
  have S0 := Lib.hid (Two.start w (c3 a b c) (c3 x y z))
  show Calls Tryd.prog 3 #[.agg #[.int .i64 a, .int .i64 b, .int .i64 c], .agg #[.int .i64 x, .int .i64 y, .int .i64 z]] w _
  go_enter Tryd.func3, Tryd.ntmps3
  go_wp2_with fail
  refine (CS.out _).mono ?_
  rintro e w1 ⟨rfl, k1⟩
  have S1 := Lib.hid (S0.out.step k1)
  obtain ⟨⟨o0, o1, o2⟩, p0, p1, p2⟩ := S1.out.facts
  go_wp2_with fail
  refine (CK.out _).mono ?_
  rintro e w2 ⟨rfl, k2⟩
  have S2 := Lib.hid (S1.out.step k2)
  clear o0 o1 o2 p0 p1 p2
  obtain ⟨⟨o0, o1, o2⟩, p0, p1, p2⟩ := S2.out.facts
  go_wp2_with fail
  refine (CL.out _).mono ?_
  rintro e w3 ⟨g, cap, rfl, hc, h8, k3⟩
  have S3 := Lib.hid (S2.out.step k3)
  have H8 := Lib.hid h8
  clear o0 o1 o2 p0 p1 p2 h8
  go_wp2_with fail
  go_loopw [6, 25] (fun s i wr => ∃ j : Nat, j ≤ 8 ∧ i = .int .i64 j ∧ s = .bool (isK T K j) ∧ Hid (Two w (c3 a b c) (c3 x y z) wr) ∧ Hid (Keys8 T g wr)) (fun _ i _ => 8 - (intOf i).toNat)
  case atStart => exact ⟨0, Nat.zero_le _, rfl, rfl, S3, H8⟩
  case round =>
    obtain ⟨j, hj, rfl, rfl, S, HJ⟩ := hrel
    clear S0 S1 S2 S3 H8
    by_cases hlt : j < 8
    · obtain ⟨⟨p, q, r⟩, hpqr⟩ : ∃ u, keyT T j = u := ⟨_, rfl⟩
      obtain ⟨m0, m1, m2⟩ := HJ.out j hlt
      rw [hpqr] at m0 m1 m2
      have HP := Lib.hid hpqr
      have I0 := Lib.hid (show KIn w (c3 a b c) (c3 x y z) T g wr.heap.size (c3 p q r) (wr.alloc (.cells (c3 p q r) 23)) from ⟨S.out.alloc _, HJ.out.kept ((Kept.refl _ _).alloc _), Blk.new _ _ _⟩)
      have inst : Nonempty (CW (KIn w (c3 a b c) (c3 x y z) T g wr.heap.size (c3 p q r))) := ⟨⟨_, I0.out⟩⟩
      have q0 : ∀ n : CW (KIn w (c3 a b c) (c3 x y z) T g wr.heap.size (c3 p q r)), n.w.cell? ⟨w.heap.size, 0, none⟩ = some (.int .i64 a) := fun n => n.of.two.facts.1.1
      have q1 : ∀ n : CW (KIn w (c3 a b c) (c3 x y z) T g wr.heap.size (c3 p q r)), n.w.cell? ⟨w.heap.size, 1, none⟩ = some (.int .i64 b) := fun n => n.of.two.facts.1.2.1
      have q2 : ∀ n : CW (KIn w (c3 a b c) (c3 x y z) T g wr.heap.size (c3 p q r)), n.w.cell? ⟨w.heap.size, 2, none⟩ = some (.int .i64 c) := fun n => n.of.two.facts.1.2.2
      have u0 : ∀ n : CW (KIn w (c3 a b c) (c3 x y z) T g wr.heap.size (c3 p q r)), n.w.cell? ⟨wr.heap.size, 0, none⟩ = some (.int .i64 p) := fun n => n.of.one.cell 0
      have u1 : ∀ n : CW (KIn w (c3 a b c) (c3 x y z) T g wr.heap.size (c3 p q r)), n.w.cell? ⟨wr.heap.size, 1, none⟩ = some (.int .i64 q) := fun n => n.of.one.cell 1
      have u2 : ∀ n : CW (KIn w (c3 a b c) (c3 x y z) T g wr.heap.size (c3 p q r)), n.w.cell? ⟨wr.heap.size, 2, none⟩ = some (.int .i64 r) := fun n => n.of.one.cell 2
      have e0 : ∀ W, (Op.equalIn 10000 23 (.agg #[.int .i64 p, .int .i64 q, .int .i64 r]) (.agg #[.int .i64 p, .int .i64 q, .int .i64 r])).run Tryd.prog W = .ok true W := fun W => by rw [eqT]; simp
      obtain ⟨d, hd⟩ : ∃ d, d = decide ((p, q, r) = (x, y, z)) := ⟨_, rfl⟩
      have e1 : ∀ W, (Op.equalIn 10000 23 (.agg #[.int .i64 p, .int .i64 q, .int .i64 r]) (.agg #[.int .i64 x, .int .i64 y, .int .i64 z])).run Tryd.prog W = .ok d W := fun W => by rw [eqT, hd]
      obtain ⟨s, hs⟩ : ∃ s, s = isK T K j := ⟨_, rfl⟩
      have HI : Hid (isK T K (j + 1) = (s || d)) := Lib.hid (by rw [hs, hd]; show (isK T K j || decide (keyT T j = K)) = _; rw [HP.out, HK.out])
      rw [← hs]
      have K0 : Hid (∀ W : World, Calls Tryd.prog 12 #[.agg #[.int .i64 a, .int .i64 b, .int .i64 c], .int .i64 j] W fun e w' => e = .returned (.agg #[.int .i64 p, .int .i64 q, .int .i64 r]) ∧ Kept Nil W w') := Lib.hid fun W => CY.out j p q r W hlt HP.out
      have X0 : Hid (∀ W : World, Calls Tryd.prog 13 #[.agg #[.int .i64 a, .int .i64 b, .int .i64 c], .agg #[.int .i64 p, .int .i64 q, .int .i64 r]] W fun e w' => e = .returned (.bool true) ∧ Kept Nil W w') := Lib.hid fun W => CX.out j p q r W HP.out
      have N0 : Hid (∀ W : World, Calls Tryd.prog 14 #[.agg #[.int .i64 p, .int .i64 q, .int .i64 r]] W fun e w' => e = .returned (.int .i64 j) ∧ Kept Nil W w') := Lib.hid fun W => CN.out j p q r W hlt HP.out
      have hjc : (j : Int) < 8 := by omega
      clear hpqr hd hs
      cases s with
      | false =>
        go_wp2_with fail
        refine wp_region_in (KIn w (c3 a b c) (c3 x y z) T g wr.heap.size (c3 p q r)) (by kernel_rfl) (by kernel_rfl) (KIn.step _ _ I0.out (Kept.refl _ _).drew) ?_
        repeat (go_big_quiet_step ((first | (go_at_call 12; with_reducible exact call_in KIn.step (K0.out _)) | (go_at_call 13; with_reducible exact call_in KIn.step (X0.out _)) | (go_at_call 14; with_reducible exact call_in KIn.step (N0.out _)))))
        refine wpQuiet_nil ?_
        rintro _ ⟨n, rfl⟩
        have IN := Lib.hid n.of
        have v0 := u0 n
        have v1 := u1 n
        have v2 := u2 n
        obtain ⟨_, t0, t1, t2⟩ := n.of.two.facts
        clear q0 q1 q2 u0 u1 u2 inst m0 m1 m2
        go_wp2_with fail
        go_roundw
        case rel => exact ⟨j + 1, hlt, by go_num, by rw [HI.out, Bool.false_or], Lib.hid IN.out.two, Lib.hid IN.out.keys⟩
        case measure => simp [intOf]; omega
      | true =>
        go_wp2_with fail
        refine wp_region_in (KIn w (c3 a b c) (c3 x y z) T g wr.heap.size (c3 p q r)) (by kernel_rfl) (by kernel_rfl) (KIn.step _ _ I0.out (Kept.refl _ _).drew) ?_
        repeat (go_big_quiet_step ((first | (go_at_call 12; with_reducible exact call_in KIn.step (K0.out _)) | (go_at_call 13; with_reducible exact call_in KIn.step (X0.out _)) | (go_at_call 14; with_reducible exact call_in KIn.step (N0.out _)))))
        refine wpQuiet_nil ?_
        rintro _ ⟨n, rfl⟩
        have IN := Lib.hid n.of
        clear q0 q1 q2 u0 u1 u2 inst m0 m1 m2
        go_wp2_with fail
        go_roundw
        case rel => exact ⟨j + 1, hlt, by go_num, by rw [HI.out, Bool.true_or], Lib.hid IN.out.two, Lib.hid IN.out.keys⟩
        case measure => simp [intOf]; omega
    · have he : j = 8 := by omega
      subst he
      rw [HH.out]
      have inst : Nonempty (CW (Two w (c3 a b c) (c3 x y z))) := ⟨⟨_, S.out⟩⟩
      have q0 : ∀ n : CW (Two w (c3 a b c) (c3 x y z)), n.w.cell? ⟨w.heap.size, 0, none⟩ = some (.int .i64 a) := fun n => n.of.facts.1.1
      have q1 : ∀ n : CW (Two w (c3 a b c) (c3 x y z)), n.w.cell? ⟨w.heap.size, 1, none⟩ = some (.int .i64 b) := fun n => n.of.facts.1.2.1
      have q2 : ∀ n : CW (Two w (c3 a b c) (c3 x y z)), n.w.cell? ⟨w.heap.size, 2, none⟩ = some (.int .i64 c) := fun n => n.of.facts.1.2.2
      have u0 : ∀ n : CW (Two w (c3 a b c) (c3 x y z)), n.w.cell? ⟨w.heap.size + 1, 0, none⟩ = some (.int .i64 x) := fun n => n.of.facts.2.1
      have u1 : ∀ n : CW (Two w (c3 a b c) (c3 x y z)), n.w.cell? ⟨w.heap.size + 1, 1, none⟩ = some (.int .i64 y) := fun n => n.of.facts.2.2.1
      have u2 : ∀ n : CW (Two w (c3 a b c) (c3 x y z)), n.w.cell? ⟨w.heap.size + 1, 2, none⟩ = some (.int .i64 z) := fun n => n.of.facts.2.2.2
      go_wp2_with fail
      refine wp_region_in (Two w (c3 a b c) (c3 x y z)) (by kernel_rfl) (by kernel_rfl) (Two.drew S.out) ?_
      repeat (go_big_quiet_step ((first | (go_at_call 13; with_reducible exact call_in Two.stepC (CH.out _)) | (go_at_call 15; with_reducible exact call_in Two.stepC (CR.out _)) | (go_at_call 10; with_reducible exact call_in Two.stepC (CA.out _ (Two.tab HE.out _))))))
      refine wpQuiet_nil ?_
      rintro _ ⟨n, rfl⟩
      go_wp2_with fail
      go_ret
      exact ⟨rfl, n.of.kept⟩

theorem lawAll_any (t k : T3) (w : World) (E : TabW w) :
    Calls Tryd.prog 3 #[arr t, arr k] w fun e w' => e = .returned (.bool true) ∧ Kept Nil w w' := by
  cases h : okT t with
  | false => exact all_no1 t k w E h
  | true =>
    cases h' : okKT k with
    | false => exact all_no2 t k w E h h'
    | true => exact all_yes t k w E h h'
end Go.Proofs.YtjknibgbbhiooaaDoor
