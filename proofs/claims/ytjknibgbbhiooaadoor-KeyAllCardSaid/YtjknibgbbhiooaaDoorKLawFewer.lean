/- A triple that has a key has each that asks for less, or for a field of its own: KeyFewer returns true, and writes nothing that was there. No condition but Go's own variables. -/
import Derived.Test.YtjknibgbbhiooaaDoorKAwake
namespace Go.Proofs.YtjknibgbbhiooaaDoor
open Go.RowKit
set_option maxRecDepth 100000

/-- Two blocks of a call. -/
structure Two (w : World) (c d : Array Value) (W : World) : Prop where
  kept : Kept Nil w W
  b0 : Blk W w.heap.size 23 c
  b1 : Blk W (w.heap.size + 1) 23 d
theorem Two.start (w : World) (c d : Array Value) : Two w c d ((w.alloc (.cells c 23)).alloc (.cells d 23)) := by
  refine ⟨((Kept.refl Nil w).alloc _).alloc _, (Blk.new w _ _).alloc _, ?_⟩
  have := Blk.new (w.alloc (.cells c 23)) 23 d
  simpa using this
section
variable {w W W' : World} {c d : Array Value}
theorem Two.step (h : Two w c d W) (k : Kept Nil W W') : Two w c d W' := ⟨h.kept.trans k (fun _ _ g => g), h.b0.kept k id, h.b1.kept k id⟩
theorem Two.alloc (h : Two w c d W) (o : Obj) : Two w c d (W.alloc o) := h.step ((Kept.refl _ _).alloc o)
theorem Two.drew (h : Two w c d W) : Two w c d W.drew := h.step ((Kept.refl _ _).drew)
theorem Two.set_ (h : Two w c d W) {p : Addr} (hp : w.heap.size + 2 ≤ p.block) (u : Value) : Two w c d (W.setCell p u) :=
  ⟨h.kept.setCell _ (.inr (by omega)) _, h.b0.far (by omega) _, h.b1.far (by omega) _⟩
theorem Two.lt (h : Two w c d W) : w.heap.size + 2 ≤ W.heap.size := h.b1.lt
theorem Two.facts {a b c x y z : Int} (h : Two w (c3 a b c) (c3 x y z) W) :
    (W.cell? ⟨w.heap.size, 0, none⟩ = some (.int .i64 a) ∧ W.cell? ⟨w.heap.size, 1, none⟩ = some (.int .i64 b) ∧ W.cell? ⟨w.heap.size, 2, none⟩ = some (.int .i64 c)) ∧
    (W.cell? ⟨w.heap.size + 1, 0, none⟩ = some (.int .i64 x) ∧ W.cell? ⟨w.heap.size + 1, 1, none⟩ = some (.int .i64 y) ∧ W.cell? ⟨w.heap.size + 1, 2, none⟩ = some (.int .i64 z)) :=
  ⟨⟨h.b0.cell 0, h.b0.cell 1, h.b0.cell 2⟩, ⟨h.b1.cell 0, h.b1.cell 1, h.b1.cell 2⟩⟩
end

/-- What the law asks first: is it a triple, and a key? -/
theorem fewer_no1 (t k : T3) (w : World) (E : TabW w) (ht : okT t = false) :
    Calls Tryd.prog 7 #[arr t, arr k] w fun e w' => e = .returned (.bool true) ∧ Kept Nil w w' := by
  have cs : ∀ W : World, Calls Tryd.prog 8 #[arr t] W fun e w' => e = .returned (.bool (okT t)) ∧ Kept Nil W w' := fun W => refRight_any t W
  rw [ht] at cs
  obtain ⟨a, b, c⟩ := t
  obtain ⟨x, y, z⟩ := k
  have CS : Hid (∀ W : World, Calls Tryd.prog 8 #[.agg #[.int .i64 a, .int .i64 b, .int .i64 c]] W fun e w' => e = .returned (.bool false) ∧ Kept Nil W w') := Lib.hid cs
  have CA : Hid (∀ W : World, TabW W → Calls Tryd.prog 10 #[] W fun e w' => e = .returned (.bool true) ∧ Kept Nil W w') := Lib.hid fun W h => awake_any W h
  have HE := Lib.hid E
  clear cs ht E
  show Calls Tryd.prog 7 #[.agg #[.int .i64 a, .int .i64 b, .int .i64 c], .agg #[.int .i64 x, .int .i64 y, .int .i64 z]] w _
  go_enter Tryd.func7, Tryd.ntmps7
  go_wp2_with fail
  refine (CS.out _).mono ?_
  rintro e w1 ⟨rfl, k1⟩
  have K1 := Lib.hid ((((Kept.refl Nil w).alloc (.cells #[.int .i64 a, .int .i64 b, .int .i64 c] 23)).alloc (.cells #[.int .i64 x, .int .i64 y, .int .i64 z] 23)).trans k1 (fun _ _ g => g))
  go_wp2_with fail
  refine (CA.out _ (HE.out.kept K1.out)).mono ?_
  rintro e w2 ⟨rfl, k2⟩
  go_wp2_with fail
  go_ret
  exact ⟨rfl, K1.out.trans k2 (fun _ _ g => g)⟩
theorem fewer_no2 (t k : T3) (w : World) (E : TabW w) (ht : okT t = true) (hk : okKT k = false) :
    Calls Tryd.prog 7 #[arr t, arr k] w fun e w' => e = .returned (.bool true) ∧ Kept Nil w w' := by
  have cs : ∀ W : World, Calls Tryd.prog 8 #[arr t] W fun e w' => e = .returned (.bool (okT t)) ∧ Kept Nil W w' := fun W => refRight_any t W
  have ck : ∀ W : World, Calls Tryd.prog 9 #[arr k] W fun e w' => e = .returned (.bool (okKT k)) ∧ Kept Nil W w' := fun W => kRefRight_any k W
  rw [ht] at cs
  rw [hk] at ck
  obtain ⟨a, b, c⟩ := t
  obtain ⟨x, y, z⟩ := k
  have CS : Hid (∀ W : World, Calls Tryd.prog 8 #[.agg #[.int .i64 a, .int .i64 b, .int .i64 c]] W fun e w' => e = .returned (.bool true) ∧ Kept Nil W w') := Lib.hid cs
  have CK : Hid (∀ W : World, Calls Tryd.prog 9 #[.agg #[.int .i64 x, .int .i64 y, .int .i64 z]] W fun e w' => e = .returned (.bool false) ∧ Kept Nil W w') := Lib.hid ck
  have CA : Hid (∀ W : World, TabW W → Calls Tryd.prog 10 #[] W fun e w' => e = .returned (.bool true) ∧ Kept Nil W w') := Lib.hid fun W h => awake_any W h
  have HE := Lib.hid E
  clear cs ck ht hk E
  have S0 := Lib.hid (Two.start w (c3 a b c) (c3 x y z))
  show Calls Tryd.prog 7 #[.agg #[.int .i64 a, .int .i64 b, .int .i64 c], .agg #[.int .i64 x, .int .i64 y, .int .i64 z]] w _
  go_enter Tryd.func7, Tryd.ntmps7
  go_wp2_with fail
  refine (CS.out _).mono ?_
  rintro e w1 ⟨rfl, k1⟩
  have S1 := Lib.hid (S0.out.step k1)
  obtain ⟨_, p0, p1, p2⟩ := S1.out.facts
  go_wp2_with fail
  refine (CK.out _).mono ?_
  rintro e w2 ⟨rfl, k2⟩
  have S2 := Lib.hid (S1.out.step k2)
  clear p0 p1 p2
  go_wp2_with fail
  refine (CA.out _ (HE.out.kept S2.out.kept)).mono ?_
  rintro e w3 ⟨rfl, k3⟩
  go_wp2_with fail
  go_ret
  exact ⟨rfl, (S2.out.step k3).kept⟩

set_option maxHeartbeats 2000000 in
theorem fewer_yes (t k : T3) (w : World) (E : TabW w) (ht : okT t = true) (hk : okKT k = true) :
    Calls Tryd.prog 7 #[arr t, arr k] w fun e w' => e = .returned (.bool true) ∧ Kept Nil w w' := by
  have cs : ∀ W : World, Calls Tryd.prog 8 #[arr t] W fun e w' => e = .returned (.bool (okT t)) ∧ Kept Nil W w' := fun W => refRight_any t W
  have ck : ∀ W : World, Calls Tryd.prog 9 #[arr k] W fun e w' => e = .returned (.bool (okKT k)) ∧ Kept Nil W w' := fun W => kRefRight_any k W
  rw [ht] at cs
  rw [hk] at ck
  obtain ⟨a, b, c⟩ := t
  obtain ⟨x, y, z⟩ := k
  have CS : Hid (∀ W : World, Calls Tryd.prog 8 #[.agg #[.int .i64 a, .int .i64 b, .int .i64 c]] W fun e w' => e = .returned (.bool true) ∧ Kept Nil W w') := Lib.hid cs
  have CK : Hid (∀ W : World, Calls Tryd.prog 9 #[.agg #[.int .i64 x, .int .i64 y, .int .i64 z]] W fun e w' => e = .returned (.bool true) ∧ Kept Nil W w') := Lib.hid ck
  have CA : Hid (∀ W : World, TabW W → Calls Tryd.prog 10 #[] W fun e w' => e = .returned (.bool true) ∧ Kept Nil W w') := Lib.hid fun W h => awake_any W h
  obtain ⟨h, hh⟩ : ∃ h, h = hasK (a, b, c) (x, y, z) := ⟨_, rfl⟩
  have CH : Hid (∀ W : World, Calls Tryd.prog 13 #[.agg #[.int .i64 a, .int .i64 b, .int .i64 c], .agg #[.int .i64 x, .int .i64 y, .int .i64 z]] W fun e w' => e = .returned (.bool h) ∧ Kept Nil W w') := Lib.hid fun W => by rw [hh]; exact has_any (a, b, c) (x, y, z) W
  have CX : Hid (∀ (p q r : Int) (W : World), hasK (a, b, c) (p, q, r) = true → Calls Tryd.prog 13 #[.agg #[.int .i64 a, .int .i64 b, .int .i64 c], .agg #[.int .i64 p, .int .i64 q, .int .i64 r]] W fun e w' => e = .returned (.bool true) ∧ Kept Nil W w') := Lib.hid fun p q r W e => by have := has_any (a, b, c) (p, q, r) W; rw [e] at this; exact this
  have HH : Hid (h = true → (x = 0 ∨ x = a) ∧ (y = 0 ∨ y = b) ∧ (z = 0 ∨ z = c)) := Lib.hid fun e => hasK_iff.1 (hh.symm.trans e)
  have HZ : Hid (hasK (a, b, c) (0, 0, 0) = true) := Lib.hid (hasK_iff.2 ⟨.inl rfl, .inl rfl, .inl rfl⟩)
  have HT : Hid (hasK (a, b, c) (a, b, c) = true) := Lib.hid (hasK_iff.2 ⟨.inr rfl, .inr rfl, .inr rfl⟩)
  have HE := Lib.hid E
  clear cs ck ht hk E hh
  have S0 := Lib.hid (Two.start w (c3 a b c) (c3 x y z))
  show Calls Tryd.prog 7 #[.agg #[.int .i64 a, .int .i64 b, .int .i64 c], .agg #[.int .i64 x, .int .i64 y, .int .i64 z]] w _
  go_enter Tryd.func7, Tryd.ntmps7
  go_wp2_with fail
  refine (CS.out _).mono ?_
  rintro e w1 ⟨rfl, k1⟩
  have S1 := Lib.hid (S0.out.step k1)
  obtain ⟨⟨o0, o1, o2⟩, p0, p1, p2⟩ := S1.out.facts
  go_wp2_with fail
  refine (CK.out _).mono ?_
  rintro e w2 ⟨rfl, k2⟩
  have S2 := Lib.hid (S1.out.step k2)
  clear o0 o1 o2 p0 p1 p2
  obtain ⟨⟨o0, o1, o2⟩, p0, p1, p2⟩ := S2.out.facts
  go_wp2_with fail
  refine (CH.out _).mono ?_
  rintro e w3 ⟨rfl, k3⟩
  have S3 := Lib.hid (S2.out.step k3)
  clear o0 o1 o2 p0 p1 p2
  go_wp2_with fail
  go_loopw [20] (fun i wr => Hid (Two w (c3 a b c) (c3 x y z) wr) ∧ (i = .int .i64 0 ∨ i = .int .i64 1 ∨ i = .int .i64 2 ∨ i = .int .i64 3)) (fun i _ => (3 - intOf i).toNat)
  case atStart => exact ⟨S3, .inl rfl⟩
  case round =>
    obtain ⟨S, hrel⟩ := hrel
    obtain ⟨⟨o0, o1, o2⟩, p0, p1, p2⟩ := S.out.facts
    have hl := S.out.lt
    have hl0 : w.heap.size < wr.heap.size := by omega
    have hl1 : w.heap.size + 1 < wr.heap.size := by omega
    clear S0 S1 S2 S3
    rcases hrel with rfl | rfl | rfl | rfl
    · cases h with
      | false =>
        go_wp2_with fail
        go_roundw
        case rel => exact ⟨Lib.hid (S.out.alloc _), .inr (.inl rfl)⟩
        case measure => decide
      | true =>
        go_wp2_with fail
        refine (CX.out 0 y z _ (hasK_iff.2 ⟨.inl rfl, (HH.out trivial).2.1, (HH.out trivial).2.2⟩)).mono ?_
        rintro e w4 ⟨rfl, k4⟩
        have O4 := Lib.hid (keep3 (own3a wr (.int .i64 0) (.int .i64 y) (.int .i64 z) 23) k4)
        have F4 : ∀ i : Nat, w4.frozen? ⟨wr.heap.size, i, none⟩ = false := fun i => ((Blk.new wr 23 (c3 0 y z)).kept k4 id).frozen i
        have f0 := F4 0
        have hl4 : wr.heap.size < w4.heap.size := ((Blk.new wr 23 (c3 0 y z)).kept k4 id).lt
        have S4 := Lib.hid ((S.out.alloc _).step k4)
        clear o0 o1 o2 p0 p1 p2 F4
        obtain ⟨⟨o0, o1, o2⟩, _⟩ := S4.out.facts
        obtain ⟨q0, q1, q2, _⟩ := O4.out
        go_wp2_with fail
        refine (CX.out a y z _ (hasK_iff.2 ⟨.inr rfl, (HH.out trivial).2.1, (HH.out trivial).2.2⟩)).mono ?_
        rintro e w5 ⟨rfl, k5⟩
        have S5 := Lib.hid ((S4.out.set_ (p := ⟨wr.heap.size, 0, none⟩) hl (.int .i64 a)).step k5)
        clear o0 o1 o2 q0 q1 q2
        go_wp2_with fail
        go_roundw
        case rel => exact ⟨S5, .inr (.inl rfl)⟩
        case measure => decide
    · cases h with
      | false =>
        go_wp2_with fail
        go_roundw
        case rel => exact ⟨Lib.hid (S.out.alloc _), .inr (.inr (.inl rfl))⟩
        case measure => decide
      | true =>
        go_wp2_with fail
        refine (CX.out x 0 z _ (hasK_iff.2 ⟨(HH.out trivial).1, .inl rfl, (HH.out trivial).2.2⟩)).mono ?_
        rintro e w4 ⟨rfl, k4⟩
        have O4 := Lib.hid (keep3 (own3a wr (.int .i64 x) (.int .i64 0) (.int .i64 z) 23) k4)
        have F4 : ∀ i : Nat, w4.frozen? ⟨wr.heap.size, i, none⟩ = false := fun i => ((Blk.new wr 23 (c3 x 0 z)).kept k4 id).frozen i
        have f0 := F4 1
        have hl4 : wr.heap.size < w4.heap.size := ((Blk.new wr 23 (c3 x 0 z)).kept k4 id).lt
        have S4 := Lib.hid ((S.out.alloc _).step k4)
        clear o0 o1 o2 p0 p1 p2 F4
        obtain ⟨⟨o0, o1, o2⟩, _⟩ := S4.out.facts
        obtain ⟨q0, q1, q2, _⟩ := O4.out
        go_wp2_with fail
        refine (CX.out x b z _ (hasK_iff.2 ⟨(HH.out trivial).1, .inr rfl, (HH.out trivial).2.2⟩)).mono ?_
        rintro e w5 ⟨rfl, k5⟩
        have S5 := Lib.hid ((S4.out.set_ (p := ⟨wr.heap.size, 1, none⟩) hl (.int .i64 b)).step k5)
        clear o0 o1 o2 q0 q1 q2
        go_wp2_with fail
        go_roundw
        case rel => exact ⟨S5, .inr (.inr (.inl rfl))⟩
        case measure => decide
    · cases h with
      | false =>
        go_wp2_with fail
        go_roundw
        case rel => exact ⟨Lib.hid (S.out.alloc _), .inr (.inr (.inr (rfl)))⟩
        case measure => decide
      | true =>
        go_wp2_with fail
        refine (CX.out x y 0 _ (hasK_iff.2 ⟨(HH.out trivial).1, (HH.out trivial).2.1, .inl rfl⟩)).mono ?_
        rintro e w4 ⟨rfl, k4⟩
        have O4 := Lib.hid (keep3 (own3a wr (.int .i64 x) (.int .i64 y) (.int .i64 0) 23) k4)
        have F4 : ∀ i : Nat, w4.frozen? ⟨wr.heap.size, i, none⟩ = false := fun i => ((Blk.new wr 23 (c3 x y 0)).kept k4 id).frozen i
        have f0 := F4 2
        have hl4 : wr.heap.size < w4.heap.size := ((Blk.new wr 23 (c3 x y 0)).kept k4 id).lt
        have S4 := Lib.hid ((S.out.alloc _).step k4)
        clear o0 o1 o2 p0 p1 p2 F4
        obtain ⟨⟨o0, o1, o2⟩, _⟩ := S4.out.facts
        obtain ⟨q0, q1, q2, _⟩ := O4.out
        go_wp2_with fail
        refine (CX.out x y c _ (hasK_iff.2 ⟨(HH.out trivial).1, (HH.out trivial).2.1, .inr rfl⟩)).mono ?_
        rintro e w5 ⟨rfl, k5⟩
        have S5 := Lib.hid ((S4.out.set_ (p := ⟨wr.heap.size, 2, none⟩) hl (.int .i64 c)).step k5)
        clear o0 o1 o2 q0 q1 q2
        go_wp2_with fail
        go_roundw
        case rel => exact ⟨S5, .inr (.inr (.inr (rfl)))⟩
        case measure => decide
    · go_wp2_with fail
      refine (CX.out 0 0 0 _ HZ.out).mono ?_
      rintro e w4 ⟨rfl, k4⟩
      have S4 := Lib.hid (S.out.step k4)
      clear o0 o1 o2 p0 p1 p2
      obtain ⟨⟨o0, o1, o2⟩, _⟩ := S4.out.facts
      go_wp2_with fail
      refine (CX.out a b c _ HT.out).mono ?_
      rintro e w5 ⟨rfl, k5⟩
      have S5 := Lib.hid (S4.out.step k5)
      clear o0 o1 o2
      go_wp2_with fail
      refine (CA.out _ (HE.out.kept S5.out.kept)).mono ?_
      rintro e w6 ⟨rfl, k6⟩
      go_wp2_with fail
      go_ret
      exact ⟨rfl, (S5.out.step k6).kept⟩

theorem lawFewer_any (t k : T3) (w : World) (E : TabW w) :
    Calls Tryd.prog 7 #[arr t, arr k] w fun e w' => e = .returned (.bool true) ∧ Kept Nil w w' := by
  cases h : okT t with
  | false => exact fewer_no1 t k w E h
  | true =>
    cases h' : okKT k with
    | false => exact fewer_no2 t k w E h h'
    | true => exact fewer_yes t k w E h h'
end Go.Proofs.YtjknibgbbhiooaaDoor
