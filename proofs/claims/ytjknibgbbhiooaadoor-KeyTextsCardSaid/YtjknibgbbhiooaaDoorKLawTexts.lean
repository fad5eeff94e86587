/- Any key has its text or none, and is parsed of it: KeyTexts returns true, and writes nothing that was there. No condition but Go's own variables. -/
import Derived.Test.YtjknibgbbhiooaaDoorKAwake
import Derived.Test.YtjknibgbbhiooaaDoorKParse
import Derived.Test.YtjknibgbbhiooaaDoorKRefText
namespace Go.Proofs.YtjknibgbbhiooaaDoor
open Go.RowKit
set_option maxRecDepth 100000

theorem kparse_txt {t : T3} (h : okKT t = true) (W : World) (E : Env W) :
    Calls Tryd.prog 20 #[.string (ktxt t)] W fun e w' => e = .returned (.tuple #[arr t, .int .i64 0]) ∧ Kept Nil W w' := by
  have hg : kgood (ktxt t) = true := by unfold kgood; rw [ktxt_list]; exact kgood_txt h
  have hr : raw (ktxt t) = t := by rw [← raw_list, ktxt_list]; exact kraw_txt h
  have := kparse_any (ktxt t) (by have := ktxt_size h; omega) W E
  rw [(kparsed_yes hg).1, (kparsed_yes hg).2, hr] at this
  exact this

/-- What came in lies as it was laid. -/
structure KOne (w : World) (d : Array Value) (W : World) : Prop where
  kept : Kept Nil w W
  b0 : Blk W w.heap.size 23 d
theorem KOne.step {w W W' : World} {d : Array Value} (h : KOne w d W) (k : Kept Nil W W') : KOne w d W' := ⟨h.kept.trans k (fun _ _ g => g), h.b0.kept k id⟩
theorem KOne.start (w : World) (d : Array Value) : KOne w d (w.alloc (.cells d 23)) := ⟨(Kept.refl _ _).alloc _, Blk.new _ _ _⟩
theorem KOne.tri {w W : World} {a b c : Int} (h : KOne w (c3 a b c) W) :
    W.cell? ⟨w.heap.size, 0, none⟩ = some (.int .i64 a) ∧ W.cell? ⟨w.heap.size, 1, none⟩ = some (.int .i64 b) ∧ W.cell? ⟨w.heap.size, 2, none⟩ = some (.int .i64 c) :=
  ⟨h.b0.cell 0, h.b0.cell 1, h.b0.cell 2⟩

set_option maxHeartbeats 2000000 in
theorem ktexts_bad (t : T3) (w : World) (E : TabW w) (ht : okKT t = false) :
    Calls Tryd.prog 5 #[arr t] w fun e w' => e = .returned (.bool true) ∧ Kept Nil w w' := by
  have cr : ∀ W : World, Calls Tryd.prog 19 #[arr t] W fun e w' => e = .returned (.bool (okKT t)) ∧ Kept Nil W w' := fun W => kRight_any t W
  have cs : ∀ W : World, Calls Tryd.prog 9 #[arr t] W fun e w' => e = .returned (.bool (okKT t)) ∧ Kept Nil W w' := fun W => kRefRight_any t W
  have ct : ∀ W : World, Calls Tryd.prog 18 #[arr t] W fun e w' => e = .returned (.tuple #[.string .empty, .int .i64 13]) ∧ Kept Nil W w' := fun W => ktext_bad t W ht
  rw [ht] at cr cs
  obtain ⟨a, b, c⟩ := t
  have CR : Hid (∀ W : World, Calls Tryd.prog 19 #[.agg #[.int .i64 a, .int .i64 b, .int .i64 c]] W fun e w' => e = .returned (.bool false) ∧ Kept Nil W w') := Lib.hid cr
  have CS : Hid (∀ W : World, Calls Tryd.prog 9 #[.agg #[.int .i64 a, .int .i64 b, .int .i64 c]] W fun e w' => e = .returned (.bool false) ∧ Kept Nil W w') := Lib.hid cs
  have CT : Hid (∀ W : World, Calls Tryd.prog 18 #[.agg #[.int .i64 a, .int .i64 b, .int .i64 c]] W fun e w' => e = .returned (.tuple #[.string .empty, .int .i64 13]) ∧ Kept Nil W w') := Lib.hid ct
  have CA : Hid (∀ W : World, TabW W → Calls Tryd.prog 10 #[] W fun e w' => e = .returned (.bool true) ∧ Kept Nil W w') := Lib.hid fun W h => awake_any W h
  have HE := Lib.hid E
  clear cr cs ct ht E
  have S0 := Lib.hid (KOne.start w (c3 a b c))
  show Calls Tryd.prog 5 #[.agg #[.int .i64 a, .int .i64 b, .int .i64 c]] w _
  go_enter Tryd.func5, Tryd.ntmps5
  go_wp2_with fail
  refine (CT.out _).mono ?_
  rintro e w1 ⟨rfl, k1⟩
  have S1 := Lib.hid (S0.out.step k1)
  obtain ⟨x0, x1, x2⟩ := S1.out.tri
  go_wp2_with fail
  refine (CS.out _).mono ?_
  rintro e w2 ⟨rfl, k2⟩
  clear x0 x1 x2
  have S2 := Lib.hid (S1.out.step k2)
  obtain ⟨x0, x1, x2⟩ := S2.out.tri
  go_wp2_with fail
  refine (CR.out _).mono ?_
  rintro e w3 ⟨rfl, k3⟩
  clear x0 x1 x2
  have S3 := Lib.hid (S2.out.step k3)
  go_wp2_with fail
  refine (CA.out _ (HE.out.kept S3.out.kept)).mono ?_
  rintro e w4 ⟨rfl, k4⟩
  go_wp2_with fail
  go_ret
  exact ⟨rfl, (S3.out.step k4).kept⟩

set_option maxHeartbeats 2000000 in
theorem ktexts_good (t : T3) (w : World) (E : Env w) (ht : okKT t = true) :
    Calls Tryd.prog 5 #[arr t] w fun e w' => e = .returned (.bool true) ∧ Kept Nil w w' := by
  have cr : ∀ W : World, Calls Tryd.prog 19 #[arr t] W fun e w' => e = .returned (.bool (okKT t)) ∧ Kept Nil W w' := fun W => kRight_any t W
  have cs : ∀ W : World, Calls Tryd.prog 9 #[arr t] W fun e w' => e = .returned (.bool (okKT t)) ∧ Kept Nil W w' := fun W => kRefRight_any t W
  have ct : ∀ W : World, TabW W → Calls Tryd.prog 18 #[arr t] W fun e w' => e = .returned (.tuple #[.string (ktxt t), .int .i64 0]) ∧ Kept Nil W w' := fun W h => ktext_good t W h ht
  have cp : ∀ W : World, Env W → Calls Tryd.prog 20 #[.string (ktxt t)] W fun e w' => e = .returned (.tuple #[arr t, .int .i64 0]) ∧ Kept Nil W w' := fun W h => kparse_txt ht W h
  have cx : ∀ W : World, Calls Tryd.prog 21 #[arr t] W fun e w' => e = .returned (.string (ktxt t)) ∧ Kept Nil W w' := fun W => refText_any t W ht
  rw [ht] at cr cs
  generalize ktxt t = U at ct cp cx
  obtain ⟨a, b, c⟩ := t
  have CR : Hid (∀ W : World, Calls Tryd.prog 19 #[.agg #[.int .i64 a, .int .i64 b, .int .i64 c]] W fun e w' => e = .returned (.bool true) ∧ Kept Nil W w') := Lib.hid cr
  have CS : Hid (∀ W : World, Calls Tryd.prog 9 #[.agg #[.int .i64 a, .int .i64 b, .int .i64 c]] W fun e w' => e = .returned (.bool true) ∧ Kept Nil W w') := Lib.hid cs
  have CT : Hid (∀ W : World, TabW W → Calls Tryd.prog 18 #[.agg #[.int .i64 a, .int .i64 b, .int .i64 c]] W fun e w' => e = .returned (.tuple #[.string U, .int .i64 0]) ∧ Kept Nil W w') := Lib.hid ct
  have CP : Hid (∀ W : World, Env W → Calls Tryd.prog 20 #[.string U] W fun e w' => e = .returned (.tuple #[.agg #[.int .i64 a, .int .i64 b, .int .i64 c], .int .i64 0]) ∧ Kept Nil W w') := Lib.hid cp
  have CX : Hid (∀ W : World, Calls Tryd.prog 21 #[.agg #[.int .i64 a, .int .i64 b, .int .i64 c]] W fun e w' => e = .returned (.string U) ∧ Kept Nil W w') := Lib.hid cx
  have CA : Hid (∀ W : World, TabW W → Calls Tryd.prog 10 #[] W fun e w' => e = .returned (.bool true) ∧ Kept Nil W w') := Lib.hid fun W h => awake_any W h
  have hq : ∀ W, (Op.equalIn 10000 23 (.agg #[.int .i64 a, .int .i64 b, .int .i64 c]) (.agg #[.int .i64 a, .int .i64 b, .int .i64 c])).run Tryd.prog W = .ok true W := fun W => by rw [eqT]; simp
  have HE := Lib.hid E
  clear cr cs ct cp cx ht E
  have S0 := Lib.hid (KOne.start w (c3 a b c))
  show Calls Tryd.prog 5 #[.agg #[.int .i64 a, .int .i64 b, .int .i64 c]] w _
  go_enter Tryd.func5, Tryd.ntmps5
  go_wp2_with fail
  refine (CT.out _ (HE.out.tabW.kept S0.out.kept)).mono ?_
  rintro e w1 ⟨rfl, k1⟩
  have S1 := Lib.hid (S0.out.step k1)
  obtain ⟨x0, x1, x2⟩ := S1.out.tri
  go_wp2_with fail
  refine (CS.out _).mono ?_
  rintro e w2 ⟨rfl, k2⟩
  clear x0 x1 x2
  have S2 := Lib.hid (S1.out.step k2)
  go_wp2_with fail
  refine (CP.out _ (HE.out.kept S2.out.kept)).mono ?_
  rintro e w3 ⟨rfl, k3⟩
  have S3 := Lib.hid (S2.out.step k3)
  have hl3 : w.heap.size < w3.heap.size := S3.out.b0.lt
  obtain ⟨x0, x1, x2⟩ := S3.out.tri
  go_wp2_with fail
  refine (CX.out _).mono ?_
  rintro e w4 ⟨rfl, k4⟩
  clear x0 x1 x2
  have S4 := Lib.hid ((S3.out.step ((Kept.refl _ _).alloc _)).step k4)
  have X4 := Lib.hid ((Blk.new w3 23 (c3 a b c)).kept k4 id)
  obtain ⟨x0, x1, x2⟩ := S4.out.tri
  go_wp2_with fail
  refine (CR.out _).mono ?_
  rintro e w5 ⟨rfl, k5⟩
  clear x0 x1 x2
  have S5 := Lib.hid (S4.out.step k5)
  have X5 := Lib.hid (X4.out.kept k5 id)
  obtain ⟨x0, x1, x2⟩ := S5.out.tri
  have y0 : w5.cell? ⟨w3.heap.size, 0, none⟩ = some (.int .i64 a) := X5.out.cell 0
  have y1 : w5.cell? ⟨w3.heap.size, 1, none⟩ = some (.int .i64 b) := X5.out.cell 1
  have y2 : w5.cell? ⟨w3.heap.size, 2, none⟩ = some (.int .i64 c) := X5.out.cell 2
  go_wp2_with fail
  refine (CA.out _ (HE.out.tabW.kept S5.out.kept)).mono ?_
  rintro e w6 ⟨rfl, k6⟩
  go_wp2_with fail
  go_ret
  exact ⟨rfl, (S5.out.step k6).kept⟩

theorem lawTexts_any (t : T3) (w : World) (E : Env w) :
    Calls Tryd.prog 5 #[arr t] w fun e w' => e = .returned (.bool true) ∧ Kept Nil w w' := by
  cases h : okKT t with
  | true => exact ktexts_good t w E h
  | false => exact ktexts_bad t w E.tabW h
end Go.Proofs.YtjknibgbbhiooaaDoor
