/- Any text is a key's, or none's: KeyParses returns true, and writes nothing that was there. No condition but Go's own variables. -/
import Derived.Test.YtjknibgbbhiooaaDoorKAwake
import Derived.Test.YtjknibgbbhiooaaDoorKParse
import Derived.Test.YtjknibgbbhiooaaDoorKRefParse
namespace Go.Proofs.YtjknibgbbhiooaaDoor
open Go.RowKit

set_option maxRecDepth 100000 in
set_option maxHeartbeats 2000000 in
theorem lawParses_any (s : ByteArray) (hs : s.size ≤ maxLen) (w : World) (E : Env w) :
    Calls Tryd.prog 6 #[.string s] w fun e w' => e = .returned (.bool true) ∧ Kept Nil w w' := by
  have hs' := hs
  unfold maxLen at hs'
  have CA : Hid (∀ W : World, Env W → Calls Tryd.prog 10 #[] W fun e w' => e = .returned (.bool true) ∧ Kept Nil W w') := Lib.hid fun W h => awake_any W h.tabW
  have HE := Lib.hid E
  by_cases hb : 60 < s.size
  · clear E
    go_enter Tryd.func6, Tryd.ntmps6
    go_wp2_with fail
    refine (CA.out _ HE.out).mono ?_
    rintro e w1 ⟨rfl, k1⟩
    go_wp2_with fail
    go_ret
    exact ⟨rfl, k1⟩
  have h60 : s.size ≤ 60 := by omega
  have cp : ∀ W : World, Env W → Calls Tryd.prog 20 #[.string s] W fun e w' => e = .returned (.tuple #[arr (kparsed s), .int .i64 (kparsedE s)]) ∧ Kept Nil W w' := fun W h => kparse_any s (by omega) W h
  have cq : ∀ W : World, Calls Tryd.prog 22 #[.string s] W fun e w' => e = .returned (.tuple #[arr (refT (krefL s.data.toList)), .bool (krefL s.data.toList).isSome]) ∧ Kept Nil W w' := fun W => refParse_any s (by omega) W
  clear E
  cases hg : kgood s with
  | false =>
    rw [(kparsed_no hg).1, (kparsed_no hg).2] at cp
    rw [kref_bad hg] at cq
    have CP : Hid (∀ W : World, Env W → Calls Tryd.prog 20 #[.string s] W fun e w' => e = .returned (.tuple #[.agg #[.int .i64 0, .int .i64 0, .int .i64 0], .int .i64 14]) ∧ Kept Nil W w') := Lib.hid cp
    have CQ : Hid (∀ W : World, Calls Tryd.prog 22 #[.string s] W fun e w' => e = .returned (.tuple #[.agg #[.int .i64 0, .int .i64 0, .int .i64 0], .bool false]) ∧ Kept Nil W w') := Lib.hid cq
    have hq : ∀ W, (Op.equalIn 10000 23 (.agg #[.int .i64 0, .int .i64 0, .int .i64 0]) (.agg #[.int .i64 0, .int .i64 0, .int .i64 0])).run Tryd.prog W = .ok true W := fun W => by rw [eqT]; simp
    clear cp cq hg
    go_enter Tryd.func6, Tryd.ntmps6
    go_wp2_with fail
    refine (CP.out _ HE.out).mono ?_
    rintro e w1 ⟨rfl, k1⟩
    go_wp2_with fail
    refine (CQ.out _).mono ?_
    rintro e w2 ⟨rfl, k2⟩
    have O2 := Lib.hid (keep3 (own3a w1 (.int .i64 0) (.int .i64 0) (.int .i64 0) 23) k2)
    have K2 := Lib.hid (k1.trans O2.out.2.2.2 (fun _ _ g => g))
    obtain ⟨v0, v1, v2, _⟩ := O2.out
    have hl := World.block_lt_of_cell? w2 _ v0
    go_wp2_with fail
    refine (CA.out _ (HE.out.kept (K2.out.alloc _))).mono ?_
    rintro e w3 ⟨rfl, k3⟩
    go_wp2_with fail
    go_ret
    exact ⟨rfl, (K2.out.alloc _).trans k3 (fun _ _ g => g)⟩
  | true =>
    obtain ⟨ho, ht⟩ := kgood_yes hg
    have hr := kref_good hg
    rw [raw_list] at hr
    rw [(kparsed_yes hg).1, (kparsed_yes hg).2] at cp
    rw [hr] at cq
    have ct : ∀ W : World, Env W → Calls Tryd.prog 18 #[arr (raw s)] W fun e w' => e = .returned (.tuple #[.string s, .int .i64 0]) ∧ Kept Nil W w' := fun W h => by
      have := ktext_good (raw s) W h.tabW ho
      rw [ht] at this
      exact this
    clear ho ht hr hg
    generalize raw s = t at cp cq ct
    obtain ⟨a, b, c⟩ := t
    have CP : Hid (∀ W : World, Env W → Calls Tryd.prog 20 #[.string s] W fun e w' => e = .returned (.tuple #[.agg #[.int .i64 a, .int .i64 b, .int .i64 c], .int .i64 0]) ∧ Kept Nil W w') := Lib.hid cp
    have CQ : Hid (∀ W : World, Calls Tryd.prog 22 #[.string s] W fun e w' => e = .returned (.tuple #[.agg #[.int .i64 a, .int .i64 b, .int .i64 c], .bool true]) ∧ Kept Nil W w') := Lib.hid cq
    have CT : Hid (∀ W : World, Env W → Calls Tryd.prog 18 #[.agg #[.int .i64 a, .int .i64 b, .int .i64 c]] W fun e w' => e = .returned (.tuple #[.string s, .int .i64 0]) ∧ Kept Nil W w') := Lib.hid ct
    have hq : ∀ W, (Op.equalIn 10000 23 (.agg #[.int .i64 a, .int .i64 b, .int .i64 c]) (.agg #[.int .i64 a, .int .i64 b, .int .i64 c])).run Tryd.prog W = .ok true W := fun W => by rw [eqT]; simp
    clear cp cq ct
    go_enter Tryd.func6, Tryd.ntmps6
    go_wp2_with fail
    refine (CP.out _ HE.out).mono ?_
    rintro e w1 ⟨rfl, k1⟩
    go_wp2_with fail
    refine (CQ.out _).mono ?_
    rintro e w2 ⟨rfl, k2⟩
    have O2 := Lib.hid (keep3 (own3a w1 (.int .i64 a) (.int .i64 b) (.int .i64 c) 23) k2)
    have K2 := Lib.hid (k1.trans O2.out.2.2.2 (fun _ _ g => g))
    obtain ⟨v0, v1, v2, _⟩ := O2.out
    have hl := World.block_lt_of_cell? w2 _ v0
    go_wp2_with fail
    refine (CT.out _ (HE.out.kept (K2.out.alloc _))).mono ?_
    rintro e w3 ⟨rfl, k3⟩
    have O3 := Lib.hid (keep3 (keep3 O2.out ((Kept.refl _ _).alloc (.cells #[.int .i64 a, .int .i64 b, .int .i64 c] 22))) k3)
    have P3 := Lib.hid (keep3 (own3a w2 (.int .i64 a) (.int .i64 b) (.int .i64 c) 22) k3)
    have K3 := Lib.hid ((K2.out.alloc (.cells #[.int .i64 a, .int .i64 b, .int .i64 c] 22)).trans k3 (fun _ _ g => g))
    clear v0 v1 v2 hl
    obtain ⟨v0, v1, v2, _⟩ := O3.out
    obtain ⟨u0, u1, u2, _⟩ := P3.out
    go_wp2_with fail
    refine (CA.out _ (HE.out.kept K3.out)).mono ?_
    rintro e w4 ⟨rfl, k4⟩
    go_wp2_with fail
    go_ret
    exact ⟨rfl, K3.out.trans k4 (fun _ _ g => g)⟩
end Go.Proofs.YtjknibgbbhiooaaDoor
