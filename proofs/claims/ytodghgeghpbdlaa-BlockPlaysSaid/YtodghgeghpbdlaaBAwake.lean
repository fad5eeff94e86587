/- Layer block: the law's example: awake answers true, and makes new memory alone. -/
import Derived.Test.YtodghgeghpbdlaaBpL
namespace Go.Proofs.Ytodghgeghpbdlaa
open Go.RowKit Go.Maps Go.WideMaps
set_option maxRecDepth 100000

/-- A call on Blocks all of which lie behind w turns nothing that was there before. -/
theorem FBP.fresh {w w1 w2 : World} (h : Kept Nil w w1) (k : Kept (FBP w1 w.heap.size) w1 w2) : Kept Nil w w2 := h.trans k (fun _ hi e => absurd e.1 (Nat.not_le.2 hi))
def sA : ByteArray := ⟨#[97]⟩
theorem okA : KS.ok sA := by show (1 : Nat) ≤ maxLen; decide
set_option maxHeartbeats 4000000 in
theorem awake_any (w : World) : Calls Try.prog 27 #[] w fun e w' => e = .returned (.bool true) ∧ Kept Nil w w' := by
  have ok1 : KI.ok 1 := by show (Lit.int .i64 1).wf = true; decide
  have ok2 : KI.ok 2 := by show (Lit.int .i64 2).wf = true; decide
  go_enter Try.func27, Try.ntmps27
  go_wp2_with fail
  refine (newB_p w).mono ?_
  rintro e w1 ⟨pb, rfl, ⟨s1, h1⟩, k1, _⟩
  have H1 := Lib.hid h1
  have K1 := Lib.hid k1
  clear h1 k1
  have C1 := Lib.hid (open_new_p H1.out (by decide) K1.out.size okA (by simp))
  unfold sA at C1
  go_wp2_with fail
  refine C1.out.mono ?_
  rintro e w2 ⟨rfl, ⟨s2, h2⟩, k2⟩
  have H2 := Lib.hid (show BSP w2 w.heap.size pb [sA] [] 1 s2 from h2)
  have K2 := Lib.hid (FBP.fresh K1.out k2)
  clear h2 k2 C1
  have C2 := Lib.hid (block_new_p H2.out (by decide) (k := sA) (by simp) ok1 (by simp))
  rw [show decide ((bls ([] : List (ByteArray × Int)) sA).length = 0) = true from rfl] at C2
  unfold sA at C2
  go_wp2_with fail
  refine C2.out.mono ?_
  rintro e w3 ⟨rfl, ⟨s3, h3⟩, k3⟩
  have H3 := Lib.hid (show BSP w3 w.heap.size pb [sA] [(sA, 1)] 2 s3 from h3)
  have K3 := Lib.hid (FBP.fresh K2.out k3)
  clear h3 k3 C2
  have C3 := Lib.hid (block_new_p H3.out (by decide) (k := sA) (by simp) ok2 (by simp))
  rw [show decide ((bls [(sA, (1 : Int))] sA).length = 0) = false from by decide] at C3
  unfold sA at C3
  go_wp2_with fail
  refine C3.out.mono ?_
  rintro e w4 ⟨rfl, ⟨s4, h4⟩, k4⟩
  have H4 := Lib.hid (show BSP w4 w.heap.size pb [sA] [(sA, 1), (sA, 2)] 3 s4 from h4)
  have K4 := Lib.hid (FBP.fresh K3.out k4)
  clear h4 k4 C3
  have C4 := Lib.hid (free_had_p H4.out (by decide) (k := sA) ok1 (by simp))
  rw [show decide ((bls [(sA, (1 : Int)), (sA, 2)] sA).length = 1) = false from by decide, show wo (sA, (1 : Int)) [(sA, 1), (sA, 2)] = [(sA, 2)] from by decide] at C4
  unfold sA at C4
  go_wp2_with fail
  refine C4.out.mono ?_
  rintro e w5 ⟨rfl, ⟨s5, h5⟩, k5⟩
  have H5 := Lib.hid (show BSP w5 w.heap.size pb [sA] [(sA, 2)] 3 s5 from h5)
  have K5 := Lib.hid (FBP.fresh K4.out k5)
  clear h5 k5 C4
  have C5 := Lib.hid (free_had_p H5.out (by decide) (k := sA) ok2 (by simp))
  rw [show decide ((bls [(sA, (2 : Int))] sA).length = 1) = true from by decide] at C5
  unfold sA at C5
  go_wp2_with fail
  refine C5.out.mono ?_
  rintro e w6 ⟨rfl, ⟨s6, h6⟩, k6⟩
  have K6 := Lib.hid (FBP.fresh K5.out k6)
  clear h6 k6 C5
  go_wp2_with fail
  go_ret
  exact ⟨rfl, K6.out⟩
end Go.Proofs.Ytodghgeghpbdlaa
