/- The example's list: awake answers true, and makes new memory alone. -/
import Derived.Test.YtpjfpmagmclldaaLsE
namespace Go.Proofs.Ytpjfpmagmclldaa
set_option maxRecDepth 100000
open Go.RowKit Go.Maps

/-- A call on a list all of which lies from B on turns nothing that was there before B. -/
theorem FoS.fresh {w w1 w2 : World} {m : Value} (h : Kept Nil w w1) (k : Kept (FoS w1 w.heap.size m) w1 w2) : Kept Nil w w2 :=
  h.trans k (fun _ hi hf => absurd hf.1 (Nat.not_le.2 hi))

set_option maxHeartbeats 4000000 in
theorem awake_any (w : World) : Calls Try.prog 8 #[] w fun e w' => e = .returned (.bool true) ∧ Kept Nil w w' := by
  go_enter Try.func8, Try.ntmps8
  go_wp2_with fail
  refine (new_s w).mono ?_
  rintro e w1 ⟨rfl, h1, k1⟩
  have H1 := Lib.hid h1
  have K1 := Lib.hid k1
  clear h1 k1
  go_wp2_with fail
  refine (push_s H1.out (by decide) ⟨#[97]⟩).mono ?_
  rintro e w2 ⟨rfl, m2, g2, h2, hm2, k2⟩
  have K2 := Lib.hid (FoS.fresh K1.out k2)
  have H2 := Lib.hid (show LstS w2 w.heap.size w.heap.size m2 g2 [1] [⟨#[97]⟩] from h2)
  rw [show ((([] : List ByteArray).length : Int) + 1) = 1 from rfl]
  clear h2 k2 hm2
  go_wp2_with fail
  refine (push_s H2.out (by decide) ⟨#[98]⟩).mono ?_
  rintro e w3 ⟨rfl, m3, g3, h3, hm3, k3⟩
  have K3 := Lib.hid (FoS.fresh K2.out k3)
  have H3 := Lib.hid (show LstS w3 w.heap.size w.heap.size m3 g3 [1, 2] [⟨#[97]⟩, ⟨#[98]⟩] from h3)
  rw [show ((([⟨#[97]⟩] : List ByteArray).length : Int) + 1) = 2 from rfl]
  clear h3 k3 hm3
  go_wp2_with fail
  refine (beforeH_s H3.out (by decide) (x := 2) (by decide) ⟨#[99]⟩).mono ?_
  rintro e w4 ⟨rfl, m4, g4, h4, hm4, k4⟩
  have K4 := Lib.hid (FoS.fresh K3.out k4)
  have H4 := Lib.hid (show LstS w4 w.heap.size w.heap.size m4 g4 [1, 3, 2] [⟨#[97]⟩, ⟨#[98]⟩, ⟨#[99]⟩] from h4)
  rw [show ((([⟨#[97]⟩, ⟨#[98]⟩] : List ByteArray).length : Int) + 1) = 3 from rfl]
  clear h4 k4 hm4
  go_wp2_with fail
  refine (next_s H4.out (by decide) (k := 1) (by decide)).mono ?_
  rintro e w5 ⟨rfl, k5⟩
  rw [show ((nxI [1, 3, 2] 1 : Nat) : Int) = 3 from by decide]
  have K5 := Lib.hid k5
  clear k5
  go_wp2_with fail
  refine (next_s (H4.out.keptN K5.out) (by decide) (k := 3) (by decide)).mono ?_
  rintro e w6 ⟨rfl, k6⟩
  rw [show ((nxI [1, 3, 2] 3 : Nat) : Int) = 2 from by decide]
  have K6 := Lib.hid (K5.out.trans k6 (fun _ _ e => e))
  clear k6
  go_wp2_with fail
  refine (len_s (H4.out.keptN K6.out)).mono ?_
  rintro e w7 ⟨rfl, rfl⟩
  rw [show (([1, 3, 2] : List Nat).length : Int) = 3 from rfl]
  go_wp2_with fail
  go_ret
  exact ⟨rfl, K4.out.trans K6.out (fun _ _ e => e)⟩
end Go.Proofs.Ytpjfpmagmclldaa
