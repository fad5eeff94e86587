/- The example's tally: awake answers true, and makes new memory alone. -/
import Derived.Test.YtjnknbegapofiaaNsB
namespace Go.Proofs.Ytjnknbegapofiaa
set_option maxRecDepth 100000
open Go.RowKit Go.Maps

section
variable {P : Program} {κ : Type} [DecidableEq κ] {K : KT P κ} {e tT : TypeId} {w w1 w2 : World} {p : Nat} {m : Value} {l l' : List κ}
/-- A call on a tally all of which lies behind w turns nothing that was there before. -/
theorem TGrew.fresh (h : Kept Nil w w1) (t : Tal K e tT w1 w.heap.size p m l) (g : TGrew K e tT w1 w2 w.heap.size p m l') : (∃ m', Tal K e tT w2 w.heap.size p m' l') ∧ Kept Nil w w2 := by
  obtain ⟨m', r1, _, r3⟩ := g
  exact ⟨⟨m', r1⟩, h.trans r3 (fun i hi hf => absurd (t.foot hf).1 (Nat.not_le.2 hi))⟩
end

set_option maxHeartbeats 4000000 in
theorem awake_any (w : World) : Calls Try.prog 7 #[] w fun e w' => e = .returned (.bool true) ∧ Kept Nil w w' := by
  have hk : KS.ok ⟨#[97]⟩ := by show (1 : Nat) ≤ maxLen; decide
  go_enter Try.func7, Try.ntmps7
  go_wp2_with fail
  refine (new_s w).mono ?_
  rintro e w1 ⟨rfl, h1, k1⟩
  have H1 := Lib.hid h1
  have K1 := Lib.hid k1
  clear h1 k1
  go_wp2_with fail
  refine (add_s H1.out (by decide) hk).mono ?_
  rintro e w2 ⟨rfl, g2⟩
  obtain ⟨⟨m2, h2⟩, k2⟩ := TGrew.fresh K1.out H1.out g2
  have H2 := Lib.hid (show Tals w2 w.heap.size w.heap.size m2 [⟨#[97]⟩] from h2)
  have K2 := Lib.hid k2
  rw [show ((cnt (⟨#[97]⟩ : ByteArray) [] : Nat) : Int) + 1 = 1 from rfl]
  clear h2 k2 g2
  go_wp2_with fail
  refine (add_s H2.out (by decide) hk).mono ?_
  rintro e w3 ⟨rfl, g3⟩
  obtain ⟨⟨m3, h3⟩, k3⟩ := TGrew.fresh K2.out H2.out g3
  have H3 := Lib.hid (show Tals w3 w.heap.size w.heap.size m3 [⟨#[97]⟩, ⟨#[97]⟩] from h3)
  have K3' := Lib.hid k3
  rw [show ((cnt (⟨#[97]⟩ : ByteArray) [⟨#[97]⟩] : Nat) : Int) + 1 = 2 from by decide]
  clear h3 k3 g3
  go_wp2_with fail
  refine (drop_some_s H3.out hk (by decide)).mono ?_
  rintro e w4 ⟨rfl, g4⟩
  obtain ⟨⟨m4, h4⟩, k4⟩ := TGrew.fresh K3'.out H3.out g4
  have H4 := Lib.hid (show Tals w4 w.heap.size w.heap.size m4 [⟨#[97]⟩] from h4)
  have K4 := Lib.hid k4
  rw [show ((cnt (⟨#[97]⟩ : ByteArray) [⟨#[97]⟩, ⟨#[97]⟩] : Nat) : Int) - 1 = 1 from by decide]
  clear h4 k4 g4
  go_wp2_with fail
  refine (total_s H4.out).mono ?_
  rintro e w5 ⟨rfl, rfl⟩
  rw [show (([⟨#[97]⟩] : List ByteArray).length : Int) = 1 from rfl]
  go_wp2_with fail
  go_ret
  exact ⟨rfl, K4.out⟩
end Go.Proofs.Ytjnknbegapofiaa
