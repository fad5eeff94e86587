/- The example's tree: awake answers true, and makes new memory alone. -/
import Derived.Test.YtbaplplaokbnnaaMTW
namespace Go.Proofs.Ytbaplplaokbnnaa
open Go.RowKit Go.Maps Go.WideMaps
set_option maxRecDepth 100000

def exT : ByteArray := ⟨#[116, 111, 112]⟩
def exX : ByteArray := ⟨#[120]⟩
def exY : ByteArray := ⟨#[121]⟩
def exL : List (Tok ByteArray) := [⟨0, exT, 0, false⟩, ⟨1, exX, 5, false⟩, ⟨1, exX, 6, false⟩, ⟨2, exY, 0, false⟩]
theorem exBelow : below exL 2 = [4, 2] := by rfl
theorem exWF : WF exL := by
  have h := (((WF.top exT 0).more (x := ⟨1, exX, 5, false⟩) rfl (by decide) (by decide)).more (x := ⟨1, exX, 6, false⟩) rfl (by decide) (by decide)).more (x := ⟨2, exY, 0, false⟩) rfl (by decide) (by decide)
  exact h
theorem exT_ok : KS.ok exT := by show exT.size ≤ maxLen; unfold maxLen; decide
theorem exX_ok : KS.ok exX := by show exX.size ≤ maxLen; unfold maxLen; decide
theorem exY_ok : KS.ok exY := by show exY.size ≤ maxLen; unfold maxLen; decide
set_option maxHeartbeats 4000000 in
theorem awake_any (w : World) : Calls Try.prog 8 #[] w fun e w' => e = .returned (.bool true) ∧ Kept Nil w w' := by
  go_enter Try.func8, Try.ntmps8
  go_wp2_with fail
  refine (new_s w (k := exT) exT_ok).mono ?_
  rintro e w1 ⟨p, c, rfl, t, lo, k⟩
  have T1 := Lib.hid (show TW KS 78 w w1 p [⟨0, exT, 0, false⟩] from ⟨c, t, lo, k⟩)
  clear t lo k
  go_wp2_with fail
  obtain ⟨c, t, lo, k⟩ := T1.out
  refine (add_yes_s t (by decide) (pa := 1) (by decide) (by decide) (k := exX) exX_ok (f := 5) (by decide)).mono ?_
  rintro e w2 ⟨rfl, h⟩
  have T2 := Lib.hid (show TW KS 78 w w2 p [⟨0, exT, 0, false⟩, ⟨1, exX, 5, false⟩] from TW.grow lo k h)
  clear t lo k h T1
  go_wp2_with fail
  obtain ⟨c, t, lo, k⟩ := T2.out
  refine (add_yes_s t (by decide) (pa := 1) (by decide) (by decide) (k := exX) exX_ok (f := 6) (by decide)).mono ?_
  rintro e w3 ⟨rfl, h⟩
  have T3 := Lib.hid (show TW KS 78 w w3 p [⟨0, exT, 0, false⟩, ⟨1, exX, 5, false⟩, ⟨1, exX, 6, false⟩] from TW.grow lo k h)
  clear t lo k h T2
  go_wp2_with fail
  obtain ⟨c, t, lo, k⟩ := T3.out
  refine (add_yes_s t (by decide) (pa := 2) (by decide) (by decide) (k := exY) exY_ok (f := 0) (by decide)).mono ?_
  rintro e w4 ⟨rfl, h⟩
  have T4 := Lib.hid (show TW KS 78 w w4 p exL from TW.grow lo k h)
  clear t lo k h T3
  go_wp2_with fail
  obtain ⟨c, t, lo, k⟩ := T4.out
  refine (delete_yes_s t exWF (by decide) (id := 2) (by decide) (by decide)).mono ?_
  rintro e w5 ⟨a, n, cap, rfl, hI, h⟩
  have T5 := Lib.hid (TW.grow lo k h)
  rw [exBelow] at hI
  have hn := hI.1
  rw [show (goneL_s exL [4, 2]).length = 2 from rfl] at hn
  subst hn
  obtain ⟨b, o, rfl, hb, hc⟩ := hI.at_ (j := 0) (x := (4, exY, 0)) rfl
  obtain ⟨b', o', e', _, hc'⟩ := hI.at_ (j := 1) (x := (2, exX, 5)) rfl
  cases e'
  have z0 := hc 0 _ rfl
  have y0 := hc' 0 _ rfl
  have y1 := hc' 1 _ rfl
  have y2 := hc' 2 _ rfl
  simp only [Nat.zero_mul, Nat.add_zero, Nat.one_mul] at z0 y0 y1 y2
  have heq := fun W : World => eqG_self 2 exX 5 W
  unfold exX at heq y1
  clear t lo k h T4 hc hc' hI
  go_wp2_with fail
  go_ret
  exact ⟨rfl, T5.out.kept⟩
end Go.Proofs.Ytbaplplaokbnnaa
