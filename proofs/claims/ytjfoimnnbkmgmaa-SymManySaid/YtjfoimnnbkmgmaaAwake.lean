/- The law's own example: a, b, a are 1, 2, 1. -/
import Derived.Test.YtjfoimnnbkmgmaaIntern
namespace Go.Proofs.Ytjfoimnnbkmgmaa
open Go.RowKit Go.Maps

def strA : ByteArray := ⟨#[97]⟩
def strB : ByteArray := ⟨#[98]⟩
theorem okA : okName strA = true := by decide +kernel
theorem okB : okName strB = true := by decide +kernel
theorem posAB : pos [strA] strB = 0 := by decide +kernel
theorem posA : pos [strA, strB] strA = 1 := by decide +kernel

/-- Only new blocks, out of writes into blocks that were new. -/
theorem Grew.out {w0 w w' : World} {B p : Nat} {m sv : Value} {l l' : List ByteArray} (hk : Kept Nil w0 w) (h : Tab w B p m sv l) (hB : w0.heap.size ≤ B) (hg : Grew w w' B p m sv l') : Kept Nil w0 w' := by
  obtain ⟨m', sv', _, _, r3⟩ := hg
  exact hk.trans r3 (fun i hi hf => absurd (h.foot hf).1 (by omega))

set_option maxRecDepth 100000 in
set_option maxHeartbeats 1000000 in
theorem awake_any (w : World) :
    Calls Try.prog 8 #[] w fun e w' => e = .returned (.bool true) ∧ Kept Nil w w' := by
  have HA := Lib.hid okA
  have HB := Lib.hid okB
  go_enter Try.func8, Try.ntmps8
  go_wp2_with fail
  refine (new_any _).mono ?_
  rintro e w1 ⟨rfl, t1, k1⟩
  go_wp2_with fail
  refine (intern_new t1 strA (by decide) HA.out rfl (by decide)).mono ?_
  rintro e w2 ⟨rfl, g2⟩
  have k2 := Grew.out k1 t1 (Nat.le_refl _) g2
  obtain ⟨m2, sv2, t2, _, _⟩ := g2
  go_wp2_with fail
  refine (intern_new t2 strB (by decide) HB.out posAB (by decide)).mono ?_
  rintro e w3 ⟨rfl, g3⟩
  have k3 := Grew.out k2 t2 (Nat.le_refl _) g3
  obtain ⟨m3, sv3, t3, _, _⟩ := g3
  go_wp2_with fail
  refine (intern_there t3 strA (by decide) HA.out (by decide +kernel)).mono ?_
  rintro e w4 ⟨rfl, k4⟩
  rw [show (([] ++ [strA] : List ByteArray) ++ [strB]) = [strA, strB] from rfl, posA]
  have t4 := t3.kept k4 (fun _ _ g => g)
  go_wp2_with fail
  refine (len_any t4).mono ?_
  rintro e w5 ⟨rfl, rfl⟩
  go_wp2_with fail
  go_ret
  exact ⟨rfl, k3.trans k4 (fun _ _ g => g)⟩
end Go.Proofs.Ytjfoimnnbkmgmaa
