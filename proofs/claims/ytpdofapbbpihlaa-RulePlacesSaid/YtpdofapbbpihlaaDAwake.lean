/- Layer rule: what the laws ask of the program's Check and Ids, said as contracts; the law's own example, given these. -/
import Derived.Test.YtpdofapbbpihlaaDSmall
namespace Go.Proofs.Ytpdofapbbpihlaa
open Go.RowKit

/-- The program's Check tells what the document says. -/
def CheckOK : Prop := ∀ (nm : ByteArray) (l : List Sh) (ok : Nat → Nat → Prop) (a : Option Addr) (cap : Nat) (w : World), nm.size ≤ 200 → countL l ≤ 60 → Holds cA w ok (.slice a l.length cap) l →
  Calls Try.prog 9 #[vRule nm (.slice a l.length cap)] w fun e w' => e = .returned (.int .i64 (chkRule (okName nm) l)) ∧ Kept Nil w w'
/-- The program's Ids tells how many facts a match has, of a right rule. -/
def IdsOK : Prop := ∀ (nm : ByteArray) (l : List Sh) (ok : Nat → Nat → Prop) (a : Option Addr) (cap : Nat) (w : World), nm.size ≤ 200 → countL l ≤ 60 → chkRule (okName nm) l = 0 → Holds cA w ok (.slice a l.length cap) l →
  Calls Try.prog 15 #[vRule nm (.slice a l.length cap)] w fun e w' => e = .returned (.int .i64 (idsL l : Int)) ∧ Kept Nil w w'
theorem lawV_any (n : Int) (w : World) : Calls Try.prog 18 #[.int .i64 n] w fun e w' => e = .returned (.agg #[.bool true, .int .i64 n]) ∧ Kept Nil w w' := by
  go_enter Try.func18, Try.ntmps18
  go_wp2
  exact bodyPost_ret (v := .agg #[.bool true, .int .i64 n]) (by simp [results, Try.results18, go_sem]) rfl ⟨rfl, (Kept.refl _ _).alloc _⟩
theorem lawS_any (n : Int) (w : World) : Calls Try.prog 19 #[.int .i64 n] w fun e w' => e = .returned (.agg #[.bool false, .int .i64 n]) ∧ Kept Nil w w' := by
  go_enter Try.func19, Try.ntmps19
  go_wp2
  exact bodyPost_ret (v := .agg #[.bool false, .int .i64 n]) (by simp [results, Try.results19, go_sem]) rfl ⟨rfl, (Kept.refl _ _).alloc _⟩
abbrev nmR : ByteArray := ⟨#[114]⟩
abbrev hx1 : Hd := ⟨1, true, false, false, 1, 1, 2⟩
abbrev hx2 : Hd := ⟨2, true, false, true, 1, 3, 2⟩
abbrev hx3 : Hd := ⟨1, true, false, false, 2, 1, 4⟩
def exL : List Sh := [.mk hx1 [], .mk hx2 [], .mk hx3 []]
theorem exL_three : chkRule (okName nmR) exL = 6 := by decide +kernel
theorem exL_two : chkRule (okName nmR) (exL.take 2) = 0 := by decide +kernel
theorem exL_ids : idsL (exL.take 2) = 1 := by decide +kernel
abbrev cells24 : Array Value := #[.int .i64 1, .bool true, .int .i64 1, .bool false, .int .i64 1, .bool false, .int .i64 2, .slice none 0 0, .int .i64 2, .bool true, .int .i64 1, .bool false, .int .i64 3, .bool true, .int .i64 2, .slice none 0 0, .int .i64 1, .bool true, .int .i64 2, .bool false, .int .i64 1, .bool false, .int .i64 4, .slice none 0 0]
theorem exL_holds {W : World} {G n : Nat} (hn : n ≤ 3) (b : Blk W G 45 cells24) (cap : Nat) : Holds cA W (fun _ _ => True) (.slice (some ⟨G, 0, none⟩) (exL.take n).length cap) (exL.take n) := by
  refine .row G 0 cap _ (fun _ => .slice none 0 0) trivial (fun i x hi => ?_) (fun i x hi => ?_)
  · rw [List.getElem?_take] at hi
    split at hi
    · have : i = 0 ∨ i = 1 ∨ i = 2 := by omega
      rcases this with rfl | rfl | rfl
      · cases hi; exact World.rangeAt_of_block b 0 8
      · cases hi; exact World.rangeAt_of_block b 8 8
      · cases hi; exact World.rangeAt_of_block b 16 8
    · cases hi
  · rw [List.getElem?_take] at hi
    split at hi
    · have : i = 0 ∨ i = 1 ∨ i = 2 := by omega
      rcases this with rfl | rfl | rfl <;> (cases hi; exact .nil none 0)
    · cases hi
set_option maxHeartbeats 2000000 in
theorem awakeRule_any (hCheck : CheckOK) (hIds : IdsOK) (w : World) : Calls Try.prog 8 #[] w fun e w' => e = .returned (.bool true) ∧ Kept Nil w w' := by
  have LV := Lib.hid (fun n W => lawV_any n W)
  have LS := Lib.hid (fun n W => lawS_any n W)
  have C3 : Hid (∀ W G, Blk W G 45 cells24 → Calls Try.prog 9 #[vRule nmR (.slice (some ⟨G, 0, none⟩) 3 3)] W fun e w' => e = .returned (.int .i64 6) ∧ Kept Nil W w') := Lib.hid fun W G b => by
    have := hCheck nmR exL _ (some ⟨G, 0, none⟩) 3 W (by decide) (by decide) (exL_holds (n := 3) (Nat.le_refl _) b 3)
    rw [exL_three] at this
    exact this
  have C2 : Hid (∀ W G, Blk W G 45 cells24 → Calls Try.prog 9 #[vRule nmR (.slice (some ⟨G, 0, none⟩) 2 3)] W fun e w' => e = .returned (.int .i64 0) ∧ Kept Nil W w') := Lib.hid fun W G b => by
    have := hCheck nmR (exL.take 2) _ (some ⟨G, 0, none⟩) 3 W (by decide) (by decide) (exL_holds (n := 2) (by decide) b 3)
    rw [exL_two] at this
    exact this
  have CI : Hid (∀ W G, Blk W G 45 cells24 → Calls Try.prog 15 #[vRule nmR (.slice (some ⟨G, 0, none⟩) 2 3)] W fun e w' => e = .returned (.int .i64 1) ∧ Kept Nil W w') := Lib.hid fun W G b => by
    have := hIds nmR (exL.take 2) _ (some ⟨G, 0, none⟩) 3 W (by decide) (by decide) exL_two (exL_holds (n := 2) (by decide) b 3)
    rw [exL_ids] at this
    exact this
  clear hCheck hIds
  go_enter Try.func8, Try.ntmps8
  go_wp2_with fail
  refine (LV.out 1 _).mono ?_
  rintro e w1 ⟨rfl, k1⟩
  have K1 := Lib.hid k1
  clear k1
  go_wp2_with fail
  refine (LS.out 1 _).mono ?_
  rintro e w2 ⟨rfl, k2⟩
  have K2 := Lib.hid (K1.out.trans k2 (fun _ _ g => g))
  clear k2 K1
  go_wp2_with fail
  refine (LS.out 2 _).mono ?_
  rintro e w3 ⟨rfl, k3⟩
  have K3 := Lib.hid (K2.out.trans k3 (fun _ _ g => g))
  clear k3 K2
  go_wp2_with fail
  refine (LV.out 1 _).mono ?_
  rintro e w4 ⟨rfl, k4⟩
  have K4 := Lib.hid (K3.out.trans k4 (fun _ _ g => g))
  clear k4 K3
  go_wp2_with fail
  refine (LS.out 3 _).mono ?_
  rintro e w5 ⟨rfl, k5⟩
  have K5 := Lib.hid (K4.out.trans k5 (fun _ _ g => g))
  clear k5 K4
  go_wp2_with fail
  refine (LV.out 2 _).mono ?_
  rintro e w6 ⟨rfl, k6⟩
  have K6 := Lib.hid (K5.out.trans k6 (fun _ _ g => g))
  clear k6 K5
  go_wp2_with fail
  refine (LV.out 2 _).mono ?_
  rintro e w7 ⟨rfl, k7⟩
  have K7 := Lib.hid (K6.out.trans k7 (fun _ _ g => g))
  clear k7 K6
  go_wp2_with fail
  refine (LS.out 1 _).mono ?_
  rintro e w8 ⟨rfl, k8⟩
  have K8 := Lib.hid (K7.out.trans k8 (fun _ _ g => g))
  clear k8 K7
  go_wp2_with fail
  refine (LS.out 4 _).mono ?_
  rintro e w9 ⟨rfl, k9⟩
  have K9 := Lib.hid (K8.out.trans k9 (fun _ _ g => g))
  clear k9 K8
  go_wp2_with fail
  have BG := Lib.hid ((Blk.new w9 45 cells24).alloc (.cells #[.string nmR, .slice (some ⟨w9.heap.size, 0, none⟩) 3 3] 24))
  have BR : Hid (Blk ((w9.alloc (.cells cells24 45)).alloc (.cells #[.string nmR, .slice (some ⟨w9.heap.size, 0, none⟩) 3 3] 24)) (w9.heap.size + 1) 24 #[.string nmR, .slice (some ⟨w9.heap.size, 0, none⟩) 3 3]) := Lib.hid (by
    have := Blk.new (w9.alloc (.cells cells24 45)) 24 #[.string nmR, .slice (some ⟨w9.heap.size, 0, none⟩) 3 3]
    simpa using this)
  have KG := Lib.hid ((K9.out.alloc (.cells cells24 45)).alloc (.cells #[.string nmR, .slice (some ⟨w9.heap.size, 0, none⟩) 3 3] 24))
  refine (C3.out _ _ BG.out).mono ?_
  rintro e w10 ⟨rfl, k10⟩
  have BG10 := Lib.hid (BG.out.kept k10 id)
  have BR10 := BR.out.kept k10 id
  have K10 := Lib.hid (KG.out.trans k10 (fun _ _ g => g))
  have d0 := BR10.cell 0
  have d1 := BR10.cell 1
  have z1 := BR10.frozen 1
  have hl10 := BR10.lt
  simp at d0 d1
  have HK9 := K9.out.size
  have BG11 := Lib.hid (BG10.out.far (p := ⟨w9.heap.size + 1, 1, none⟩) (by show w9.heap.size ≠ w9.heap.size + 1; omega) (.slice (some ⟨w9.heap.size, 0, none⟩) 2 3))
  have K11 := Lib.hid (K10.out.setCell ⟨w9.heap.size + 1, 1, none⟩ (.inr (by show w.heap.size ≤ w9.heap.size + 1; omega)) (.slice (some ⟨w9.heap.size, 0, none⟩) 2 3))
  have BR11 := Lib.hid (BR10.set_ 1 (.slice (some ⟨w9.heap.size, 0, none⟩) 2 3))
  clear k10 BG BR KG BR10 K9 C3
  go_wp2_with fail
  refine (C2.out _ _ BG11.out).mono ?_
  rintro e w12 ⟨rfl, k12⟩
  have BG12 := Lib.hid (BG11.out.kept k12 id)
  have BR12 := BR11.out.kept k12 id
  have K12 := Lib.hid (K11.out.trans k12 (fun _ _ g => g))
  have d2 := BR12.cell 0
  have d3 := BR12.cell 1
  simp at d2 d3
  clear k12 BG11 BR11 K11 BR12 d0 d1 z1
  go_wp2_with fail
  refine (CI.out _ _ BG12.out).mono ?_
  rintro e w13 ⟨rfl, k13⟩
  go_wp2_with fail
  go_ret
  exact ⟨rfl, K12.out.trans k13 (fun _ _ g => g)⟩
end Go.Proofs.Ytpdofapbbpihlaa
