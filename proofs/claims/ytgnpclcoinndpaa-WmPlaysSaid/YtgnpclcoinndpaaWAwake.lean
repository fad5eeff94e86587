/- The example's memory: awake answers true, and makes new memory alone. -/
import Derived.Test.YtgnpclcoinndpaaWAdd
namespace Go.Proofs.Ytgnpclcoinndpaa
open Go.RowKit Go.Maps
set_option maxRecDepth 100000

/-- A call on a memory all of which lies behind w turns nothing that was there before. -/
theorem Mem.outer {w w1 w2 : World} {p bm last limit : Nat} {l : List F4} (h : Mem w1 w.heap.size p bm l last limit) (hk : Kept Nil w w1) (k : Kept (MFoot p bm) w1 w2) : Kept Nil w w2 :=
  hk.trans k (fun _ hi hf => absurd (h.foot hf).1 (Nat.not_le.2 hi))
/-- A block of cells that isn't a memory's own stays. -/
theorem Mem.stays {w1 w2 : World} {B p bm last limit g : Nat} {l : List F4} {t : TypeId} {cs : Array Value} (h : Mem w1 B p bm l last limit) (hb : Blk w1 g t cs) (ht : t ≠ 63) (k : Kept (MFoot p bm) w1 w2) : Blk w2 g t cs :=
  hb.kept k (h.other hb ht)

set_option maxHeartbeats 4000000 in
theorem awake_any (w : World) : Calls Try.prog 6 #[] w fun e w' => e = .returned (.bool true) ∧ Kept Nil w w' := by
  have hok : okT (1, 2, 3) = true := by decide
  go_enter Try.func6, Try.ntmps6
  go_wp2_with fail
  refine (new_good 2 (by decide) (by decide) w).mono ?_
  rintro e w1 ⟨p, bm, rfl, h1, k1⟩
  have H1 := Lib.hid (h1.keptN ((Kept.refl Nil w1).alloc (.cells #[.int .i64 1, .int .i64 2, .int .i64 3] 33)))
  have K1 := Lib.hid (k1.alloc (.cells #[.int .i64 1, .int .i64 2, .int .i64 3] 33))
  have B1 := Blk.new w1 33 #[.int .i64 1, .int .i64 2, .int .i64 3]
  have HB1 := Lib.hid B1
  clear h1 k1 B1
  go_wp2_with fail
  generalize w1.alloc (.cells #[.int .i64 1, .int .i64 2, .int .i64 3] 33) = w2 at *
  generalize w1.heap.size = b at *
  refine (add_good (t := (1, 2, 3)) H1.out (by decide) (by decide) hok).mono ?_
  rintro e w3 ⟨rfl, h3, k3⟩
  have H3 := Lib.hid (show Mem w3 w.heap.size p bm [(1, 1, 2, 3)] 1 2 from h3)
  have K3 := Lib.hid (H1.out.outer K1.out k3)
  have B3 := H1.out.stays HB1.out (by decide) k3
  have HB3 := Lib.hid B3
  have x0 := B3.cell 0
  have x1 := B3.cell 1
  have x2 := B3.cell 2
  rw [show ((0 : Nat) : Int) + 1 = 1 from rfl]
  clear h3 k3 B3 H1 K1 HB1
  go_wp2_with fail
  refine (add_good (t := (1, 2, 3)) H3.out (by decide) (by decide) hok).mono ?_
  rintro e w4 ⟨rfl, h4, k4⟩
  have H4 := Lib.hid (show Mem w4 w.heap.size p bm [(1, 1, 2, 3), (2, 1, 2, 3)] 2 2 from h4)
  have K4 := Lib.hid (H3.out.outer K3.out k4)
  have HB4 := Lib.hid (H3.out.stays HB3.out (by decide) k4)
  rw [show ((1 : Nat) : Int) + 1 = 2 from rfl]
  clear h4 k4 H3 K3 HB3 x0 x1 x2
  go_wp2_with fail
  refine (remove_hit (t := (1, 2, 3)) H4.out (k := 2) (wf_i64 (by decide)) (by decide)).mono ?_
  rintro e w5 ⟨rfl, h5, k5⟩
  have H5 := Lib.hid (show Mem w5 w.heap.size p bm [(1, 1, 2, 3)] 2 2 from h5)
  have K5 := Lib.hid (H4.out.outer K4.out k5)
  have B5 := H4.out.stays HB4.out (by decide) k5
  have HB5 := Lib.hid B5
  have x0 := B5.cell 0
  have x1 := B5.cell 1
  have x2 := B5.cell 2
  clear h5 k5 B5 H4 K4 HB4
  go_wp2_with fail
  refine (add_good (t := (1, 2, 3)) H5.out (by decide) (by decide) hok).mono ?_
  rintro e w6 ⟨rfl, h6, k6⟩
  have H6 := Lib.hid (show Mem w6 w.heap.size p bm [(1, 1, 2, 3), (3, 1, 2, 3)] 3 2 from h6)
  have K6 := Lib.hid (H5.out.outer K5.out k6)
  rw [show ((2 : Nat) : Int) + 1 = 3 from rfl]
  clear h6 k6 H5 K5 HB5 x0 x1 x2
  go_wp2_with fail
  refine (len_any H6.out).mono ?_
  rintro e w7 ⟨rfl, rfl⟩
  rw [show (([(1, 1, 2, 3), (3, 1, 2, 3)] : List F4).length : Int) = 2 from rfl]
  go_wp2_with fail
  go_ret
  exact ⟨rfl, K6.out⟩
end Go.Proofs.Ytgnpclcoinndpaa
