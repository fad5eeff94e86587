/- Layer term: the law's own held: a binding whose symbols are 0 to 4096, nothing at the place 0. -/
import Derived.Test.YtkfijbinaidaiaaURef
namespace Go.Proofs.Ytkfijbinaidaiaa
open Go.RowKit

def clamp (x : Int) : Int := if 4096 < (if x < 0 then 0 else x) then 4096 else if x < 0 then 0 else x
theorem clamp_range (x : Int) : 0 ≤ clamp x ∧ clamp x ≤ 4096 := by unfold clamp; split <;> split <;> omega
def heldTo (j : Nat) (b : Bd) : Bd := fun k => if k < j then clamp (b k) else b k
def heldB (b : Bd) : Bd := fun k => if k = 0 then 0 else clamp (b k)
theorem heldTo_zero (b : Bd) : heldTo 0 b = b := by funext k; unfold heldTo; simp
theorem heldTo_get (j : Nat) (b : Bd) : heldTo j b j = b j := by unfold heldTo; simp
theorem heldTo_succ (j : Nat) (b : Bd) : upd (heldTo j b) j (clamp (b j)) = heldTo (j + 1) b := by
  funext k
  unfold upd heldTo
  by_cases e : k = j
  · subst e; simp
  · by_cases h : k < j
    · simp [e, h, show k < j + 1 by omega]
    · simp [e, h, show ¬ k < j + 1 by omega]
theorem held_cells (b : Bd) : cellsB (upd (heldTo 33 b) 0 0) = cellsB (heldB b) := cellsB_ext fun k hk => by
  unfold upd heldTo heldB
  by_cases e : k = 0
  · simp [e]
  · simp [e, hk]
theorem heldB_range (b : Bd) (k : Nat) : 0 ≤ heldB b k ∧ heldB b k ≤ 4096 := by
  unfold heldB
  split
  · omega
  · exact clamp_range _
theorem heldB_zero (b : Bd) : heldB b 0 = 0 := by unfold heldB; simp

structure HeldW (w : World) (b : Bd) (W : World) : Prop where
  kept : Kept Nil w W
  b0 : Blk W w.heap.size 37 (cellsB b)
  b1 : Blk W (w.heap.size + 1) 37 (cellsB zeroB)
theorem HeldW.start (w : World) (b : Bd) : HeldW w b ((w.alloc (.cells (cellsB b) 37)).alloc (.cells (cellsB zeroB) 37)) := by
  refine ⟨((Kept.refl Nil w).alloc _).alloc _, (Blk.new w _ _).alloc _, ?_⟩
  have := Blk.new (w.alloc (.cells (cellsB b) 37)) 37 (cellsB zeroB)
  simpa using this
theorem HeldW.set_ {w : World} {b : Bd} {W : World} (h : HeldW w b W) (i : Nat) (s : Int) : HeldW w (upd b i s) (W.setCell ⟨w.heap.size, i, none⟩ (.int .i64 s)) := by
  refine ⟨h.kept.setCell _ (.inr (by show _ ≤ w.heap.size; omega)) _, ?_, h.b1.far (by show _ ≠ w.heap.size; omega) _⟩
  rw [← cellsB_set]
  exact h.b0.set_ i _
theorem results_bind1 {fn : Func} {p : Tmp} (h : fn.results = #[.cell p 37]) (tmps : Array Value) (w : World) (g : Nat) (b : Bd)
    (hp : tmps.getD p undef = .pointer (some ⟨g, 0, none⟩)) (hg : Blk w g 37 (cellsB b)) : (results fn tmps).run Try.prog w = .ok (.agg (cellsB b)) w :=
  results_cell_row h tmps w g _ _ _ _ hp hg Try.underlying37 rfl (infoB b)

set_option maxHeartbeats 1000000 in
theorem held_any (b : Bd) (w : World) :
    Calls Try.prog 16 #[.agg (cellsB b)] w fun e w' => e = .returned (.agg (cellsB (heldB b))) ∧ Kept Nil w w' := by
  have A0 := Lib.hid (HeldW.start w b)
  go_enter Try.func16, Try.ntmps16
  go_wp2_with ((with_reducible refine wpList_alloc_bind rfl rfl _ ?_ ?_)
               · simp; rfl)
  go_loopw [4] (fun i wr => ∃ j : Nat, j ≤ 33 ∧ i = .int .i64 j ∧ HeldW w (heldTo j b) wr) (fun i _ => 33 - (intOf i).toNat)
  case atStart => exact ⟨0, by omega, rfl, by rw [heldTo_zero]; exact A0.out⟩
  case round =>
    obtain ⟨j, hj, rfl, h⟩ := hrel
    have H := Lib.hid h
    by_cases hlt : j < 33
    · have c0 := h.b0.cell j
      rw [cellsB_get _ hlt, heldTo_get] at c0
      have f0 := h.b0.frozen j
      have HS := Lib.hid (h.set_ j (clamp (b j)))
      rw [heldTo_succ] at HS
      generalize b j = q at c0 HS
      clear h A0
      go_wp2_with fail
      go_roundw
      case rel => exact ⟨j + 1, by omega, by go_num, HS.out⟩
      case measure => simp [intOf]; omega
    · obtain rfl : j = 33 := by omega
      have c0 := h.b0.cell 0
      rw [cellsB_get _ (by decide)] at c0
      have f0 := h.b0.frozen 0
      have HS := Lib.hid (h.set_ 0 0)
      generalize heldTo 33 b 0 = q at c0
      clear h A0
      go_wp2_with (first
        | ((with_reducible refine wpList_load_bind rfl (.tmp 1) rfl _ rfl (upd (heldTo 33 b) 0 0) ?_ ?_)
           · exact HS.out.b0)
        | ((with_reducible refine wpList_store_bindW rfl _ _ rfl _ (upd (heldTo 33 b) 0 0) rfl rfl zeroB ?_ ?_)
           · exact HS.out.b1
           intro W kW bW
           have KW := Lib.hid kW
           have BW := Lib.hid bW
           clear kW bW))
      have BE := BW.out
      rw [held_cells] at BE
      exact bodyPost_ret (results_bind1 Try.results16 _ W _ (heldB b) rfl BE) rfl ⟨rfl, HS.out.kept.trans KW.out (fun i hi e => by omega)⟩
end Go.Proofs.Ytkfijbinaidaiaa
