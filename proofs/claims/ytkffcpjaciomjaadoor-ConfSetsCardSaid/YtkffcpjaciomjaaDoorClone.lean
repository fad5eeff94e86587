/- strings.Clone of a short string: the same bytes, new memory alone. -/
import Derived.Test.YtkffcpjaciomjaaDoorFrame
import Derived.Lib.BufferWrite
import Derived.Lib.UnsafeStr
import Derived.Laws.MakeOwn
namespace Go.Proofs.YtkffcpjaciomjaaDoor
open Go.RowKit
set_option maxRecDepth 100000

theorem Tryd.infoU8 : (Tryd.prog.info? 5).map (fun i => (i.zero, i.size, i.bytes)) = some (some (.int .u8 0), 1, 1) := by kernel_rfl

set_option maxHeartbeats 1000000 in
theorem litClone_any (s : ByteArray) (w : World) (hs : s.size ≤ 100000) :
    Calls Tryd.prog 56 #[.string s] w fun e w' => e = .returned (.string s) ∧ Kept Nil w w' := by
  obtain ⟨iu, hi, hz, hsz, hby⟩ := info_parts Tryd.infoU8
  rcases Nat.eq_zero_or_pos s.size with h0 | h0
  · obtain rfl : s = ⟨#[]⟩ := ByteArray.ext (Array.eq_empty_of_size_eq_zero h0)
    go_enter Tryd.func56, Tryd.ntmps56
    go_wp2
    go_ret
    exact ⟨rfl, Kept.refl _ _⟩
  · have hne : s.data.toList ≠ [] := fun e => by rw [Lib.size_eq, e] at h0; exact Nat.lt_irrefl _ h0
    have hone : Tryd.prog.cellsOf 5 = 1 := by kernel_rfl
    obtain ⟨Z, hZ⟩ : ∃ Z, Z = madeCells (Value.int .u8 0).cells ((s.size : Int).toNat * iu.size) := ⟨_, rfl⟩
    have hZs : Z.size = s.size := by rw [hZ, size_madeCells, hsz]; simp
    have mk : ∀ u : World, (Instr.makeSlice 59 (.int .i64 (s.size : Int)) (.int .i64 (s.size : Int))).run Tryd.prog u = .ok (.slice (some ⟨u.heap.size, 0, none⟩) s.size s.size) (u.alloc (.cells Z 5)) := by
      intro u
      have r := run_make (P := Tryd.prog) u 59 5 iu (.int .u8 0) Tryd.underlying59 hi hz .i64 .i64 (s.size : Int) (s.size : Int) (by omega) (Int.le_refl _) (by rw [hby]; omega) (by omega)
      rw [← hZ] at r
      simpa using r
    clear hZ
    have cp := Lib.run_copy_row_string (P := Tryd.prog) (w.alloc (.cells Z 5)) 59 9 3 5 w.heap.size 0 s.size s.size s Z 5 Tryd.underlying59 (by rw [hi]; simp [hsz]) (heap_alloc_new w _) (Nat.le_refl _) (by omega)
    obtain ⟨Y, hY⟩ : ∃ Y, Y = (Z.toList.take 0 ++ Lib.byteCells s.data.toList ++ Z.toList.drop (0 + s.size)).toArray := ⟨_, rfl⟩
    rw [← hY] at cp
    have hYl : Y.toList = Lib.byteCells s.data.toList := by
      rw [hY, List.take_zero, List.drop_of_length_le (by simp; omega)]; simp
    have hYs : Y.size = s.size := by rw [← Array.length_toList, hYl, Lib.byteCells_length, ← Lib.size_eq]
    have at0 : ((w.alloc (.cells Z 5)).setRow w.heap.size Y).heap[w.heap.size]? = some (.cells Y 5 (0, 0)) := setRow_heap _ _ Z _ 5 (0, 0) (heap_alloc_new w _)
    have us := Lib.run_unsafeString_row (P := Tryd.prog) ((w.alloc (.cells Z 5)).setRow w.heap.size Y) 86 3 9 5 Tryd.underlying86 hone w.heap.size Y.size (by unfold World.shape?; rw [at0]) s.data.toList hne
      (by rw [← Lib.size_eq]; omega) (by rw [← Lib.size_eq]; omega)
      (fun j x hx => Lib.cells_of_row at0 Y.size j _ (by rw [List.take_of_length_le (by simp), hYl]; simp [Lib.byteCells, hx]))
    rw [← Lib.size_eq] at us
    clear hY
    go_enter Tryd.func56, Tryd.ntmps56
    go_wp2
    go_ret
    refine ⟨rfl, Kept.ofBelow (Lib.below_freeze ?_ (p := ⟨w.heap.size, 0, none⟩) (Nat.le_refl _) _)⟩
    exact ((Below.refl _ w).alloc (Nat.le_refl _) _).trans ⟨rfl, rfl, rfl, by simp, fun k hk => setRow_other _ _ _ _ (by omega)⟩

theorem clone_any (s : ByteArray) (w : World) (hs : s.size ≤ 100000) :
    Calls Tryd.prog 41 #[.string s] w fun e w' => e = .returned (.string s) ∧ Kept Nil w w' := by
  go_enter Tryd.func41, Tryd.ntmps41
  go_wp2_with (go_at_call 56; refine (litClone_any s _ hs).mono ?_; rintro e w' ⟨rfl, hk⟩)
  go_ret
  exact ⟨rfl, hk⟩
end Go.Proofs.YtkffcpjaciomjaaDoor
