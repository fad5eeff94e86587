/- The reference's Parse. -/
import Derived.Test.YtdkjjkplmlmbeaaDoorTWords
import Derived.Deep.RegionHeld3
namespace Go.Proofs.YtdkjjkplmlmbeaaDoor
open Go.RowKit

def refT (o : Option T3) : T3 := match o with
  | some t => t
  | none => (0, 0, 0)
theorem refL_3 {l x y z : List UInt8} (h : wl l = [x, y, z]) : refL l = if okT (numL x, numL y, numL z) then some (numL x, numL y, numL z) else none := by unfold refL; rw [h]
theorem refL_no {l : List UInt8} (h : (wl l).length ≠ 3) : refL l = none := by
  unfold refL
  split
  · rename_i x y z e; rw [e] at h; exact absurd rfl h
  · rfl

/-- The result's block, and that only new memory has turned. -/
def RSt (w W : World) : Prop := Kept Nil w W ∧ W.heap[w.heap.size]? = some (.cells #[.int .i64 0, .int .i64 0, .int .i64 0] 22 (0, 0))
theorem RSt.start (w : World) : RSt w (w.alloc (.cells #[.int .i64 0, .int .i64 0, .int .i64 0] 22)) := ⟨(Kept.refl _ _).alloc _, heap_alloc_new w _⟩
theorem RSt.step {w W W' : World} (h : RSt w W) (k : Kept Nil W W') : RSt w W' := ⟨h.1.trans k (fun _ _ g => g), by rw [k.block _ (lt_of_block h.2) id]; exact h.2⟩
theorem RSt.facts {w W : World} (h : RSt w W) : W.cell? ⟨w.heap.size, 0, none⟩ = some (.int .i64 0) ∧ W.cell? ⟨w.heap.size, 1, none⟩ = some (.int .i64 0) ∧ W.cell? ⟨w.heap.size, 2, none⟩ = some (.int .i64 0) ∧
    W.frozen? ⟨w.heap.size, 0, none⟩ = false ∧ W.frozen? ⟨w.heap.size, 1, none⟩ = false ∧ W.frozen? ⟨w.heap.size, 2, none⟩ = false := by
  have hr := h.2
  exact ⟨by simp [World.cell?, hr], by simp [World.cell?, hr], by simp [World.cell?, hr], by simp [World.frozen?, hr], by simp [World.frozen?, hr], by simp [World.frozen?, hr]⟩

set_option maxRecDepth 100000 in
set_option maxHeartbeats 2000000 in
theorem refParse_any (s : ByteArray) (hs : s.size ≤ 1000) (w : World) :
    Calls Tryd.prog 14 #[.string s] w fun e w' => e = .returned (.tuple #[arr (refT (refL s.data.toList)), .bool (refL s.data.toList).isSome]) ∧ Kept Nil w w' := by
  have R0 := Lib.hid (RSt.start w)
  go_enter Tryd.func14, Tryd.ntmps14
  go_wp2_with fail
  refine (words_any s hs _).mono ?_
  rintro e w1 ⟨v, ws, rfl, HR0, hw, hl, hk⟩
  have R1 := Lib.hid (RSt.step R0.out hk)
  have HR := Lib.hid HR0
  have HW := Lib.hid hw
  obtain ⟨a, cap, hv⟩ := HR.out.shape
  subst hv
  clear HR0 hw
  by_cases h3 : ws.length = 3
  · obtain ⟨x, y, z, rfl⟩ : ∃ x y z, ws = [x, y, z] := by
      match ws, h3 with
      | [x, y, z], _ => exact ⟨x, y, z, rfl⟩
    obtain ⟨g, cap', e, g0⟩ := ownName HR.out (i := 0) rfl
    cases e
    obtain ⟨_, _, e, g1⟩ := ownName HR.out (i := 1) rfl
    cases e
    obtain ⟨_, _, e, g2⟩ := ownName HR.out (i := 2) rfl
    cases e
    have hi : x.data.toList ++ 32 :: (y.data.toList ++ 32 :: z.data.toList) = s.data.toList := by
      have := inter_wl s.data.toList
      rw [← HW.out] at this
      exact this
    have hz := congrArg List.length hi
    simp only [List.length_append, List.length_cons, Array.length_toList] at hz
    have zx : x.size ≤ 100000 := by have : x.data.size = x.size := rfl; have : s.data.size = s.size := rfl; omega
    have zy : y.size ≤ 100000 := by have : y.data.size = y.size := rfl; have : s.data.size = s.size := rfl; omega
    have zz : z.size ≤ 100000 := by have : z.data.size = z.size := rfl; have : s.data.size = s.size := rfl; omega
    clear hz hi
    obtain ⟨nx, hnx⟩ : ∃ n, n = numL x.data.toList := ⟨_, rfl⟩
    obtain ⟨ny, hny⟩ : ∃ n, n = numL y.data.toList := ⟨_, rfl⟩
    obtain ⟨nz, hnz⟩ : ∃ n, n = numL z.data.toList := ⟨_, rfl⟩
    have CX : Hid (∀ W : World, Calls Tryd.prog 23 #[.string x] W fun e w' => e = .returned (.int .i64 nx) ∧ W = w') := Lib.hid fun W => by have := number_any x zx W; rw [← hnx] at this; exact this
    have CY : Hid (∀ W : World, Calls Tryd.prog 23 #[.string y] W fun e w' => e = .returned (.int .i64 ny) ∧ W = w') := Lib.hid fun W => by have := number_any y zy W; rw [← hny] at this; exact this
    have CZ : Hid (∀ W : World, Calls Tryd.prog 23 #[.string z] W fun e w' => e = .returned (.int .i64 nz) ∧ W = w') := Lib.hid fun W => by have := number_any z zz W; rw [← hnz] at this; exact this
    have HF : Hid (refL s.data.toList = if okT (nx, ny, nz) then some (nx, ny, nz) else none) := Lib.hid (by rw [refL_3 (x := x.data.toList) (y := y.data.toList) (z := z.data.toList) HW.out.symm, ← hnx, ← hny, ← hnz])
    have CS : Hid (∀ W : World, Calls Tryd.prog 9 #[.agg #[.int .i64 nx, .int .i64 ny, .int .i64 nz]] W fun e w' => e = .returned (.bool (okT (nx, ny, nz))) ∧ Kept Nil W w') := Lib.hid fun W => refRight_any (nx, ny, nz) W
    clear hnx hny hnz h3 hl zx zy zz
    go_wp2_with fail
    go_region_held3 (fun W => W.cell? ⟨g, 0, none⟩ = some (.string x) ∧ W.cell? ⟨g, 1, none⟩ = some (.string y) ∧ W.cell? ⟨g, 2, none⟩ = some (.string z))
      (first | (go_keep; done))
      (first | (go_at_call 23; with_reducible refine (CX.out _).mono ?_; rintro e w' ⟨rfl, rfl⟩) | (go_at_call 23; with_reducible refine (CY.out _).mono ?_; rintro e w' ⟨rfl, rfl⟩) | (go_at_call 23; with_reducible refine (CZ.out _).mono ?_; rintro e w' ⟨rfl, rfl⟩))
    all_goals
      go_wp2_with fail
      clear g0 g1 g2
      have R2 := Lib.hid (RSt.step R1.out ((Kept.refl _ _).alloc (.cells #[.int .i64 nx, .int .i64 ny, .int .i64 nz] 22)).drew)
      cases ho : okT (nx, ny, nz) with
      | true =>
        have CS' : Hid (∀ W : World, Calls Tryd.prog 9 #[.agg #[.int .i64 nx, .int .i64 ny, .int .i64 nz]] W fun e w' => e = .returned (.bool true) ∧ Kept Nil W w') := Lib.hid (by have := CS.out; rw [ho] at this; exact this)
        have HF' := Lib.hid (show refL s.data.toList = some (nx, ny, nz) by rw [HF.out, ho]; rfl)
        clear CS HF ho
        refine (CS'.out _).mono ?_
        rintro e w2 ⟨rfl, k2⟩
        have R3 := Lib.hid (RSt.step R2.out k2)
        have O3 := Lib.hid (keep3 (own3 w1 (.int .i64 nx) (.int .i64 ny) (.int .i64 nz) 22) k2)
        obtain ⟨c0, c1, c2, f0, f1, f2⟩ := R3.out.facts
        obtain ⟨v0, v1, v2, _⟩ := O3.out
        go_wp2_with fail
        refine bodyPost_ret (v := .tuple #[.agg #[.int .i64 nx, .int .i64 ny, .int .i64 nz], .bool true]) (by simp [results, Tryd.results14, go_sem, c0, c1, c2]) rfl ⟨?_, ?_⟩
        · rw [HF'.out]; rfl
        · exact ((R3.out.1.setCell _ (.inr (Nat.le_refl _)) _).setCell _ (.inr (Nat.le_refl _)) _).setCell _ (.inr (Nat.le_refl _)) _
      | false =>
        have CS' : Hid (∀ W : World, Calls Tryd.prog 9 #[.agg #[.int .i64 nx, .int .i64 ny, .int .i64 nz]] W fun e w' => e = .returned (.bool false) ∧ Kept Nil W w') := Lib.hid (by have := CS.out; rw [ho] at this; exact this)
        have HF' := Lib.hid (show refL s.data.toList = none by rw [HF.out, ho]; rfl)
        clear CS HF ho
        refine (CS'.out _).mono ?_
        rintro e w2 ⟨rfl, k2⟩
        have R3 := Lib.hid (RSt.step R2.out k2)
        obtain ⟨c0, c1, c2, f0, f1, f2⟩ := R3.out.facts
        go_wp2_with fail
        refine bodyPost_ret (v := .tuple #[.agg #[.int .i64 0, .int .i64 0, .int .i64 0], .bool false]) (by simp [results, Tryd.results14, go_sem, c0, c1, c2]) rfl ⟨?_, ?_⟩
        · rw [HF'.out]; rfl
        · exact ((R3.out.1.setCell _ (.inr (Nat.le_refl _)) _).setCell _ (.inr (Nat.le_refl _)) _).setCell _ (.inr (Nat.le_refl _)) _
  · have hn : refL s.data.toList = none := refL_no (by rw [← HW.out, List.length_map]; exact h3)
    have HN := Lib.hid hn
    have hb : ((ws.length : Int) != 3) = true := by rw [bne_iff_ne]; omega
    obtain ⟨c0, c1, c2, f0, f1, f2⟩ := R1.out.facts
    clear hn h3
    go_wp2_with fail
    refine bodyPost_ret (v := .tuple #[.agg #[.int .i64 0, .int .i64 0, .int .i64 0], .bool false]) (by simp [results, Tryd.results14, go_sem, c0, c1, c2]) rfl ⟨?_, ?_⟩
    · rw [HN.out]; rfl
    · exact ((R1.out.1.setCell _ (.inr (Nat.le_refl _)) _).setCell _ (.inr (Nat.le_refl _)) _).setCell _ (.inr (Nat.le_refl _)) _
end Go.Proofs.YtdkjjkplmlmbeaaDoor
