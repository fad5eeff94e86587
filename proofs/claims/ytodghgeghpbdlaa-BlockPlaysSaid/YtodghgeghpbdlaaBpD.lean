/- A list of owners (string,int): put, Push, Before. -/
import Derived.Test.YtodghgeghpbdlaaBpC
import Derived.Deep.DeepCutAuto
import Derived.Deep.RegionHeld3
namespace Go.Proofs.Ytodghgeghpbdlaa
set_option maxRecDepth 100000
open Go.RowKit Go.Maps

section
variable {w w' : World} {B p : Nat} {m : Value} {g : Nat → Nat} {row : List Nat} {vals : List (ByteArray × Option Nat)}
/-- The list behind a call that put a value in. -/
def GrewP (w w' : World) (B p : Nat) (m : Value) (row : List Nat) (vals : List (ByteArray × Option Nat)) : Prop :=
  ∃ m' g', LstP w' B p m' g' row vals ∧ (m' = m ∨ ∃ bm, m' = .map (some bm) ∧ w.heap.size ≤ bm) ∧ Kept (FoP w B m) w w'

/-- What the walk of put wants of each world. -/
structure MidP (w : World) (p bm : Nat) (g : Nat → Nat) (row : List Nat) (x a : Nat) : Prop where
  c0 : w.cell? ⟨p, 0, none⟩ = some (.map (some bm))
  own : ∃ n D, w.ownsMap (H := Unit) Try.prog 3 ptrE bm n D ∧ ∀ y ∈ row, y ≤ 1000000 ∧ D.atKey (.int .i64 (y : Int)) .nil = .lit (.int .i64 (g y : Int))
  la : Live w (eb p g a) 3
  lx : Live w (eb p g x) 3
  na : eb p g a ≠ bm
  nx : eb p g x ≠ bm
  np : p ≠ bm
theorem MidP.look {bm x a : Nat} (M : MidP w p bm g row x a) {y : Nat} (hy : y = 0 ∨ y ∈ row) : y ≠ 0 → (Instr.lookup 181 (.map (some bm)) (.int .i64 (y : Int)) false).run Try.prog w = .ok (.pointer (some ⟨g y, 0, none⟩)) w := by
  intro h0
  obtain ⟨n, D, ho, hD⟩ := M.own
  have := hD y (hy.resolve_left h0)
  exact look_p ho this.2 this.1
theorem MidP.set {bm x a : Nat} (M : MidP w p bm g row x a) {e i : Nat} (he : e ≠ bm) (hi : e = p → i ≠ 0) (u : Value) : MidP (w.setCell ⟨e, i, none⟩ u) p bm g row x a := by
  obtain ⟨n, D, ho, hD⟩ := M.own
  refine ⟨?_, ⟨n, D, ho.setCell (a := ⟨e, i, none⟩) (fun q => he q.symm) u, hD⟩, M.la.set _ _ _, M.lx.set _ _ _, M.na, M.nx, M.np⟩
  exact (World.cell?_setCell_other _ _ _ _ (by intro q; cases q; exact hi rfl rfl)).trans M.c0
theorem LstP.mid {bm : Nat} (h : LstP w B p (.map (some bm)) g row vals) (hl : vals.length ≤ 100000) {x a : Nat} (hx : x = 0 ∨ x ∈ row) (ha : a = 0 ∨ a ∈ row) : MidP w p bm g row x a := by
  rcases h.mp with ⟨e, _⟩ | ⟨bm', D, e, _, ho, ht⟩
  · cases e
  · cases e
    exact ⟨h.here.cell 0, ⟨_, D, ho, fun y hy => ⟨by have := h.range y hy; omega, ht.get y hy⟩⟩, h.ends_live ha, h.ends_live hx, h.ends_bm ha, h.ends_bm hx, h.ends_bm (x := 0) (.inl rfl)⟩
theorem MidP.stored {bm x a n m : Nat} {D : DataW Unit} {N : Int} {w4 : World} (M : MidP w p bm g row x a) (hD : ∀ y ∈ row, y ≤ 1000000 ∧ D.atKey (.int .i64 (y : Int)) .nil = .lit (.int .i64 (g y : Int))) (hN : N = (n : Int)) (hn : n ∉ row) (o : Obj) (q : Nat)
    (hm : w4.ownsMap (H := Unit) Try.prog 3 ptrE bm m (D.put (.int .i64 N) (.lit (.int .i64 (q : Int))))) (hg : (w.alloc o).grownBy w4 (some bm)) : MidP w4 p bm g row x a := by
  have hlt := World.block_lt_of_cell? w ⟨p, 0, none⟩ M.c0
  subst hN
  refine ⟨?_, ⟨_, _, hm, fun y hy => ⟨(hD y hy).1, ?_⟩⟩, (M.la.alloc o).grown hg M.na, (M.lx.alloc o).grown hg M.nx, M.na, M.nx, M.np⟩
  · rw [World.cell?_of_block (hg.block p (by simp at hlt ⊢; omega) (by simpa using M.np)), World.cell?_alloc_past _ _ _ hlt]; exact M.c0
  · rw [atKey_put_other (int_ne (fun e => hn (by have : y = n := by omega
                                                 exact this ▸ hy)))]
    exact (hD y hy).2

set_option maxHeartbeats 4000000 in
theorem putM_p {bm : Nat} (h : LstP w B p (.map (some bm)) g row vals) (hl : vals.length ≤ 100000) {x : Nat} (hx : x = 0 ∨ x ∈ row) (v : (ByteArray × Option Nat)) :
    Calls Try.prog 110 #[.pointer (some ⟨p, 0, none⟩), .int .i64 (x : Int), .agg #[.string v.1, .map v.2]] w fun e w' => e = .returned (.int .i64 ((vals.length : Int) + 1)) ∧ ∃ g', LstP w' B p (.map (some bm)) g' (ins row x (vals.length + 1)) (vals ++ [v]) ∧ Kept (FoP w B (.map (some bm))) w w' := by
  go_enter Try.func110, Try.ntmps110
  go_upto_region 1 with fail
  have hb0 := Blk.new w 136 #[.string v.1, .map v.2]
  have HK0 := Lib.hid ((Kept.refl Nil w).alloc (.cells #[.string v.1, .map v.2] 136))
  replace h := h.keptN HK0.out
  generalize hw0 : w.alloc (.cells #[.string v.1, .map v.2] 136) = w0 at *
  generalize w.heap.size = b0 at *
  clear hw0
  have hnil := fun W : World => run_eql_map_nil (P := Try.prog) W _ _ _ (some bm) Try.underlying181
  have c0 := h.here.cell 0
  have c3 := h.here.cell 3
  have f3 := h.here.frozen 3
  go_wp2_with fail
  obtain ⟨a, ha⟩ : ∃ a, a = bf 0 row x := ⟨_, rfl⟩
  have ha' : a = 0 ∨ a ∈ row := by rw [ha]; exact bf_mem
  have M2 := (h.mid hl hx ha').set (e := p) (i := 3) (h.ends_bm (x := 0) (.inl rfl)) (fun _ => by decide) (.int .i64 ((vals.length : Int) + 1))
  have e1 := h.ends_set hx (.int .i64 ((vals.length : Int) + 1))
  rw [← ha] at e1
  obtain ⟨D, hDm, hD⟩ : ∃ D, (w0.setCell ⟨p, 3, none⟩ (.int .i64 ((vals.length : Int) + 1))).ownsMap (H := Unit) Try.prog 3 ptrE bm vals.length D ∧ MapOf D row g := by
    rcases h.mp with ⟨e, _⟩ | ⟨bm', D, e, _, ho, ht⟩
    · cases e
    · cases e
      exact ⟨D, ho.setCell (a := ⟨p, 3, none⟩) (fun e => h.ends_bm (x := 0) (.inl rfl) e.symm) _, ht⟩
  have hb2 := (hb0.far (p := ⟨p, 3, none⟩) (fun e => by
    have := h.here
    unfold Blk at this hb0
    simp only at e
    rw [e, this] at hb0
    simp at hb0) (.int .i64 ((vals.length : Int) + 1)))
  have q0 := hb2.cell 0
  have q1 := hb2.cell 1
  have hsz : (w0.setCell ⟨p, 3, none⟩ (.int .i64 ((vals.length : Int) + 1))).heap.size = w0.heap.size := by simp [World.setCell]
  have hput := fun w3 w4 w5 w6 => h.put (w2 := w0.setCell ⟨p, 3, none⟩ (.int .i64 ((vals.length : Int) + 1))) (w3 := w3) (w4 := w4) (w5 := w5) (w6 := w6) (n := vals.length + 1) (h := x) (a := a) (v := v) (D := D) (N := (vals.length : Int) + 1) (q := (w0.setCell ⟨p, 3, none⟩ (.int .i64 ((vals.length : Int) + 1))).heap.size)
  generalize hw2 : w0.setCell ⟨p, 3, none⟩ (.int .i64 ((vals.length : Int) + 1)) = w2 at *
  refine (at_p (x := x) (g := g) M2.c0 (M2.look hx)).mono ?_
  rintro e w' ⟨rfl, rfl⟩
  have e0 := M2.c0
  have hkey : keyOf Try.prog 3 (.int .i64 ((vals.length : Int) + 1)) = some (.int .i64 ((vals.length : Int) + 1)) := keyOf_int_mk Try.underlying3 (WalkArith.wf_i64 (by omega))
  have HH := Lib.hid h
  have HW := Lib.hid hw2
  have HA := Lib.hid ha
  have HA' := Lib.hid ha'
  have HX := Lib.hid hx
  have HP := Lib.hid hput
  have HD := Lib.hid hD
  have HS := Lib.hid hsz
  clear c0 c3 f3 h hw2 ha ha' hx hput hD hsz
  obtain ⟨w4, hrun, hm4, hg4⟩ := (hDm.alloc (.cells #[.int .i64 (a : Int), .int .i64 (x : Int), .string v.1, .map v.2] 188)).drew.update (val := .pointer (some ⟨w2.heap.size, 0, none⟩)) lawP Try.underlying181 (by unfold maxLen; omega) hkey (ptrE_mk _)
  have HM := Lib.hid hm4
  have HG := Lib.hid (show (w2.alloc (.cells #[.int .i64 (a : Int), .int .i64 (x : Int), .string v.1, .map v.2] 188)).grownBy w4 (some bm) from ⟨hg4.os, hg4.tape, hg4.output, hg4.size, hg4.block⟩)
  clear hm4 hg4
  go_wp2_with fail
  have hp2 := World.block_lt_of_cell? w2 ⟨p, 0, none⟩ e0
  have hq2 := World.block_lt_of_cell? w2 _ q0
  have e0' : (w2.alloc (.cells #[.int .i64 (a : Int), .int .i64 (x : Int), .string v.1, .map v.2] 188)).drew.cell? ⟨p, 0, none⟩ = some (.map (some bm)) := by rw [World.cell?_drew, World.cell?_alloc_past _ _ _ hp2]; exact e0
  go_region
  have hnr : vals.length + 1 ∉ row := fun e => by have := (HH.out.range _ e).2; omega
  have M4 := M2.stored (n := vals.length + 1) (fun y hy => ⟨by have := HH.out.range y hy; omega, HD.out.get y hy⟩) (by simp) hnr _ _ HM.out HG.out
  clear e0 e0' e1 hkey hDm hrun q0 q1 hp2 hq2
  go_wp2_with fail
  refine (at_p (x := a) (g := g) M4.c0 (M4.look HA'.out)).mono ?_
  rintro e w' ⟨rfl, rfl⟩
  obtain ⟨u, hu⟩ := M4.la.at (eo a + 1) (by unfold eo; split <;> omega)
  have hf := M4.la.free (eo a + 1)
  go_wp2_with fail
  have M5 := M4.set (e := eb p g a) (i := eo a + 1) M4.na (fun _ => by omega) (.int .i64 ((vals.length : Int) + 1))
  generalize hw5 : w4.setCell ⟨eb p g a, eo a + 1, none⟩ (.int .i64 ((vals.length : Int) + 1)) = w5 at *
  refine (at_p (x := x) (g := g) M5.c0 (M5.look HX.out)).mono ?_
  rintro e w' ⟨rfl, rfl⟩
  obtain ⟨u', hu'⟩ := M5.lx.at (eo x) (by unfold eo; split <;> omega)
  have hf' := M5.lx.free (eo x)
  have HW5 := Lib.hid hw5
  clear hw5 hu hf
  go_wp2
  go_ret
  have hlast := HP.out _ _ _ _ ⟨⟨HW.out ▸ Kept.refl _ _, HS.out⟩, rfl, HG.out, HW5.out.symm, rfl⟩ (by simp) trivial HX.out HA.out HD.out HS.out HM.out
  exact ⟨rfl, _, hlast.1, FoP.trans (HK0.out.mono (fun _ _ e => e.elim)) hlast.2 (.inl rfl)⟩
theorem LstP.withMap (h : LstP w B p (.map none) g row vals) : LstP ((w.setCell ⟨p, 0, none⟩ (.map (some w.heap.size))).alloc (.map #[] 0)) B p (.map (some w.heap.size)) g row vals ∧ Kept (FoP w B (.map none)) w ((w.setCell ⟨p, 0, none⟩ (.map (some w.heap.size))).alloc (.map #[] 0)) := by
  have hr : row = [] := by
    rcases h.mp with ⟨_, e⟩ | ⟨_, _, e, _⟩
    · exact e
    · cases e
  subst hr
  have hs : (w.setCell ⟨p, 0, none⟩ (.map (some w.heap.size))).heap.size = w.heap.size := by simp [World.setCell]
  have hb := ((h.here.set_ 0 (.map (some w.heap.size))).alloc (.map #[] 0))
  have hm := World.ownsMap_made (H := Unit) (w.setCell ⟨p, 0, none⟩ (.map (some w.heap.size))) Try.prog 3 ptrE
  rw [hs] at hm
  refine ⟨⟨h.base, hb, by simp, by simp, by simp, by simp, by simp, .inr ⟨_, _, rfl, Nat.le_of_lt (Nat.lt_of_le_of_lt h.base h.here.lt), hm.mono (Nat.zero_le _), .nil g⟩⟩, ?_⟩
  exact ((Kept.refl _ w).setCell _ (.inl (show FoP w B (.map none) (eb p g 0) from h.ends_fo (x := 0) (.inl rfl))) _).alloc _

set_option maxHeartbeats 4000000 in
theorem put0_p (h : LstP w B p (.map none) g row vals) (hl : vals.length ≤ 100000) {x : Nat} (hx : x = 0 ∨ x ∈ row) (v : (ByteArray × Option Nat)) :
    Calls Try.prog 110 #[.pointer (some ⟨p, 0, none⟩), .int .i64 (x : Int), .agg #[.string v.1, .map v.2]] w fun e w' => e = .returned (.int .i64 ((vals.length : Int) + 1)) ∧ GrewP w w' B p (.map none) (ins row x (vals.length + 1)) (vals ++ [v]) := by
  go_enter Try.func110, Try.ntmps110
  go_upto_region 1 with fail
  have hb0 := Blk.new w 136 #[.string v.1, .map v.2]
  have HK0 := Lib.hid ((Kept.refl Nil w).alloc (.cells #[.string v.1, .map v.2] 136))
  replace h := h.keptN HK0.out
  generalize hw0 : w.alloc (.cells #[.string v.1, .map v.2] 136) = w0 at *
  generalize w.heap.size = b0 at *
  clear hw0
  have hnil := fun W : World => run_eql_map_nil (P := Try.prog) W _ _ _ none Try.underlying181
  have hmm := @run_makeMap Try.prog
  have hlt := h.here.lt
  have c0 := h.here.cell 0
  have f0 := h.here.frozen 0
  have c0a : (w0.alloc (.map #[] 0)).cell? ⟨p, 0, none⟩ = some (.map none) := by rw [World.cell?_alloc_past _ _ _ hlt]; exact c0
  have f0a : (w0.alloc (.map #[] 0)).frozen? ⟨p, 0, none⟩ = false := by rw [World.frozen?_alloc_past _ _ _ hlt]; exact f0
  have c3 := h.here.cell 3
  have f3 := h.here.frozen 3
  go_wp2_with fail
  have hE : ((w0.setCell ⟨p, 0, none⟩ (.map (some w0.heap.size))).setCell ⟨p, 3, none⟩ (.int .i64 ((vals.length : Int) + 1))).alloc (.map #[] 0) = ((w0.setCell ⟨p, 0, none⟩ (.map (some w0.heap.size))).alloc (.map #[] 0)).setCell ⟨p, 3, none⟩ (.int .i64 ((vals.length : Int) + 1)) :=
    (setCell_alloc _ _ _ _ (by simpa [World.setCell] using hlt)).symm
  rw [hE]
  have HK := Lib.hid h.withMap.2
  have hpc := h.here
  replace h := h.withMap.1
  have HB := Lib.hid (Eq.refl w0.heap.size)
  clear hE hnil c0 f0 c0a f0a c3 f3 hlt
  have hnil := fun W : World => run_eql_map_nil (P := Try.prog) W _ _ _ (some w0.heap.size) Try.underlying181
  have hb1 := (hb0.far (p := ⟨p, 0, none⟩) (fun e => by
    simp only at e
    rw [e] at hb0
    have := hpc
    unfold Blk at this hb0
    rw [this] at hb0
    simp at hb0) (.map (some w0.heap.size))).alloc (.map #[] 0)
  clear hb0
  generalize hw1 : (w0.setCell ⟨p, 0, none⟩ (.map (some w0.heap.size))).alloc (.map #[] 0) = w1 at *
  clear HB
  generalize hbm : w0.heap.size = bm at *
  have HB := Lib.hid hbm
  clear hbm hw1 hpc
  have hb0 := hb1
  clear hb1
  have c0 := h.here.cell 0
  have c3 := h.here.cell 3
  have f3 := h.here.frozen 3
  obtain ⟨a, ha⟩ : ∃ a, a = bf 0 row x := ⟨_, rfl⟩
  have ha' : a = 0 ∨ a ∈ row := by rw [ha]; exact bf_mem
  have M2 := (h.mid hl hx ha').set (e := p) (i := 3) (h.ends_bm (x := 0) (.inl rfl)) (fun _ => by decide) (.int .i64 ((vals.length : Int) + 1))
  have e1 := h.ends_set hx (.int .i64 ((vals.length : Int) + 1))
  rw [← ha] at e1
  obtain ⟨D, hDm, hD⟩ : ∃ D, (w1.setCell ⟨p, 3, none⟩ (.int .i64 ((vals.length : Int) + 1))).ownsMap (H := Unit) Try.prog 3 ptrE bm vals.length D ∧ MapOf D row g := by
    rcases h.mp with ⟨e, _⟩ | ⟨bm', D, e, _, ho, ht⟩
    · cases e
    · cases e
      exact ⟨D, ho.setCell (a := ⟨p, 3, none⟩) (fun e => h.ends_bm (x := 0) (.inl rfl) e.symm) _, ht⟩
  have hb2 := (hb0.far (p := ⟨p, 3, none⟩) (fun e => by
    have := h.here
    unfold Blk at this hb0
    simp only at e
    rw [e, this] at hb0
    simp at hb0) (.int .i64 ((vals.length : Int) + 1)))
  have q0 := hb2.cell 0
  have q1 := hb2.cell 1
  have hsz : (w1.setCell ⟨p, 3, none⟩ (.int .i64 ((vals.length : Int) + 1))).heap.size = w1.heap.size := by simp [World.setCell]
  have hput := fun w3 w4 w5 w6 => h.put (w2 := w1.setCell ⟨p, 3, none⟩ (.int .i64 ((vals.length : Int) + 1))) (w3 := w3) (w4 := w4) (w5 := w5) (w6 := w6) (n := vals.length + 1) (h := x) (a := a) (v := v) (D := D) (N := (vals.length : Int) + 1) (q := (w1.setCell ⟨p, 3, none⟩ (.int .i64 ((vals.length : Int) + 1))).heap.size)
  generalize hw2 : w1.setCell ⟨p, 3, none⟩ (.int .i64 ((vals.length : Int) + 1)) = w2 at *
  refine (at_p (x := x) (g := g) M2.c0 (M2.look hx)).mono ?_
  rintro e w' ⟨rfl, rfl⟩
  have e0 := M2.c0
  have hkey : keyOf Try.prog 3 (.int .i64 ((vals.length : Int) + 1)) = some (.int .i64 ((vals.length : Int) + 1)) := keyOf_int_mk Try.underlying3 (WalkArith.wf_i64 (by omega))
  have HH := Lib.hid h
  have HW := Lib.hid hw2
  have HA := Lib.hid ha
  have HA' := Lib.hid ha'
  have HX := Lib.hid hx
  have HP := Lib.hid hput
  have HD := Lib.hid hD
  have HS := Lib.hid hsz
  clear c0 c3 f3 h hw2 ha ha' hx hput hD hsz
  obtain ⟨w4, hrun, hm4, hg4⟩ := (hDm.alloc (.cells #[.int .i64 (a : Int), .int .i64 (x : Int), .string v.1, .map v.2] 188)).drew.update (val := .pointer (some ⟨w2.heap.size, 0, none⟩)) lawP Try.underlying181 (by unfold maxLen; omega) hkey (ptrE_mk _)
  have HM := Lib.hid hm4
  have HG := Lib.hid (show (w2.alloc (.cells #[.int .i64 (a : Int), .int .i64 (x : Int), .string v.1, .map v.2] 188)).grownBy w4 (some bm) from ⟨hg4.os, hg4.tape, hg4.output, hg4.size, hg4.block⟩)
  clear hm4 hg4
  go_wp2_with fail
  have hp2 := World.block_lt_of_cell? w2 ⟨p, 0, none⟩ e0
  have hq2 := World.block_lt_of_cell? w2 _ q0
  have e0' : (w2.alloc (.cells #[.int .i64 (a : Int), .int .i64 (x : Int), .string v.1, .map v.2] 188)).drew.cell? ⟨p, 0, none⟩ = some (.map (some bm)) := by rw [World.cell?_drew, World.cell?_alloc_past _ _ _ hp2]; exact e0
  go_region
  have hnr : vals.length + 1 ∉ row := fun e => by have := (HH.out.range _ e).2; omega
  have M4 := M2.stored (n := vals.length + 1) (fun y hy => ⟨by have := HH.out.range y hy; omega, HD.out.get y hy⟩) (by simp) hnr _ _ HM.out HG.out
  clear e0 e0' e1 hkey hDm hrun q0 q1 hp2 hq2
  go_wp2_with fail
  refine (at_p (x := a) (g := g) M4.c0 (M4.look HA'.out)).mono ?_
  rintro e w' ⟨rfl, rfl⟩
  obtain ⟨u, hu⟩ := M4.la.at (eo a + 1) (by unfold eo; split <;> omega)
  have hf := M4.la.free (eo a + 1)
  go_wp2_with fail
  have M5 := M4.set (e := eb p g a) (i := eo a + 1) M4.na (fun _ => by omega) (.int .i64 ((vals.length : Int) + 1))
  generalize hw5 : w4.setCell ⟨eb p g a, eo a + 1, none⟩ (.int .i64 ((vals.length : Int) + 1)) = w5 at *
  refine (at_p (x := x) (g := g) M5.c0 (M5.look HX.out)).mono ?_
  rintro e w' ⟨rfl, rfl⟩
  obtain ⟨u', hu'⟩ := M5.lx.at (eo x) (by unfold eo; split <;> omega)
  have hf' := M5.lx.free (eo x)
  have HW5 := Lib.hid hw5
  clear hw5 hu hf
  go_wp2
  go_ret
  have hlast := HP.out _ _ _ _ ⟨⟨HW.out ▸ Kept.refl _ _, HS.out⟩, rfl, HG.out, HW5.out.symm, rfl⟩ (by simp) trivial HX.out HA.out HD.out HS.out HM.out
  refine ⟨rfl, .map (some bm), _, hlast.1, .inr ⟨bm, rfl, Nat.le_trans HK0.out.size (Nat.le_of_eq HB.out)⟩, ?_⟩
  exact FoP.trans (HK0.out.mono (fun _ _ e => e.elim)) (FoP.trans HK.out hlast.2 (.inr ⟨bm, rfl, Nat.le_of_eq HB.out⟩)) (.inl rfl)

/-- put, whatever the map. -/
theorem put_p (h : LstP w B p m g row vals) (hl : vals.length ≤ 100000) {x : Nat} (hx : x = 0 ∨ x ∈ row) (v : (ByteArray × Option Nat)) :
    Calls Try.prog 110 #[.pointer (some ⟨p, 0, none⟩), .int .i64 (x : Int), .agg #[.string v.1, .map v.2]] w fun e w' => e = .returned (.int .i64 ((vals.length : Int) + 1)) ∧ GrewP w w' B p m (ins row x (vals.length + 1)) (vals ++ [v]) := by
  have hm : m = .map none ∨ ∃ bm, m = .map (some bm) := by
    rcases h.mp with ⟨e, _⟩ | ⟨bm, _, e, _⟩
    · exact .inl e
    · exact .inr ⟨bm, e⟩
  rcases hm with rfl | ⟨bm, rfl⟩
  · exact put0_p h hl hx v
  · refine (putM_p h hl hx v).mono ?_
    rintro e w' ⟨rfl, g', h', hk⟩
    exact ⟨rfl, _, g', h', .inl rfl, hk⟩
theorem push_p (h : LstP w B p m g row vals) (hl : vals.length ≤ 100000) (v : (ByteArray × Option Nat)) :
    Calls Try.prog 75 #[.pointer (some ⟨p, 0, none⟩), .agg #[.string v.1, .map v.2]] w fun e w' => e = .returned (.int .i64 ((vals.length : Int) + 1)) ∧ GrewP w w' B p m (row ++ [vals.length + 1]) (vals ++ [v]) := by
  have HH := Lib.hid h
  clear h
  go_enter Try.func75, Try.ntmps75
  go_wp2_with fail
  have HK0 := Lib.hid ((Kept.refl Nil w).alloc (.cells #[.string v.1, .map v.2] 136))
  refine (put_p (HH.out.keptN HK0.out) hl (x := 0) (.inl rfl) v).mono ?_
  rintro e w1 ⟨rfl, hg⟩
  rw [ins_none HH.out.zero] at hg
  have HG := Lib.hid hg
  clear hg
  go_wp2
  go_ret
  obtain ⟨m', g', h', hm, hk⟩ := HG.out
  exact ⟨rfl, m', g', h', hm.imp id (fun ⟨bm, e, hb⟩ => ⟨bm, e, Nat.le_trans HK0.out.size hb⟩), FoP.trans (HK0.out.mono (fun _ _ e => e.elim)) hk (.inl rfl)⟩
end
end Go.Proofs.Ytodghgeghpbdlaa
