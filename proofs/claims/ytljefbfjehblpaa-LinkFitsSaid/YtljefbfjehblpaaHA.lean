/- Layer 18: the contracts of link's functions, of the reference's and of the laws' own. -/
import Derived.Test.YtljefbfjehblpaaBlk
import Derived.ChangeKeysEq
import Derived.Laws.StructEq
namespace Go.Proofs.Ytljefbfjehblpaa
open Go.RowKit
set_option maxRecDepth 100000

/-- A number that counts as 0. -/
def zr (n : Int) : Bool := decide (n ≤ 0)
/-- A link; the reference's. -/
def vL (p : Bool × Bool) : Value := .agg #[.bool p.1, .bool p.2]
def vR (p : Bool × Bool) : Value := .agg #[.int .i64 (if p.1 then 1 else 0), .int .i64 (if p.2 then 1 else 0)]
def startF (zi za : Bool) : Bool × Bool := if za then (true, false) else (!zi, true)
def itemsF (p : Bool × Bool) (zw zn za : Bool) : Bool × Bool := if !p.2 || zw == zn then p else if zn then (false, true) else (true, !za)
def aboveF (p : Bool × Bool) (zw zn zi : Bool) : Bool × Bool := ((itemsF (p.2, p.1) zw zn zi).2, (itemsF (p.2, p.1) zw zn zi).1)
def fitsF (p : Bool × Bool) (zi za : Bool) : Bool := (p.1 || zi) && (p.2 || za) && (p.1 || p.2)

theorem hn1 (w : World) (o o' : Obj) : ((w.alloc o).alloc o').heap[w.heap.size + 1]? = some o' := by have := heap_alloc_new (w.alloc o) o'; simpa using this
theorem hn2 (w : World) (o o' o'' : Obj) : (((w.alloc o).alloc o').alloc o'').heap[w.heap.size + 1]? = some o' := (Below.heap_alloc _ o'' _ (by simp)).trans (hn1 w o o')
theorem none_any (n : Int) (w : World) :
    Calls Try.prog 18 #[.int .i64 n] w fun e w' => e = .returned (.bool (zr n)) ∧ w = w' := by
  unfold zr
  go_enter Try.func18, Try.ntmps18
  go_wp2
  go_ret
  exact ⟨rfl, rfl⟩
theorem turned_any (p : Bool × Bool) (w : World) :
    Calls Try.prog 19 #[vL p] w fun e w' => e = .returned (vL (p.2, p.1)) ∧ Kept Nil w w' := by
  obtain ⟨l, r⟩ := p
  show Calls Try.prog 19 #[.agg #[.bool l, .bool r]] w fun e w' => e = .returned (.agg #[.bool r, .bool l]) ∧ Kept Nil w w'
  go_enter Try.func19, Try.ntmps19
  go_wp2
  exact bodyPost_ret (results_cell_row Try.results19 _ _ _ _ _ _ _ rfl (hn1 _ _ _) Try.underlying23 rfl (by kernel_rfl)) rfl ⟨rfl, ((Kept.refl _ _).alloc _).alloc _⟩
theorem start_any (i a : Int) (w : World) :
    Calls Try.prog 8 #[.int .i64 i, .int .i64 a] w fun e w' => e = .returned (vL (startF (zr i) (zr a))) ∧ Kept Nil w w' := by
  have NI := Lib.hid (fun W => none_any i W)
  have NA := Lib.hid (fun W => none_any a W)
  generalize zr i = zi at *
  generalize zr a = za at *
  cases za
  · cases zi <;> (
      go_enter Try.func8, Try.ntmps8
      go_wp2_with fail
      refine (NA.out _).mono ?_
      rintro e w' ⟨rfl, rfl⟩
      go_wp2_with fail
      refine (NI.out _).mono ?_
      rintro e w' ⟨rfl, rfl⟩
      go_wp2_with fail
      exact bodyPost_ret (results_cell_row Try.results8 _ _ _ _ _ _ _ rfl (heap_alloc_new _ _) Try.underlying23 rfl (by kernel_rfl)) rfl ⟨rfl, (Kept.refl _ _).alloc _⟩)
  · go_enter Try.func8, Try.ntmps8
    go_wp2_with fail
    refine (NA.out _).mono ?_
    rintro e w' ⟨rfl, rfl⟩
    go_wp2_with fail
    exact bodyPost_ret (results_cell_row Try.results8 _ _ _ _ _ _ _ rfl (heap_alloc_new _ _) Try.underlying23 rfl (by kernel_rfl)) rfl ⟨rfl, (Kept.refl _ _).alloc _⟩
theorem refStart_any (i a : Int) (w : World) :
    Calls Try.prog 9 #[.int .i64 i, .int .i64 a] w fun e w' => e = .returned (vR (startF (zr i) (zr a))) ∧ Kept Nil w w' := by
  by_cases ha : a ≤ 0
  · rw [show zr a = true from decide_eq_true ha]
    go_enter Try.func9, Try.ntmps9
    go_wp2_with fail
    exact bodyPost_ret (results_cell_row Try.results9 _ _ _ _ _ _ _ rfl (heap_alloc_new _ _) Try.underlying27 rfl (by kernel_rfl)) rfl ⟨rfl, (Kept.refl _ _).alloc _⟩
  · rw [show zr a = false from decide_eq_false ha]
    by_cases hi : i ≤ 0
    · rw [show zr i = true from decide_eq_true hi]
      go_enter Try.func9, Try.ntmps9
      go_wp2_with fail
      exact bodyPost_ret (results_cell_row Try.results9 _ _ _ _ _ _ _ rfl (heap_alloc_new _ _) Try.underlying27 rfl (by kernel_rfl)) rfl ⟨rfl, (Kept.refl _ _).alloc _⟩
    · rw [show zr i = false from decide_eq_false hi]
      go_enter Try.func9, Try.ntmps9
      go_wp2_with fail
      exact bodyPost_ret (results_cell_row Try.results9 _ _ _ _ _ _ _ rfl (heap_alloc_new _ _) Try.underlying27 rfl (by kernel_rfl)) rfl ⟨rfl, (Kept.refl _ _).alloc _⟩
set_option maxHeartbeats 4000000 in
theorem items_any (p : Bool × Bool) (a b c : Int) (w : World) :
    Calls Try.prog 10 #[vL p, .int .i64 a, .int .i64 b, .int .i64 c] w fun e w' => e = .returned (vL (itemsF p (zr a) (zr b) (zr c))) ∧ Kept Nil w w' := by
  have NA := Lib.hid (fun W => none_any a W)
  have NB := Lib.hid (fun W => none_any b W)
  have NC := Lib.hid (fun W => none_any c W)
  generalize zr a = za at *
  generalize zr b = zb at *
  generalize zr c = zc at *
  obtain ⟨l, r⟩ := p
  cases r
  · show Calls Try.prog 10 #[.agg #[.bool l, .bool false], .int .i64 a, .int .i64 b, .int .i64 c] w fun e w' => e = .returned (.agg #[.bool l, .bool false]) ∧ Kept Nil w w'
    go_enter Try.func10, Try.ntmps10
    go_wp2_with fail
    exact bodyPost_ret (results_cell_row Try.results10 _ _ _ _ _ _ _ rfl (hn1 _ _ _) Try.underlying23 rfl (by kernel_rfl)) rfl ⟨rfl, ((Kept.refl _ _).alloc _).alloc _⟩
  · cases za <;> cases zb
    · show Calls Try.prog 10 #[.agg #[.bool l, .bool true], .int .i64 a, .int .i64 b, .int .i64 c] w fun e w' => e = .returned (.agg #[.bool l, .bool true]) ∧ Kept Nil w w'
      go_enter Try.func10, Try.ntmps10
      go_wp2_with fail
      refine (NA.out _).mono ?_
      rintro e w' ⟨rfl, rfl⟩
      go_wp2_with fail
      refine (NB.out _).mono ?_
      rintro e w' ⟨rfl, rfl⟩
      go_wp2_with fail
      exact bodyPost_ret (results_cell_row Try.results10 _ _ _ _ _ _ _ rfl (hn1 _ _ _) Try.underlying23 rfl (by kernel_rfl)) rfl ⟨rfl, ((Kept.refl _ _).alloc _).alloc _⟩
    · show Calls Try.prog 10 #[.agg #[.bool l, .bool true], .int .i64 a, .int .i64 b, .int .i64 c] w fun e w' => e = .returned (.agg #[.bool false, .bool true]) ∧ Kept Nil w w'
      go_enter Try.func10, Try.ntmps10
      go_wp2_with fail
      refine (NA.out _).mono ?_
      rintro e w' ⟨rfl, rfl⟩
      go_wp2_with fail
      refine (NB.out _).mono ?_
      rintro e w' ⟨rfl, rfl⟩
      go_wp2_with fail
      refine (NB.out _).mono ?_
      rintro e w' ⟨rfl, rfl⟩
      go_wp2_with fail
      exact bodyPost_ret (results_cell_row Try.results10 _ _ _ _ _ _ _ rfl (hn1 _ _ _) Try.underlying23 rfl (by kernel_rfl)) rfl ⟨rfl, ((Kept.refl _ _).alloc _).alloc _⟩
    · show Calls Try.prog 10 #[.agg #[.bool l, .bool true], .int .i64 a, .int .i64 b, .int .i64 c] w fun e w' => e = .returned (.agg #[.bool true, .bool (!zc)]) ∧ Kept Nil w w'
      go_enter Try.func10, Try.ntmps10
      go_wp2_with fail
      refine (NA.out _).mono ?_
      rintro e w' ⟨rfl, rfl⟩
      go_wp2_with fail
      refine (NB.out _).mono ?_
      rintro e w' ⟨rfl, rfl⟩
      go_wp2_with fail
      refine (NB.out _).mono ?_
      rintro e w' ⟨rfl, rfl⟩
      go_wp2_with fail
      refine (NC.out _).mono ?_
      rintro e w' ⟨rfl, rfl⟩
      go_wp2_with fail
      exact bodyPost_ret (results_cell_row Try.results10 _ _ _ _ _ _ _ rfl (hn1 _ _ _) Try.underlying23 rfl (by kernel_rfl)) rfl ⟨rfl, ((Kept.refl _ _).alloc _).alloc _⟩
    · show Calls Try.prog 10 #[.agg #[.bool l, .bool true], .int .i64 a, .int .i64 b, .int .i64 c] w fun e w' => e = .returned (.agg #[.bool l, .bool true]) ∧ Kept Nil w w'
      go_enter Try.func10, Try.ntmps10
      go_wp2_with fail
      refine (NA.out _).mono ?_
      rintro e w' ⟨rfl, rfl⟩
      go_wp2_with fail
      refine (NB.out _).mono ?_
      rintro e w' ⟨rfl, rfl⟩
      go_wp2_with fail
      exact bodyPost_ret (results_cell_row Try.results10 _ _ _ _ _ _ _ rfl (hn1 _ _ _) Try.underlying23 rfl (by kernel_rfl)) rfl ⟨rfl, ((Kept.refl _ _).alloc _).alloc _⟩
theorem above_any (p : Bool × Bool) (a b c : Int) (w : World) :
    Calls Try.prog 12 #[vL p, .int .i64 a, .int .i64 b, .int .i64 c] w fun e w' => e = .returned (vL (aboveF p (zr a) (zr b) (zr c))) ∧ Kept Nil w w' := by
  unfold aboveF
  obtain ⟨l, r⟩ := p
  have CT := Lib.hid (fun W => turned_any (l, r) W)
  have CI := Lib.hid (fun W => items_any (r, l) a b c W)
  simp only []
  generalize itemsF (r, l) (zr a) (zr b) (zr c) = q at *
  have CU := Lib.hid (fun W => turned_any q W)
  obtain ⟨x, y⟩ := q
  unfold vL at *
  have K0 := Lib.hid (((Kept.refl Nil w).alloc (.cells #[.bool l, .bool r] 23)).alloc (.cells #[.bool false, .bool false] 23))
  have B0 : Hid (Blk ((w.alloc (.cells #[.bool l, .bool r] 23)).alloc (.cells #[.bool false, .bool false] 23)) (w.heap.size + 1) 23 #[.bool false, .bool false]) := Lib.hid (by have := Blk.new (w.alloc (.cells #[.bool l, .bool r] 23)) 23 #[.bool false, .bool false]; simpa using this)
  go_enter Try.func12, Try.ntmps12
  go_wp2_with fail
  refine (CT.out _).mono ?_
  rintro e w1 ⟨rfl, k1⟩
  have K1 := Lib.hid (K0.out.trans k1 (fun _ _ g => g))
  have B1 := Lib.hid (B0.out.kept k1 id)
  clear k1 K0 B0
  go_wp2_with fail
  refine (CI.out _).mono ?_
  rintro e w2 ⟨rfl, k2⟩
  have K2 := Lib.hid (K1.out.trans k2 (fun _ _ g => g))
  have B2 := Lib.hid (B1.out.kept k2 id)
  clear k2 K1 B1
  go_wp2_with fail
  refine (CU.out _).mono ?_
  rintro e w3 ⟨rfl, k3⟩
  have K3 := Lib.hid (K2.out.trans k3 (fun _ _ g => g))
  have B3 := Lib.hid (B2.out.kept k3 id)
  clear k3 K2 B2
  have y0 := B3.out.cell 0
  have y1 := B3.out.cell 1
  have f0 := B3.out.frozen 0
  have f1 := B3.out.frozen 1
  simp only [List.getElem?_toArray, List.getElem?_cons_zero, List.getElem?_cons_succ] at y0 y1
  go_wp2_with fail
  exact bodyPost_ret (results_cell_row Try.results12 _ _ _ _ _ _ _ rfl ((B3.out.set_ 0 _).set_ 1 _) Try.underlying23 rfl (by kernel_rfl)) rfl ⟨rfl, (K3.out.setCell _ (.inr (by simp)) _).setCell _ (.inr (by simp)) _⟩
theorem fits_any (p : Bool × Bool) (a b : Int) (w : World) :
    Calls Try.prog 14 #[vL p, .int .i64 a, .int .i64 b] w fun e w' => e = .returned (.bool (fitsF p (zr a) (zr b))) ∧ Kept Nil w w' := by
  have NA := Lib.hid (fun W => none_any a W)
  have NB := Lib.hid (fun W => none_any b W)
  generalize zr a = za at *
  generalize zr b = zb at *
  obtain ⟨l, r⟩ := p
  show Calls Try.prog 14 #[.agg #[.bool l, .bool r], .int .i64 a, .int .i64 b] w _
  cases l <;> cases r <;> cases za <;> cases zb <;> (
    go_enter Try.func14, Try.ntmps14
    go_wp2_with fail
    try (refine (NA.out _).mono ?_
         rintro e w' ⟨rfl, rfl⟩
         go_wp2_with fail)
    try (refine (NB.out _).mono ?_
         rintro e w' ⟨rfl, rfl⟩
         go_wp2_with fail)
    go_ret
    exact ⟨rfl, (Kept.refl _ _).alloc _⟩)
theorem ref_any (p : Bool × Bool) (w : World) :
    Calls Try.prog 7 #[vL p] w fun e w' => e = .returned (vR p) ∧ Kept Nil w w' := by
  obtain ⟨l, r⟩ := p
  show Calls Try.prog 7 #[.agg #[.bool l, .bool r]] w _
  cases l <;> cases r <;> (
    go_enter Try.func7, Try.ntmps7
    go_wp2_with fail
    exact bodyPost_ret (results_cell_row Try.results7 _ _ _ _ _ _ _ rfl (hn2 _ _ _ _) Try.underlying27 rfl (by kernel_rfl)) rfl ⟨rfl, (((Kept.refl _ _).alloc _).alloc _).alloc _⟩)
theorem zr_yes {n : Int} (h : n ≤ 0) : zr n = true := decide_eq_true h
theorem zr_no {n : Int} (h : 0 < n) : zr n = false := decide_eq_false (by omega)
end Go.Proofs.Ytljefbfjehblpaa
