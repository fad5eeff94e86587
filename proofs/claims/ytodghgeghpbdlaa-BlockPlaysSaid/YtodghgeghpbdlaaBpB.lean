/- A list of owners (string,int): beside, Next, Prev, Get, Len. -/
import Derived.Test.YtodghgeghpbdlaaBpA
namespace Go.Proofs.Ytodghgeghpbdlaa
set_option maxRecDepth 100000
open Go.RowKit Go.Maps

section
variable {w w' : World} {B p : Nat} {m : Value} {g : Nat → Nat} {row : List Nat} {vals : List (ByteArray × Option Nat)}
theorem beside0_p (h : LstP w B p m g row vals) :
    Calls Try.prog 152 #[.pointer (some ⟨p, 0, none⟩), .int .i64 0] w fun e w' => e = .returned (.agg #[.int .i64 (bf 0 row 0 : Nat), .int .i64 (nx (0 :: row) 0 : Nat)]) ∧ Kept Nil w w' := by
  have h1 := h.keptN ((Kept.refl Nil w).alloc (.cells #[.int .i64 0, .int .i64 0] 183))
  have c1 := h1.here.cell 1
  have c2 := h1.here.cell 2
  have HH := Lib.hid h1
  clear h h1
  go_enter Try.func152, Try.ntmps152
  go_wp2_with fail
  refine (at0_p HH.out).mono ?_
  rintro e w1 ⟨rfl, rfl⟩
  go_wp2
  refine bodyPost_ret (results_cell_row Try.results152 _ _ _ _ _ _ _ rfl (heap_alloc_new w _) Try.underlying183 rfl (by kernel_rfl)) rfl ?_
  exact ⟨rfl, (Kept.refl Nil w).alloc _⟩
theorem besideH_p (h : LstP w B p m g row vals) (hl : vals.length ≤ 1000000) {x : Nat} (hx : x ∈ row) :
    Calls Try.prog 152 #[.pointer (some ⟨p, 0, none⟩), .int .i64 (x : Int)] w fun e w' => e = .returned (.agg #[.int .i64 (bf 0 row x : Nat), .int .i64 (nx (0 :: row) x : Nat)]) ∧ Kept Nil w w' := by
  have h1 := h.keptN ((Kept.refl Nil w).alloc (.cells #[.int .i64 0, .int .i64 0] 183))
  have c0 := h1.here.cell 0
  have hlook := h1.look hx hl
  have hp := (h.range x hx).1
  have hne : (↑x == (0 : Int)) = false := by simp; omega
  obtain ⟨v, hv, hb⟩ := h1.cell x hx
  have d0 := hb.cell 0
  have d1 := hb.cell 1
  have HH := Lib.hid h1
  have HX := Lib.hid hx
  clear h h1 hb hv hx
  go_enter Try.func152, Try.ntmps152
  go_wp2_with fail
  refine (atH_p HH.out hl HX.out).mono ?_
  rintro e w1 ⟨rfl, rfl⟩
  go_wp2
  refine bodyPost_ret (results_cell_row Try.results152 _ _ _ _ _ _ _ rfl (heap_alloc_new w _) Try.underlying183 rfl (by kernel_rfl)) rfl ?_
  exact ⟨rfl, (Kept.refl Nil w).alloc _⟩
theorem besideN_p (h : LstP w B p m g row vals) {k : Int} (hw : (Lit.int .i64 k).wf = true) (hk0 : k ≠ 0) (hk : ∀ x ∈ row, (x : Int) ≠ k) :
    Calls Try.prog 152 #[.pointer (some ⟨p, 0, none⟩), .int .i64 k] w fun e w' => e = .returned (.agg #[.int .i64 0, .int .i64 0]) ∧ Kept Nil w w' := by
  have h1 := h.keptN ((Kept.refl Nil w).alloc (.cells #[.int .i64 0, .int .i64 0] 183))
  have c0 := h1.here.cell 0
  have hlook := h1.lookN hw hk
  have hne : (k == (0 : Int)) = false := by simp; omega
  clear h h1 hk
  go_enter Try.func152, Try.ntmps152
  go_wp2
  refine bodyPost_ret (results_cell_row Try.results152 _ _ _ _ _ _ _ rfl (heap_alloc_new w _) Try.underlying183 rfl (by kernel_rfl)) rfl ?_
  exact ⟨rfl, (Kept.refl Nil w).alloc _⟩

/-- What Next and Prev answer, whatever they are asked. -/
theorem next_p (h : LstP w B p m g row vals) (hl : vals.length ≤ 1000000) {k : Int} (hw : (Lit.int .i64 k).wf = true) :
    Calls Try.prog 133 #[.pointer (some ⟨p, 0, none⟩), .int .i64 k] w fun e w' => e = .returned (.int .i64 (nxI row k : Nat)) ∧ Kept Nil w w' := by
  have HH := Lib.hid h
  rcases asked row k with ⟨rfl, e1, _⟩ | ⟨x, hx, rfl, e1, _⟩ | ⟨h0, hn, e1, _⟩
  · rw [e1]
    clear h e1
    go_enter Try.func133, Try.ntmps133
    go_wp2_with fail
    refine (beside0_p HH.out).mono ?_
    rintro e w1 ⟨rfl, hk⟩
    have q0 := fun a b => endsRule0 a b w1
    have q1 := fun a b => endsRule1 a b w1
    go_wp2
    go_ret
    exact ⟨rfl, hk⟩
  · rw [e1]
    have HX := Lib.hid hx
    clear h e1 hx
    go_enter Try.func133, Try.ntmps133
    go_wp2_with fail
    refine (besideH_p HH.out hl HX.out).mono ?_
    rintro e w1 ⟨rfl, hk⟩
    have q0 := fun a b => endsRule0 a b w1
    have q1 := fun a b => endsRule1 a b w1
    go_wp2
    go_ret
    exact ⟨rfl, hk⟩
  · rw [e1]
    have HX := Lib.hid hn
    clear h e1 hn
    go_enter Try.func133, Try.ntmps133
    go_wp2_with fail
    refine (besideN_p HH.out hw h0 HX.out).mono ?_
    rintro e w1 ⟨rfl, hk⟩
    have q0 := fun a b => endsRule0 a b w1
    have q1 := fun a b => endsRule1 a b w1
    go_wp2
    go_ret
    exact ⟨rfl, hk⟩

/-- Get. -/
theorem getH_p (h : LstP w B p m g row vals) (hl : vals.length ≤ 1000000) {x : Nat} (hx : x ∈ row) {v : (ByteArray × Option Nat)} (hv : vals[x - 1]? = some v) :
    Calls Try.prog 111 #[.pointer (some ⟨p, 0, none⟩), .int .i64 (x : Int)] w fun e w' => e = .returned (.tuple #[.agg #[.string v.1, .map v.2], .bool true]) ∧ Kept Nil w w' := by
  replace h := h.keptN ((Kept.refl Nil w).alloc (.cells #[.string (ByteArray.mk #[]), .map none] 136))
  have c0 := h.here.cell 0
  have hlook := h.look hx hl
  obtain ⟨v', hv', hb⟩ := h.cell x hx
  rw [hv] at hv'
  cases hv'
  have d2 := hb.cell 2
  have d3 := hb.cell 3
  clear h hb hx hv
  go_enter Try.func111, Try.ntmps111
  go_wp2
  refine bodyPost_ret (results_rowtmp Try.results111 _ _ _ _ _ _ _ rfl (heap_alloc_new w _) Try.underlying136 rfl (by kernel_rfl)) rfl ?_
  exact ⟨rfl, (Kept.refl Nil w).alloc _⟩
theorem getN_p (h : LstP w B p m g row vals) {k : Int} (hw : (Lit.int .i64 k).wf = true) (hk : ∀ x ∈ row, (x : Int) ≠ k) :
    Calls Try.prog 111 #[.pointer (some ⟨p, 0, none⟩), .int .i64 k] w fun e w' => e = .returned (.tuple #[.agg #[.string (ByteArray.mk #[]), .map none], .bool false]) ∧ Kept Nil w w' := by
  replace h := h.keptN ((Kept.refl Nil w).alloc (.cells #[.string (ByteArray.mk #[]), .map none] 136))
  have c0 := h.here.cell 0
  have hlook := h.lookN hw hk
  clear h hk
  go_enter Try.func111, Try.ntmps111
  go_wp2
  refine bodyPost_ret (results_rowtmp Try.results111 _ _ _ _ _ _ _ rfl ((Below.heap_alloc _ _ _ (by simp)).trans (heap_alloc_new w _)) Try.underlying136 rfl (by kernel_rfl)) rfl ?_
  exact ⟨rfl, ((Kept.refl Nil w).alloc _).alloc _⟩

end
end Go.Proofs.Ytodghgeghpbdlaa
