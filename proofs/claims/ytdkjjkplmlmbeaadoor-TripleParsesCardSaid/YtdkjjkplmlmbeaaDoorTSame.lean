/- Layer triple: the contract of Same. -/
import Derived.Test.YtdkjjkplmlmbeaaDoorTCmp
import Derived.Test.YtdkjjkplmlmbeaaDoorQuiet
namespace Go.Proofs.YtdkjjkplmlmbeaaDoor
open Go.RowKit

def fieldAt (t : T3) (f : Int) : Int := if f = 0 then t.1 else if f = 1 then t.2.1 else t.2.2
def sameT (t : T3) (f g : Int) : Bool := isF f && (isF g && (fieldAt t f == fieldAt t g))
theorem sameT_no1 {t : T3} {f g : Int} (h : isF f = false) : sameT t f g = false := by unfold sameT; rw [h]; rfl
theorem sameT_no2 {t : T3} {f g : Int} (h : isF g = false) : sameT t f g = false := by unfold sameT; rw [h]; simp
theorem sameT_yes {t : T3} {f g : Int} (h : isF f = true) (h' : isF g = true) : sameT t f g = (fieldAt t f == fieldAt t g) := by unfold sameT; rw [h, h']; rfl
theorem isF_cases {f : Int} (h : isF f = true) : f = 0 ∨ f = 1 ∨ f = 2 := by unfold isF at h; have := of_decide_eq_true h; omega

theorem keep3 {w W w' : World} {B : Nat} {x y z : Value} (h : W.cell? ⟨B, 0, none⟩ = some x ∧ W.cell? ⟨B, 1, none⟩ = some y ∧ W.cell? ⟨B, 2, none⟩ = some z ∧ Kept Nil w W) (hk : Kept Nil W w') :
    w'.cell? ⟨B, 0, none⟩ = some x ∧ w'.cell? ⟨B, 1, none⟩ = some y ∧ w'.cell? ⟨B, 2, none⟩ = some z ∧ Kept Nil w w' := by
  obtain ⟨a, b, c, d⟩ := h
  have hl : B < W.heap.size := World.block_lt_of_cell? W _ a
  exact ⟨by rw [hk.cell hl id]; exact a, by rw [hk.cell hl id]; exact b, by rw [hk.cell hl id]; exact c, d.trans hk (fun _ _ g => g)⟩

theorem own3 (w : World) (x y z : Value) (t : TypeId) :
    (w.alloc (.cells #[x, y, z] t)).drew.cell? ⟨w.heap.size, 0, none⟩ = some x ∧ (w.alloc (.cells #[x, y, z] t)).drew.cell? ⟨w.heap.size, 1, none⟩ = some y ∧ (w.alloc (.cells #[x, y, z] t)).drew.cell? ⟨w.heap.size, 2, none⟩ = some z ∧ Kept Nil w (w.alloc (.cells #[x, y, z] t)).drew :=
  ⟨by go_simp, by go_simp, by go_simp, ((Kept.refl _ _).alloc _).drew⟩

theorem own3a (w : World) (x y z : Value) (t : TypeId) :
    (w.alloc (.cells #[x, y, z] t)).cell? ⟨w.heap.size, 0, none⟩ = some x ∧ (w.alloc (.cells #[x, y, z] t)).cell? ⟨w.heap.size, 1, none⟩ = some y ∧ (w.alloc (.cells #[x, y, z] t)).cell? ⟨w.heap.size, 2, none⟩ = some z ∧ Kept Nil w (w.alloc (.cells #[x, y, z] t)) :=
  ⟨by go_simp, by go_simp, by go_simp, (Kept.refl _ _).alloc _⟩

/-- The class of worlds in which a triple's block is as it was laid. -/
def C3 (w : World) (B : Nat) (x y z : Value) (W : World) : Prop := W.cell? ⟨B, 0, none⟩ = some x ∧ W.cell? ⟨B, 1, none⟩ = some y ∧ W.cell? ⟨B, 2, none⟩ = some z ∧ Kept Nil w W

theorem C3.drew {w : World} {B : Nat} {x y z : Value} {W : World} (h : C3 w B x y z W) : C3 w B x y z W.drew := ⟨h.1, h.2.1, h.2.2.1, h.2.2.2.drew⟩
theorem C3.step {w : World} {B : Nat} {x y z : Value} (W W' : World) (h : C3 w B x y z W) (k : Kept Nil W W') : C3 w B x y z W' := keep3 h k

set_option maxHeartbeats 1000000 in
theorem same_no1 (t : T3) (f g : Int) (w : World) (hf : isF f = false) :
    Calls Tryd.prog 17 #[arr t, .int .i64 f, .int .i64 g] w fun e w' => e = .returned (.bool (sameT t f g)) ∧ Kept Nil w w' := by
  obtain ⟨a, b, c⟩ := t
  show Calls Tryd.prog 17 #[.agg #[.int .i64 a, .int .i64 b, .int .i64 c], .int .i64 f, .int .i64 g] w _
  have H := Lib.hid (sameT_no1 (t := (a, b, c)) (g := g) hf)
  have ci : ∀ W : World, Calls Tryd.prog 25 #[.agg #[.int .i64 a, .int .i64 b, .int .i64 c], .int .i64 f] W fun e w' => e = .returned (.bool (isF f)) ∧ Kept Nil W w' := fun W => isField_any (a, b, c) f W
  rw [hf] at ci
  have CI := Lib.hid ci
  clear ci hf
  go_enter Tryd.func17, Tryd.ntmps17
  go_wp2
  refine wp_region_in (C3 w w.heap.size (.int .i64 a) (.int .i64 b) (.int .i64 c)) (by kernel_rfl) (by kernel_rfl) (own3 w _ _ _ _) ?_
  have inst : Nonempty (CW (C3 w w.heap.size (.int .i64 a) (.int .i64 b) (.int .i64 c))) := ⟨⟨_, own3 w _ _ _ 23⟩⟩
  have hc0 : ∀ n : CW (C3 w w.heap.size (.int .i64 a) (.int .i64 b) (.int .i64 c)), n.w.cell? ⟨w.heap.size, 0, none⟩ = some (.int .i64 a) := fun n => n.of.1
  have hc1 : ∀ n : CW (C3 w w.heap.size (.int .i64 a) (.int .i64 b) (.int .i64 c)), n.w.cell? ⟨w.heap.size, 1, none⟩ = some (.int .i64 b) := fun n => n.of.2.1
  have hc2 : ∀ n : CW (C3 w w.heap.size (.int .i64 a) (.int .i64 b) (.int .i64 c)), n.w.cell? ⟨w.heap.size, 2, none⟩ = some (.int .i64 c) := fun n => n.of.2.2.1
  repeat (go_big_quiet_step ((go_at_call 25; exact call_in C3.step (CI.out _))))
  refine wpQuiet_nil ?_
  rintro _ ⟨n, rfl⟩
  go_wp2
  go_ret
  exact ⟨ret_bool H.out.symm, n.of.2.2.2⟩

set_option maxHeartbeats 1000000 in
theorem same_no2 (t : T3) (f g : Int) (w : World) (hf : isF f = true) (hg : isF g = false) :
    Calls Tryd.prog 17 #[arr t, .int .i64 f, .int .i64 g] w fun e w' => e = .returned (.bool (sameT t f g)) ∧ Kept Nil w w' := by
  obtain ⟨a, b, c⟩ := t
  show Calls Tryd.prog 17 #[.agg #[.int .i64 a, .int .i64 b, .int .i64 c], .int .i64 f, .int .i64 g] w _
  have H := Lib.hid (sameT_no2 (t := (a, b, c)) (f := f) hg)
  have ci : ∀ (h : Int) (W : World), Calls Tryd.prog 25 #[.agg #[.int .i64 a, .int .i64 b, .int .i64 c], .int .i64 h] W fun e w' => e = .returned (.bool (isF h)) ∧ Kept Nil W w' := fun h W => isField_any (a, b, c) h W
  have cf := ci f
  have cg := ci g
  rw [hf] at cf
  rw [hg] at cg
  have CF := Lib.hid cf
  have CG := Lib.hid cg
  clear ci hf hg cf cg
  go_enter Tryd.func17, Tryd.ntmps17
  go_wp2
  refine wp_region_in (C3 w w.heap.size (.int .i64 a) (.int .i64 b) (.int .i64 c)) (by kernel_rfl) (by kernel_rfl) (own3 w _ _ _ _) ?_
  have inst : Nonempty (CW (C3 w w.heap.size (.int .i64 a) (.int .i64 b) (.int .i64 c))) := ⟨⟨_, own3 w _ _ _ 23⟩⟩
  have hc0 : ∀ n : CW (C3 w w.heap.size (.int .i64 a) (.int .i64 b) (.int .i64 c)), n.w.cell? ⟨w.heap.size, 0, none⟩ = some (.int .i64 a) := fun n => n.of.1
  have hc1 : ∀ n : CW (C3 w w.heap.size (.int .i64 a) (.int .i64 b) (.int .i64 c)), n.w.cell? ⟨w.heap.size, 1, none⟩ = some (.int .i64 b) := fun n => n.of.2.1
  have hc2 : ∀ n : CW (C3 w w.heap.size (.int .i64 a) (.int .i64 b) (.int .i64 c)), n.w.cell? ⟨w.heap.size, 2, none⟩ = some (.int .i64 c) := fun n => n.of.2.2.1
  repeat (go_big_quiet_step ((first | (go_at_call 25; with_reducible exact call_in C3.step (CF.out _)) | (go_at_call 25; with_reducible exact call_in C3.step (CG.out _)))))
  refine wpQuiet_nil ?_
  rintro _ ⟨n, rfl⟩
  go_wp2
  go_ret
  exact ⟨ret_bool H.out.symm, n.of.2.2.2⟩

set_option maxHeartbeats 1000000 in
theorem same_yes (t : T3) (f g : Int) (w : World) (hf : isF f = true) (hg : isF g = true) :
    Calls Tryd.prog 17 #[arr t, .int .i64 f, .int .i64 g] w fun e w' => e = .returned (.bool (sameT t f g)) ∧ Kept Nil w w' := by
  obtain ⟨a, b, c⟩ := t
  show Calls Tryd.prog 17 #[.agg #[.int .i64 a, .int .i64 b, .int .i64 c], .int .i64 f, .int .i64 g] w _
  have H := Lib.hid (sameT_yes (t := (a, b, c)) hf hg)
  have ci : ∀ (h : Int) (W : World), Calls Tryd.prog 25 #[.agg #[.int .i64 a, .int .i64 b, .int .i64 c], .int .i64 h] W fun e w' => e = .returned (.bool (isF h)) ∧ Kept Nil W w' := fun h W => isField_any (a, b, c) h W
  have cf := ci f
  have cg := ci g
  rw [hf] at cf
  rw [hg] at cg
  have CF := Lib.hid cf
  have CG := Lib.hid cg
  have fc := isF_cases hf
  have gc := isF_cases hg
  clear ci hf hg cf cg
  rcases fc with rfl | rfl | rfl <;> rcases gc with rfl | rfl | rfl
  all_goals
    go_enter Tryd.func17, Tryd.ntmps17
    go_wp2
    refine wp_region_in (C3 w w.heap.size (.int .i64 a) (.int .i64 b) (.int .i64 c)) (by kernel_rfl) (by kernel_rfl) (own3 w _ _ _ _) ?_
    have inst : Nonempty (CW (C3 w w.heap.size (.int .i64 a) (.int .i64 b) (.int .i64 c))) := ⟨⟨_, own3 w _ _ _ 23⟩⟩
    have hc0 : ∀ n : CW (C3 w w.heap.size (.int .i64 a) (.int .i64 b) (.int .i64 c)), n.w.cell? ⟨w.heap.size, 0, none⟩ = some (.int .i64 a) := fun n => n.of.1
    have hc1 : ∀ n : CW (C3 w w.heap.size (.int .i64 a) (.int .i64 b) (.int .i64 c)), n.w.cell? ⟨w.heap.size, 1, none⟩ = some (.int .i64 b) := fun n => n.of.2.1
    have hc2 : ∀ n : CW (C3 w w.heap.size (.int .i64 a) (.int .i64 b) (.int .i64 c)), n.w.cell? ⟨w.heap.size, 2, none⟩ = some (.int .i64 c) := fun n => n.of.2.2.1
    repeat (go_big_quiet_step ((first | (go_at_call 25; with_reducible exact call_in C3.step (CF.out _)) | (go_at_call 25; with_reducible exact call_in C3.step (CG.out _)))))
    refine wpQuiet_nil ?_
    rintro _ ⟨n, rfl⟩
    go_wp2
    go_ret
    exact ⟨ret_bool (by rw [H.out]; first | rfl | simp [fieldAt]), n.of.2.2.2⟩

theorem same_any (t : T3) (f g : Int) (w : World) :
    Calls Tryd.prog 17 #[arr t, .int .i64 f, .int .i64 g] w fun e w' => e = .returned (.bool (sameT t f g)) ∧ Kept Nil w w' := by
  cases hf : isF f with
  | false => exact same_no1 t f g w hf
  | true =>
    cases hg : isF g with
    | false => exact same_no2 t f g w hf hg
    | true => exact same_yes t f g w hf hg
end Go.Proofs.YtdkjjkplmlmbeaaDoor
