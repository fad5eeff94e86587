/- Keys of a tally of numbers of which none is wanted: nothing. -/
import Derived.Test.YtjnknbegapofiaaNiB
import Derived.Test.YtjnknbegapofiaaNShelf
import Derived.Maps.RangeWalk
namespace Go.Proofs.Ytjnknbegapofiaa
open Go.RowKit Go.Maps Go.WideMaps Go.Shelf
set_option maxRecDepth 100000

/-- The deferred closure of a frame that returns: recover finds nothing. -/
theorem keysD_i (w : World) :
    CallsD Try.prog 37 #[] .returning w fun e u' w' => e = .returned (.tuple #[]) ∧ u' = .returning ∧ w' = w := by
  refine callsD_of_wpS Try.func37 rfl fun c₀ cs hu => ?_
  apply wpS_region
  simp [wpOpsS, go_sem, recoverD, hu, Try.ntmps37]
  cases c₀
  simp_all [bodyPostS, results, Try.results37]

theorem sortNil_i (fv : Value) (w : World) : Calls Try.prog 38 #[.slice none 0 0, fv] w fun e w' => e = .returned (.tuple #[]) ∧ w' = w := by
  have h := AnyF.slices_SortFunc_none Try.sortI none 0 fv w
  change Calls Try.prog 38 _ _ _ at h
  exact h

set_option maxHeartbeats 2000000 in
theorem keysNil_i {w : World} {B p : Nat} {m : Value} (h : Tali w B p m []) (fv : Value) :
    Calls Try.prog 30 #[.pointer (some ⟨p, 0, none⟩), fv] w fun e w' => e = .returned (.slice none 0 0) ∧ Kept Nil w w' := by
  have c0 := h.cell0
  rcases h.mp with ⟨rfl, _⟩ | ⟨bm, D, rfl, hb, ho, hc⟩
  · clear h
    have hrg := run_range_nilMap (P := Try.prog) w 66 3 3 Try.underlying66
    have hnx : ∀ ty, (Instr.next (.pointer (some ⟨w.heap.size, 0, none⟩)) false ty).run Try.prog (w.alloc (.mapIter none 0 #[] 0)) = _ := fun ty => run_next_nilMap w ty 0 0 #[]
    go_enter_defers Try.func30, Try.ntmps30
    go_wp2
    refine wp_loop_rounds 1 ?_
    rw [rounds_succ]
    go_wp2_with (go_at_call 38; refine (sortNil_i _ _).mono ?_; rintro e w1 ⟨rfl, rfl⟩)
    refine leaves_cons (f := 37) (args := #[]) (by simp) (by simp [go_sem]) ?_
    refine (keysD_i _).mono ?_
    rintro e u' w'' ⟨rfl, rfl, rfl⟩
    simp [Leaves, settle, results, Try.results30, go_sem]
    exact (Kept.refl _ _).alloc _
  · have hno : ∀ x : Int, (Lit.int .i64 x).wf = true → Maps.has D (.int .i64 x) = false := fun x hx => by
      have e : Maps.has D (.int .i64 x) = decide (x ∈ ([] : List Int)) := hc.has x hx
      rw [e]; rfl
    have HNo := Lib.hid hno
    clear hno hc h
    go_enter_defers Try.func30, Try.ntmps30
    go_wp2_with (at_range; refine wpList_range_own _ rfl _ 66 rfl 3 3 KI.keyed Try.underlying66 _ bm _ _ rfl ho ?_; intro w0 hrg0 hg0 hs0)
    have k0 : Kept Nil w w0 := (Kept.refl _ _).grown hg0 (fun _ e => by cases e)
    generalize w.heap.size = r at *
    clear hg0 hs0
    refine wp_loop_rounds 1 ?_
    rw [rounds_succ]
    go_wp2_with (at_next; refine wpList_next_ranges_ii _ rfl _ rfl 3 3 .i64 .i64 KI.keyed Try.underlying3 Try.underlying3 bm r _ _ _ _ rfl hrg0 ?_ ?_)
    · intro _ _
      go_wp2_with (go_at_call 38; refine (sortNil_i _ _).mono ?_; rintro e w1 ⟨rfl, rfl⟩)
      refine leaves_cons (f := 37) (args := #[]) (by simp) (by simp [go_sem]) ?_
      refine (keysD_i _).mono ?_
      rintro e u' w'' ⟨rfl, rfl, rfl⟩
      simp [Leaves, settle, results, Try.results30, go_sem]
      exact k0
    · intro x c w2 cnt2 hwx hwc hlx hatx hrg2 hlt hg2 hs2 hen
      have := has_true_of_atKey hatx
      rw [HNo.out x hwx] at this
      cases this
end Go.Proofs.Ytjnknbegapofiaa
