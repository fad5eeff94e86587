/- Tallies of int: New, find, Count, Len, Total. -/
import Derived.Test.YtjnknbegapofiaaNKeys
namespace Go.Proofs.Ytjnknbegapofiaa
open Go.RowKit Go.Maps Go.WideMaps
set_option maxRecDepth 100000

abbrev Tali := Tal KI 3 68
abbrev TGrewi := TGrew KI 3 68

theorem new_i (w : World) :
    Calls Try.prog 24 #[] w fun e w' => e = .returned (.pointer (some ⟨w.heap.size, 0, none⟩)) ∧ Tali w' w.heap.size w.heap.size (.map none) [] ∧ Kept Nil w w' := by
  go_enter Try.func24, Try.ntmps24
  go_wp2
  go_ret
  exact ⟨rfl, ⟨by simp, by simp, Nat.le_refl _, heap_alloc_new w _, .inl ⟨rfl, rfl⟩⟩, (Kept.refl _ _).alloc _⟩

theorem len_i {w : World} {B p : Nat} {m : Value} {l : List Int} (h : Tali w B p m l) :
    Calls Try.prog 27 #[.pointer (some ⟨p, 0, none⟩)] w fun e w' => (∃ ks : List Int, ks.Nodup ∧ (∀ k, k ∈ ks ↔ k ∈ l) ∧ e = .returned (.int .i64 ks.length)) ∧ w = w' := by
  have c0 := h.cell0
  rcases h.mp with ⟨rfl, rfl⟩ | ⟨bm, D, rfl, hb, ho, ht⟩
  · have hl := Maps.len_nil (P := Try.prog) (w := w) Try.underlying66 3
    clear h
    go_enter Try.func27, Try.ntmps27
    go_wp2
    go_ret
    exact ⟨⟨[], List.nodup_nil, fun _ => Iff.rfl, rfl⟩, rfl⟩
  · obtain ⟨ks, h1, h2, h3⟩ := ht.keys
    have hl := ho.len Try.underlying66 3
    rw [h3] at hl
    have HH := Lib.hid (And.intro h1 h2)
    clear h h1 h2 ht ho
    go_enter Try.func27, Try.ntmps27
    go_wp2
    go_ret
    exact ⟨⟨ks, HH.out.1, HH.out.2, rfl⟩, rfl⟩

theorem total_i {w : World} {B p : Nat} {m : Value} {l : List Int} (h : Tali w B p m l) :
    Calls Try.prog 26 #[.pointer (some ⟨p, 0, none⟩)] w fun e w' => e = .returned (.int .i64 l.length) ∧ w = w' := by
  have c1 := h.cell1
  clear h
  go_enter Try.func26, Try.ntmps26
  go_wp2
  go_ret
  exact ⟨rfl, rfl⟩

/-- The deferred closure of a frame that returns: recover finds nothing. -/
theorem findD_i (w : World) :
    CallsD Try.prog 43 #[] .returning w fun e u' w' => e = .returned (.tuple #[]) ∧ u' = .returning ∧ w' = w := by
  refine callsD_of_wpS Try.func43 rfl fun c₀ cs hu => ?_
  apply wpS_region
  simp [wpOpsS, go_sem, recoverD, hu, Try.ntmps43]
  cases c₀
  simp_all [bodyPostS, results, Try.results43]

theorem find_i {w : World} {B p : Nat} {m : Value} {l : List Int} (h : Tali w B p m l) {k : Int} (hk : KI.ok k) :
    Calls Try.prog 36 #[.pointer (some ⟨p, 0, none⟩), .int .i64 k] w fun e w' => e = .returned (.tuple #[.int .i64 (cnt k l), .bool true]) ∧ w' = w := by
  have c0 := h.cell0
  have hlk : (Instr.lookup 66 m (.int .i64 k) false).run Try.prog w = .ok (.int .i64 (cnt k l)) w := h.look Try.underlying3 Try.underlying66 zeroI hk
  clear h
  go_enter_defers Try.func36, Try.ntmps36
  go_wp2
  refine leaves_cons (f := 43) (args := #[]) (by simp) (by simp [go_sem]) ?_
  refine (findD_i _).mono ?_
  rintro e u' w'' ⟨rfl, rfl, rfl⟩
  simp [Leaves, settle, results, Try.results36, go_sem]

theorem count_i {w : World} {B p : Nat} {m : Value} {l : List Int} (h : Tali w B p m l) {k : Int} (hk : KI.ok k) :
    Calls Try.prog 28 #[.pointer (some ⟨p, 0, none⟩), .int .i64 k] w fun e w' => e = .returned (.int .i64 (cnt k l)) ∧ w' = w := by
  go_enter Try.func28, Try.ntmps28
  go_wp2_with fail
  refine (find_i h hk).mono ?_
  rintro e w1 ⟨rfl, rfl⟩
  go_wp2_with fail
  go_ret
  exact ⟨rfl, rfl⟩
end Go.Proofs.Ytjnknbegapofiaa
