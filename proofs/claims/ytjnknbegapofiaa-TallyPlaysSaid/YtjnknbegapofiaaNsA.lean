/- Tallies of string: New, find, Count, Len, Total. -/
import Derived.Test.YtjnknbegapofiaaNKeys
namespace Go.Proofs.Ytjnknbegapofiaa
open Go.RowKit Go.Maps Go.WideMaps
set_option maxRecDepth 100000

abbrev Tals := Tal KS 3 58
abbrev TGrews := TGrew KS 3 58

theorem new_s (w : World) :
    Calls Try.prog 6 #[] w fun e w' => e = .returned (.pointer (some ⟨w.heap.size, 0, none⟩)) ∧ Tals w' w.heap.size w.heap.size (.map none) [] ∧ Kept Nil w w' := by
  go_enter Try.func6, Try.ntmps6
  go_wp2
  go_ret
  exact ⟨rfl, ⟨by simp, by simp, Nat.le_refl _, heap_alloc_new w _, .inl ⟨rfl, rfl⟩⟩, (Kept.refl _ _).alloc _⟩

theorem len_s {w : World} {B p : Nat} {m : Value} {l : List ByteArray} (h : Tals w B p m l) :
    Calls Try.prog 16 #[.pointer (some ⟨p, 0, none⟩)] w fun e w' => (∃ ks : List ByteArray, ks.Nodup ∧ (∀ k, k ∈ ks ↔ k ∈ l) ∧ e = .returned (.int .i64 ks.length)) ∧ w = w' := by
  have c0 := h.cell0
  rcases h.mp with ⟨rfl, rfl⟩ | ⟨bm, D, rfl, hb, ho, ht⟩
  · have hl := Maps.len_nil (P := Try.prog) (w := w) Try.underlying56 3
    clear h
    go_enter Try.func16, Try.ntmps16
    go_wp2
    go_ret
    exact ⟨⟨[], List.nodup_nil, fun _ => Iff.rfl, rfl⟩, rfl⟩
  · obtain ⟨ks, h1, h2, h3⟩ := ht.keys
    have hl := ho.len Try.underlying56 3
    rw [h3] at hl
    have HH := Lib.hid (And.intro h1 h2)
    clear h h1 h2 ht ho
    go_enter Try.func16, Try.ntmps16
    go_wp2
    go_ret
    exact ⟨⟨ks, HH.out.1, HH.out.2, rfl⟩, rfl⟩

theorem total_s {w : World} {B p : Nat} {m : Value} {l : List ByteArray} (h : Tals w B p m l) :
    Calls Try.prog 17 #[.pointer (some ⟨p, 0, none⟩)] w fun e w' => e = .returned (.int .i64 l.length) ∧ w = w' := by
  have c1 := h.cell1
  clear h
  go_enter Try.func17, Try.ntmps17
  go_wp2
  go_ret
  exact ⟨rfl, rfl⟩

/-- The deferred closure of a frame that returns: recover finds nothing. -/
theorem findD_s (w : World) :
    CallsD Try.prog 39 #[] .returning w fun e u' w' => e = .returned (.tuple #[]) ∧ u' = .returning ∧ w' = w := by
  refine callsD_of_wpS Try.func39 rfl fun c₀ cs hu => ?_
  apply wpS_region
  simp [wpOpsS, go_sem, recoverD, hu, Try.ntmps39]
  cases c₀
  simp_all [bodyPostS, results, Try.results39]

theorem find_s {w : World} {B p : Nat} {m : Value} {l : List ByteArray} (h : Tals w B p m l) {k : ByteArray} (hk : KS.ok k) :
    Calls Try.prog 32 #[.pointer (some ⟨p, 0, none⟩), .string k] w fun e w' => e = .returned (.tuple #[.int .i64 (cnt k l), .bool true]) ∧ w' = w := by
  have c0 := h.cell0
  have hlk : (Instr.lookup 56 m (.string k) false).run Try.prog w = .ok (.int .i64 (cnt k l)) w := h.look Try.underlying3 Try.underlying56 zeroI hk
  clear h
  go_enter_defers Try.func32, Try.ntmps32
  go_wp2
  refine leaves_cons (f := 39) (args := #[]) (by simp) (by simp [go_sem]) ?_
  refine (findD_s _).mono ?_
  rintro e u' w'' ⟨rfl, rfl, rfl⟩
  simp [Leaves, settle, results, Try.results32, go_sem]

theorem count_s {w : World} {B p : Nat} {m : Value} {l : List ByteArray} (h : Tals w B p m l) {k : ByteArray} (hk : KS.ok k) :
    Calls Try.prog 9 #[.pointer (some ⟨p, 0, none⟩), .string k] w fun e w' => e = .returned (.int .i64 (cnt k l)) ∧ w' = w := by
  go_enter Try.func9, Try.ntmps9
  go_wp2_with fail
  refine (find_s h hk).mono ?_
  rintro e w1 ⟨rfl, rfl⟩
  go_wp2_with fail
  go_ret
  exact ⟨rfl, rfl⟩
end Go.Proofs.Ytjnknbegapofiaa
