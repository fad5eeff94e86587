/- The tally of a store: find, Count, Len (out of XNtA). -/
import Derived.Test.YthiijlngoikhkaaOKeys
import Derived.Deep.QuietTactic
import Derived.BigQuiet
namespace Go.Proofs.Ythiijlngoikhkaa
open Go.RowKit Go.Maps Go.WideMaps
set_option maxRecDepth 100000

abbrev Talt := TalX K3 3 78
abbrev TGrewt := TGrewX K3 3 78

theorem len_t {w : World} {B p : Nat} {m x : Value} {l : List T3} (h : Talt w B p m x l) :
    Calls Try.prog 41 #[.pointer (some ⟨p, 0, none⟩)] w fun e w' => (∃ ks : List T3, ks.Nodup ∧ (∀ k, k ∈ ks ↔ k ∈ l) ∧ e = .returned (.int .i64 ks.length)) ∧ w = w' := by
  have c0 := h.cell0
  rcases h.mp with ⟨rfl, rfl⟩ | ⟨bm, D, rfl, hb, ho, ht⟩
  · have hl := Maps.len_nil (P := Try.prog) (w := w) Try.underlying73 3
    clear h
    go_enter Try.func41, Try.ntmps41
    go_wp2
    go_ret
    exact ⟨⟨[], List.nodup_nil, fun _ => Iff.rfl, rfl⟩, rfl⟩
  · obtain ⟨ks, h1, h2, h3⟩ := ht.keys
    have hl := ho.len Try.underlying73 3
    rw [h3] at hl
    have HH := Lib.hid (And.intro h1 h2)
    clear h h1 h2 ht ho
    go_enter Try.func41, Try.ntmps41
    go_wp2
    go_ret
    exact ⟨⟨ks, HH.out.1, HH.out.2, rfl⟩, rfl⟩

/-- The deferred closure of a frame that returns: recover finds nothing. -/
theorem findD_t (w : World) :
    CallsD Try.prog 52 #[] .returning w fun e u' w' => e = .returned (.tuple #[]) ∧ u' = .returning ∧ w' = w := by
  refine callsD_of_wpS Try.func52 rfl fun c₀ cs hu => ?_
  apply wpS_region
  simp [wpOpsS, go_sem, recoverD, hu, Try.ntmps52]
  cases c₀
  simp_all [bodyPostS, results, Try.results52]

/-- A world with a triple's block at its end. -/
structure Box (w w1 : World) (b : Nat) (k : T3) : Prop where
  c0 : w1.cell? ⟨b, 0, none⟩ = some (.int .i64 k.1)
  c1 : w1.cell? ⟨b, 1, none⟩ = some (.int .i64 k.2.1)
  c2 : w1.cell? ⟨b, 2, none⟩ = some (.int .i64 k.2.2)
  old : w.heap.size ≤ b
  kept : Kept Nil w w1
theorem Box.new (w : World) (k : T3) : Box w (w.alloc (.cells #[.int .i64 k.1, .int .i64 k.2.1, .int .i64 k.2.2] 31)) w.heap.size k :=
  ⟨by go_simp, by go_simp, by go_simp, Nat.le_refl _, (Kept.refl _ _).alloc _⟩

set_option maxHeartbeats 1000000 in
theorem find_t {w : World} {B p : Nat} {m x : Value} {l : List T3} (h : Talt w B p m x l) {k : T3} (hk : K3.ok k) :
    Calls Try.prog 46 #[.pointer (some ⟨p, 0, none⟩), .agg #[.int .i64 k.1, .int .i64 k.2.1, .int .i64 k.2.2]] w fun e w' => e = .returned (.tuple #[.int .i64 (cnt k l), .bool true]) ∧ Kept Nil w w' := by
  have B1 := Lib.hid (Box.new w k)
  have h1 := Lib.hid (h.keptN B1.out.kept)
  clear h
  go_enter_defers Try.func46, Try.ntmps46
  go_wp2_with fail
  generalize w.alloc (.cells #[.int .i64 k.1, .int .i64 k.2.1, .int .i64 k.2.2] 31) = w1 at *
  generalize w.heap.size = b at *
  have c0 := h1.out.cell0
  have ⟨b0, b1, b2, _, _⟩ := B1.out
  have hlk : ∀ n, (Instr.lookup 73 m (.agg #[.int .i64 k.1, .int .i64 k.2.1, .int .i64 k.2.2]) false).run Try.prog (w1.drewN n) = .ok (.int .i64 (cnt k l)) (w1.drewN n) := fun n => TalX.look (K := K3) (h1.out.keptN ((Kept.refl _ _).drewN n)) Try.underlying3 Try.underlying73 zeroI hk
  go_quiet (fail)
  go_wp2
  refine leaves_cons (f := 52) (args := #[]) (by simp) (by simp [go_sem]) ?_
  refine (findD_t _).mono ?_
  rintro e u' w'' ⟨rfl, rfl, rfl⟩
  simp [Leaves, settle, results, Try.results46, go_sem]
  exact B1.out.kept.drewN nq

theorem Box.step {w w1 w2 : World} {b : Nat} {k : T3} (h : Box w w1 b k) {F : Nat → Prop} (hk : Kept F w1 w2) (hF : ∀ i, F i → i < b) (hw : ∀ i, i < w.heap.size → ¬ F i) : Box w w2 b k := by
  have hb : ¬ F b := fun e => Nat.lt_irrefl _ (hF b e)
  have hl : b < w1.heap.size := World.block_lt_of_cell? w1 _ h.c0
  refine ⟨by rw [hk.cell hl hb]; exact h.c0, by rw [hk.cell hl hb]; exact h.c1, by rw [hk.cell hl hb]; exact h.c2, h.old, h.kept.trans hk (fun i hi e => absurd e (hw i hi))⟩
theorem Box.stepN {w w1 w2 : World} {b : Nat} {k : T3} (h : Box w w1 b k) (hk : Kept Nil w1 w2) : Box w w2 b k := h.step hk (fun _ e => e.elim) (fun _ _ e => e)

set_option maxHeartbeats 1000000 in
theorem count_t {w : World} {B p : Nat} {m x : Value} {l : List T3} (h : Talt w B p m x l) {k : T3} (hk : K3.ok k) :
    Calls Try.prog 42 #[.pointer (some ⟨p, 0, none⟩), .agg #[.int .i64 k.1, .int .i64 k.2.1, .int .i64 k.2.2]] w fun e w' => e = .returned (.int .i64 (cnt k l)) ∧ Kept Nil w w' := by
  have B1 := Lib.hid (Box.new w k)
  have h1 := Lib.hid (h.keptN B1.out.kept)
  clear h
  go_enter Try.func42, Try.ntmps42
  go_wp2_with fail
  refine (find_t h1.out hk).mono ?_
  rintro e w2 ⟨rfl, k2⟩
  have K2 := Lib.hid (B1.out.kept.trans k2 (fun _ _ e => e))
  clear B1 k2 h1
  go_wp2_with fail
  go_ret
  exact ⟨rfl, K2.out⟩
end Go.Proofs.Ythiijlngoikhkaa
