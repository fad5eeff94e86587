/- A memory of facts: New, Add, Remove, Get, Len, Last. -/
import Derived.Test.YtgnpclcoinndpaaWRight
import Derived.BigRegion
namespace Go.Proofs.Ytgnpclcoinndpaa
open Go.RowKit Go.Maps
set_option maxRecDepth 100000

theorem lawK : Keyed Try.prog 3 := int_keyed Try.underlying3
theorem keyI {k : Int} (h : (Lit.int .i64 k).wf = true) : keyOf Try.prog 3 (.int .i64 k) = some (.int .i64 k) := keyOf_int_mk Try.underlying3 h
def zeroT : T3 := (0, 0, 0)
theorem zeroTr (w : World) : (zeroValue 33).run Try.prog w = .ok (arr zeroT) w := by kernel_rfl

/-- The blocks of a memory. -/
def MFoot (p bm k : Nat) : Prop := k = p ∨ k = bm
/-- Block p is a memory of the facts l, with room for so many; the last id was so; it and its map lie from block B on. -/
structure Mem (w : World) (B p bm : Nat) (l : List F4) (last limit : Nat) : Prop where
  base : B ≤ p
  bmb : B ≤ bm
  here : w.heap[p]? = some (.cells #[.map (some bm), .int .i64 limit, .int .i64 last] 63 (0, 0))
  mp : ∃ D, w.ownsMap (H := Unit) Try.prog 3 tripE bm last D ∧ MapL D l
  rise : Rise l
  ids : ∀ x ∈ l, 1 ≤ x.1 ∧ x.1 ≤ last
  few : last ≤ 5000
  lim : limit ≤ 1024
section
variable {w w' : World} {B p bm last limit : Nat} {l : List F4}
theorem Mem.lt (h : Mem w B p bm l last limit) : p < w.heap.size := (Array.getElem?_eq_some_iff.1 h.here).1
theorem Mem.foot (h : Mem w B p bm l last limit) {k : Nat} (hk : MFoot p bm k) : B ≤ k ∧ k < w.heap.size := by
  rcases hk with rfl | rfl
  · exact ⟨h.base, h.lt⟩
  · obtain ⟨D, ho, _⟩ := h.mp
    exact ⟨h.bmb, ho.lt⟩
theorem Mem.kept (h : Mem w B p bm l last limit) {F : Nat → Prop} (hk : Kept F w w') (hF : ∀ k, MFoot p bm k → ¬ F k) : Mem w' B p bm l last limit := by
  refine ⟨h.base, h.bmb, ?_, ?_, h.rise, h.ids, h.few, h.lim⟩
  · rw [hk.block p h.lt (hF p (.inl rfl))]; exact h.here
  · obtain ⟨D, ho, hD⟩ := h.mp
    exact ⟨D, hk.map ho (hF bm (.inr rfl)), hD⟩
theorem Mem.keptN (h : Mem w B p bm l last limit) (hk : Kept Nil w w') : Mem w' B p bm l last limit := h.kept hk (fun _ _ g => g)
theorem Mem.cell0 (h : Mem w B p bm l last limit) : w.cell? ⟨p, 0, none⟩ = some (.map (some bm)) := by simp [World.cell?, h.here]
theorem Mem.cell1 (h : Mem w B p bm l last limit) : w.cell? ⟨p, 1, none⟩ = some (.int .i64 limit) := by simp [World.cell?, h.here]
theorem Mem.cell2 (h : Mem w B p bm l last limit) : w.cell? ⟨p, 2, none⟩ = some (.int .i64 last) := by simp [World.cell?, h.here]
theorem Mem.free (h : Mem w B p bm l last limit) (o : Nat) : w.frozen? ⟨p, o, none⟩ = false := by simp [World.frozen?, h.here]
/-- The map is not the memory's own block. -/
theorem Mem.ne (h : Mem w B p bm l last limit) : p ≠ bm := by
  rintro rfl
  obtain ⟨D, ⟨es, clock, hb, _⟩, _⟩ := h.mp
  rw [h.here] at hb; cases hb
/-- A block of cells of another type is none of a memory's. -/
theorem Mem.other (h : Mem w B p bm l last limit) {k : Nat} {cur : Array Value} {t : TypeId} {fr : Nat × Nat} (hb : w.heap[k]? = some (.cells cur t fr)) (ht : t ≠ 63) : ¬ MFoot p bm k := by
  rintro (rfl | rfl)
  · rw [h.here] at hb; injection hb with hb; injection hb with _ h2 _; exact ht h2.symm
  · obtain ⟨D, ⟨es, clock, hbb, _⟩, _⟩ := h.mp
    rw [hbb] at hb; cases hb
theorem Mem.miss (h : Mem w B p bm l last limit) {k : Int} (hk : (Lit.int .i64 k).wf = true) (hl : look l k = none) (W : World) (hW : W.heap = w.heap) :
    (Instr.lookup 58 (.map (some bm)) (.int .i64 k) true).run Try.prog W = .ok (.tuple #[arr zeroT, .bool false]) W := by
  obtain ⟨D, ho, hD⟩ := h.mp
  have ho' : W.ownsMap (H := Unit) Try.prog 3 tripE bm last D := by
    obtain ⟨es, clock, hb, r⟩ := ho
    exact ⟨es, clock, by rw [hW]; exact hb, r⟩
  obtain ⟨v, ps, hrun, hv⟩ := ho'.look_ok lawK Try.underlying58 (zeroTr W) (tripE_mk zeroT) (keyI hk)
  rw [hD.miss hl] at hv
  rw [tripE_at hv] at hrun
  rw [hrun, hD.has, hl]; rfl
theorem Mem.hit (h : Mem w B p bm l last limit) {k : Int} (hk : (Lit.int .i64 k).wf = true) {t : T3} (hl : look l k = some t) (W : World) (hW : W.heap = w.heap) :
    (Instr.lookup 58 (.map (some bm)) (.int .i64 k) true).run Try.prog W = .ok (.tuple #[arr t, .bool true]) W := by
  obtain ⟨D, ho, hD⟩ := h.mp
  have ho' : W.ownsMap (H := Unit) Try.prog 3 tripE bm last D := by
    obtain ⟨es, clock, hb, r⟩ := ho
    exact ⟨es, clock, by rw [hW]; exact hb, r⟩
  obtain ⟨v, ps, hrun, hv⟩ := ho'.look_ok lawK Try.underlying58 (zeroTr W) (tripE_mk zeroT) (keyI hk)
  rw [hD.get k t hl] at hv
  rw [tripE_at hv] at hrun
  rw [hrun, hD.has, hl]; rfl
theorem Mem.count (h : Mem w B p bm l last limit) (W : World) (hW : W.heap = w.heap) (ty : TypeId) : (Builtin.len_ #[58] ty #[.map (some bm)]).run Try.prog W = .ok (.int .i64 l.length) W := by
  obtain ⟨D, ho, hD⟩ := h.mp
  have ho' : W.ownsMap (H := Unit) Try.prog 3 tripE bm last D := by
    obtain ⟨es, clock, hb, r⟩ := ho
    exact ⟨es, clock, by rw [hW]; exact hb, r⟩
  have := ho'.len Try.underlying58 ty
  rwa [hD.size] at this
theorem Mem.len_le (h : Mem w B p bm l last limit) : l.length ≤ last := by
  obtain ⟨D, ho, hD⟩ := h.mp
  have := ho.size_le
  rwa [hD.size] at this
theorem Mem.not_yet (h : Mem w B p bm l last limit) : look l ((last : Int) + 1) = none := look_none.2 (fun x hx => by have := (h.ids x hx).2; omega)
theorem wf_i64 {a : Int} (h : -9223372036854775808 ≤ a ∧ a ≤ 9223372036854775807) : (Lit.int .i64 a).wf = true := WalkArith.wf_i64 h
end

/-! ### New, Len, Last -/
theorem new_bad (n : Int) (h : n < 1 ∨ 1024 < n) (w : World) :
    Calls Try.prog 7 #[.int .i64 n] w fun e w' => e = .returned (.tuple #[.pointer none, .int .i64 13]) ∧ w' = w := by
  by_cases h1 : n < 1
  · go_enter Try.func7, Try.ntmps7
    go_wp2
    go_ret2
    exact ⟨rfl, rfl⟩
  · have h2 : 1024 < n := by omega
    go_enter Try.func7, Try.ntmps7
    go_wp2
    go_ret2
    exact ⟨rfl, rfl⟩
theorem new_good (n : Nat) (h1 : 1 ≤ n) (h2 : n ≤ 1024) (w : World) :
    Calls Try.prog 7 #[.int .i64 n] w fun e w' => ∃ p bm, e = .returned (.tuple #[.pointer (some ⟨p, 0, none⟩), .int .i64 0]) ∧ Mem w' w.heap.size p bm [] 0 n ∧ Kept Nil w w' := by
  have hmm := @run_makeMap Try.prog
  go_enter Try.func7, Try.ntmps7
  go_wp2
  go_ret2
  have hh : ∀ o, ((w.alloc (.map #[] 0)).alloc o).heap[w.heap.size + 1]? = some o := fun o => by have := heap_alloc_new (w.alloc (.map #[] 0)) o; simpa using this
  refine ⟨_, w.heap.size, rfl, ⟨by simp, Nat.le_refl _, hh _, ⟨.map [], ?_, MapL.nil⟩, List.Pairwise.nil, by simp, by omega, h2⟩, ((Kept.refl _ _).alloc _).alloc _⟩
  exact (World.ownsMap_made (H := Unit) w Try.prog 3 tripE).alloc _
theorem len_any {w : World} {B p bm last limit : Nat} {l : List F4} (h : Mem w B p bm l last limit) :
    Calls Try.prog 14 #[.pointer (some ⟨p, 0, none⟩)] w fun e w' => e = .returned (.int .i64 l.length) ∧ w' = w := by
  have c0 := h.cell0
  have hl := h.count w rfl 3
  clear h
  go_enter Try.func14, Try.ntmps14
  go_wp2
  go_ret
  exact ⟨rfl, rfl⟩
theorem last_any {w : World} {B p bm last limit : Nat} {l : List F4} (h : Mem w B p bm l last limit) :
    Calls Try.prog 13 #[.pointer (some ⟨p, 0, none⟩)] w fun e w' => e = .returned (.int .i64 last) ∧ w' = w := by
  have c0 := h.cell2
  clear h
  go_enter Try.func13, Try.ntmps13
  go_wp2
  go_ret
  exact ⟨rfl, rfl⟩
end Go.Proofs.Ytgnpclcoinndpaa
