/- A map of triples of a law's own. -/
import Derived.Test.YtgnpclcoinndpaaWLawFull
import Derived.Test.YtgnpclcoinndpaaWAllB
namespace Go.Proofs.Ytgnpclcoinndpaa
open Go.RowKit Go.Maps
set_option maxRecDepth 100000

/-- Block bh is a map that has just the facts l. -/
structure Had (w : World) (B bh : Nat) (l : List F4) (n : Nat) : Prop where
  base : B ≤ bh
  mp : ∃ D, w.ownsMap (H := Unit) Try.prog 3 tripE bh n D ∧ MapL D l
  rise : Rise l
section
variable {w w' : World} {B bh n : Nat} {l : List F4}
theorem Had.lt (h : Had w B bh l n) : bh < w.heap.size := by obtain ⟨D, ho, _⟩ := h.mp; exact ho.lt
theorem Had.kept (h : Had w B bh l n) {F : Nat → Prop} (hk : Kept F w w') (hF : ¬ F bh) : Had w' B bh l n := by
  obtain ⟨D, ho, hD⟩ := h.mp
  exact ⟨h.base, ⟨D, hk.map ho hF, hD⟩, h.rise⟩
theorem Had.keptN (h : Had w B bh l n) (hk : Kept Nil w w') : Had w' B bh l n := h.kept hk (fun e => e)
theorem Had.new (w : World) : Had (w.alloc (.map #[] 0)) w.heap.size w.heap.size [] 0 := ⟨Nat.le_refl _, ⟨.map [], World.ownsMap_made (H := Unit) w Try.prog 3 tripE, MapL.nil⟩, List.Pairwise.nil⟩
theorem Had.down {B' : Nat} (h : Had w B bh l n) (hB : B' ≤ B) : Had w B' bh l n := ⟨Nat.le_trans hB h.base, h.mp, h.rise⟩
theorem Had.miss (h : Had w B bh l n) {k : Int} (hk : (Lit.int .i64 k).wf = true) (hl : look l k = none) :
    (Instr.lookup 58 (.map (some bh)) (.int .i64 k) true).run Try.prog w = .ok (.tuple #[.agg #[.int .i64 0, .int .i64 0, .int .i64 0], .bool false]) w := by
  obtain ⟨D, ho, hD⟩ := h.mp
  obtain ⟨v, ps, hrun, hv⟩ := ho.look_ok lawK Try.underlying58 (zeroTr w) (tripE_mk zeroT) (keyI hk)
  rw [hD.miss hl] at hv
  rw [tripE_at hv] at hrun
  rw [hrun, hD.has, hl]; rfl
theorem Had.hit (h : Had w B bh l n) {k : Int} (hk : (Lit.int .i64 k).wf = true) {t : T3} (hl : look l k = some t) :
    (Instr.lookup 58 (.map (some bh)) (.int .i64 k) true).run Try.prog w = .ok (.tuple #[.agg #[.int .i64 t.1, .int .i64 t.2.1, .int .i64 t.2.2], .bool true]) w := by
  obtain ⟨D, ho, hD⟩ := h.mp
  obtain ⟨v, ps, hrun, hv⟩ := ho.look_ok lawK Try.underlying58 (zeroTr w) (tripE_mk zeroT) (keyI hk)
  rw [hD.get k t hl] at hv
  rw [tripE_at hv] at hrun
  rw [hrun, hD.has, hl]; rfl
theorem Had.count (h : Had w B bh l n) (ty : TypeId) : (Builtin.len_ #[58] ty #[.map (some bh)]).run Try.prog w = .ok (.int .i64 l.length) w := by
  obtain ⟨D, ho, hD⟩ := h.mp
  have := ho.len Try.underlying58 ty
  rwa [hD.size] at this
theorem Had.put (h : Had w B bh l n) (hn : n ≤ 5000) {k : Int} (hk : (Lit.int .i64 k).wf = true) (hl : ∀ x ∈ l, x.1 < k) (t : T3) :
    ∃ w', (Instr.mapUpdate 58 (.map (some bh)) (.int .i64 k) (.agg #[.int .i64 t.1, .int .i64 t.2.1, .int .i64 t.2.2])).run Try.prog w = .ok () w' ∧ Had w' B bh (l ++ [(k, t)]) (n + 1) ∧ Kept (fun i => i = bh) w w' := by
  obtain ⟨D, ho, hD⟩ := h.mp
  obtain ⟨w', hrun, ho', hg⟩ := ho.update (val := arr t) lawK Try.underlying58 (by unfold maxLen; omega) (keyI hk) (tripE_mk t)
  exact ⟨w', hrun, ⟨h.base, ⟨_, ho', hD.put (look_none.2 (fun x hx => by have := hl x hx; omega)) t⟩, snoc_rise h.rise t hl⟩, (Kept.refl _ _).grown hg (fun i e => .inl (by simpa using e.symm))⟩
theorem Had.drop (h : Had w B bh l n) {k : Int} (hk : (Lit.int .i64 k).wf = true) :
    ∃ w', (Builtin.delete_ #[58, 3] 0 #[.map (some bh), .int .i64 k]).run Try.prog w = .ok (.tuple #[]) w' ∧ Had w' B bh (rid l k) n ∧ Kept (fun i => i = bh) w w' := by
  obtain ⟨D, ho, hD⟩ := h.mp
  obtain ⟨w', hrun, ho', ht⟩ := ho.drop lawK Try.underlying58 (keyI hk) 0
  exact ⟨w', hrun, ⟨h.base, ⟨_, ho', hD.del h.rise k⟩, rid_rise h.rise k⟩, (Kept.refl _ _).grown ht.grown (fun i e => .inl (by simpa using e.symm))⟩
end
end Go.Proofs.Ytgnpclcoinndpaa
