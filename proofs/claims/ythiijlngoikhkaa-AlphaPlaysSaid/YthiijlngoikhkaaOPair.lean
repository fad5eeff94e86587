/- The program's store and the document's, side by side, with the same memories. -/
import Derived.Test.YthiijlngoikhkaaOFine
namespace Go.Proofs.Ythiijlngoikhkaa
open Go.RowKit Go.Maps Go.WideMaps
set_option maxRecDepth 100000

/-- Two stores made since w0, apart from one another, that have the same memories. -/
structure PS (w0 w : World) (F G : Nat → Prop) (p q : Nat) (l : List T3) (L : List Mem) : Prop where
  sn : SN w0 w F p l L
  rs : RS w G q L
  low : ∀ k, G k → w0.heap.size ≤ k
  apart : ∀ k, F k → ¬ G k
section
variable {w0 w w' : World} {F G : Nat → Prop} {p q : Nat} {l l' : List T3} {L L' : List Mem}
theorem PS.keptN (h : PS w0 w F G p q l L) (k : Kept Nil w w') : PS w0 w' F G p q l L := ⟨h.sn.keptN k, h.rs.keptN k, h.low, h.apart⟩
/-- The program's store alone has turned: the document's stays. -/
theorem PS.sto (h : PS w0 w F G p q l L) (g : SGrew w w' F p l' L') : ∃ F', SN w0 w' F' p l' L' ∧ RS w' G q L ∧ (∀ k, F' k → ¬ G k) ∧ Kept F w w' ∧ (∀ k, F' k → F k ∨ w.heap.size ≤ k) := by
  obtain ⟨F', s, up, kk⟩ := h.sn.grew g
  refine ⟨F', s, h.rs.kept kk (fun b hb hF => h.apart b hF hb), fun k hk hg => ?_, kk, up⟩
  rcases up k hk with e | e
  · exact h.apart k e hg
  · exact absurd (h.rs.inG hg) (Nat.not_lt.2 e)
/-- The document's store alone has turned: the program's stays. -/
theorem PS.ref (h : PS w0 w F G p q l L) (g : RGrew w w' G q L') : ∃ G', RS w' G' q L' ∧ SN w0 w' F p l L ∧ (∀ k, F k → ¬ G' k) ∧ (∀ k, G' k → w0.heap.size ≤ k) ∧ Kept G w w' ∧ (∀ k, G' k → G k ∨ w.heap.size ≤ k) := by
  obtain ⟨G', r, up, kk⟩ := g
  refine ⟨G', r, ⟨h.sn.sto.kept kk (fun b hb hG => h.apart b hb hG), h.sn.low, h.sn.kept.trans kk (fun i hi e => absurd hi (Nat.not_lt.2 (h.low i e)))⟩, fun k hk hg => ?_, fun k hk => (up k hk).elim (h.low k) (Nat.le_trans h.sn.kept.size), kk, up⟩
  rcases up k hg with e | e
  · exact h.apart k hk e
  · exact absurd (h.sn.inF hk) (Nat.not_lt.2 e)
/-- First the program's, then the document's. -/
theorem PS.sr {w1 w2 : World} (h : PS w0 w F G p q l L) (g : SGrew w w1 F p l' L') (r : RGrew w1 w2 G q L') : ∃ F' G', PS w0 w2 F' G' p q l' L' ∧ (∀ k, F' k → F k ∨ w.heap.size ≤ k) ∧ (∀ k, G' k → G k ∨ w.heap.size ≤ k) ∧ Kept (fun k => F k ∨ G k) w w2 := by
  obtain ⟨F', s, rs, ap, kk, up⟩ := h.sto g
  obtain ⟨G', r', up', kk'⟩ := r
  have ap' : ∀ k, F' k → ¬ G' k := fun k hk hg => by
    rcases up' k hg with e | e
    · exact ap k hk e
    · exact absurd (s.inF hk) (Nat.not_lt.2 e)
  have low' : ∀ k, G' k → w0.heap.size ≤ k := fun k hk => (up' k hk).elim (h.low k) (Nat.le_trans s.kept.size)
  refine ⟨F', G', ⟨⟨s.sto.kept kk' (fun b hb hG => ap b hb hG), s.low, s.kept.trans kk' (fun i hi e => absurd hi (Nat.not_lt.2 (h.low i e)))⟩, r', low', ap'⟩, up, fun k hk => (up' k hk).imp id (Nat.le_trans kk.size), (kk.mono (fun _ _ e => .inl e)).trans kk' (fun _ _ e => .inr e)⟩
/-- First the document's, then the program's. -/
theorem PS.rs2 {w1 w2 : World} (h : PS w0 w F G p q l L) (r : RGrew w w1 G q L') (g : SGrew w1 w2 F p l' L') : ∃ F' G', PS w0 w2 F' G' p q l' L' ∧ (∀ k, F' k → F k ∨ w.heap.size ≤ k) ∧ (∀ k, G' k → G k ∨ w.heap.size ≤ k) ∧ Kept (fun k => F k ∨ G k) w w2 := by
  obtain ⟨G', r', s, ap, low', kk, up⟩ := h.ref r
  obtain ⟨F', s', up', kk'⟩ := s.grew g
  have ap' : ∀ k, F' k → ¬ G' k := fun k hk hg => by
    rcases up' k hk with e | e
    · exact ap k e hg
    · exact absurd (r'.inG hg) (Nat.not_lt.2 e)
  refine ⟨F', G', ⟨s', r'.kept kk' (fun b hb hF => ap b hF hb), low', ap'⟩, fun k hk => (up' k hk).imp id (Nat.le_trans kk.size), up, (kk.mono (fun _ _ e => .inr e)).trans kk' (fun _ _ e => .inl e)⟩
end
end Go.Proofs.Ythiijlngoikhkaa
