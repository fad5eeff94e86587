/- The program's tree and the document's, side by side. -/
import Derived.Test.YtbaplplaokbnnaaMSame
namespace Go.Proofs.Ytbaplplaokbnnaa
open Go.RowKit Go.Maps Go.WideMaps
set_option maxRecDepth 100000

theorem runL_lp (top : ByteArray) (l : List Opn) : LP (runL top l) := by
  have : ∀ (l : List Opn) (L : List TokS), WF L → LP L → LP (l.foldl stepL L) := by
    intro l
    induction l with
    | nil => intro L _ h; exact h
    | cons o r ih => intro L hw h; exact ih _ (stepL_wf hw o) (h.step hw o)
  exact this l _ (WF.top _ _) (LP.top _)
/-- Since w two trees were made, the program's with tokens L1, the document's with L2, and new memory alone. -/
def PS (w w' : World) (p q : Nat) (L1 L2 : List TokS) : Prop :=
  ∃ c a cap, Tre KS 78 w' c p L1 ∧ RTx w' w.heap.size q a cap L2 ∧ (∀ b, c b ≠ 0 → w.heap.size ≤ b) ∧ (∀ b, RF q a L2.length cap b → c b = 0) ∧ Kept Nil w w'
section
variable {w w1 w2 : World} {p q : Nat} {L1 L2 L' : List TokS}
theorem PS.kept (h : PS w w1 p q L1 L2) : Kept Nil w w1 := by obtain ⟨c, a, cap, t, r, lo, ap, k⟩ := h; exact k
theorem PS.keptN (h : PS w w1 p q L1 L2) (k : Kept Nil w1 w2) : PS w w2 p q L1 L2 := by
  obtain ⟨c, a, cap, t, r, lo, ap, kk⟩ := h
  exact ⟨c, a, cap, t.keptN k, r.keptN k, lo, ap, kk.trans k (fun _ _ e => e)⟩
theorem PS.prog {c : Nat → Nat} {a : Option Addr} {cap : Nat} (r : RTx w1 w.heap.size q a cap L2) (lo : ∀ b, c b ≠ 0 → w.heap.size ≤ b) (ap : ∀ b, RF q a L2.length cap b → c b = 0) (k : Kept Nil w w1) (h : TreG KS 78 w1 w2 c p L') : PS w w2 p q L' L2 := by
  obtain ⟨c', t', s', k'⟩ := h
  refine ⟨c', a, cap, t', r.kept k' (fun b hb e => e (ap b hb)), fun b hb => (s' b hb).elim (lo b) (Nat.le_trans k.size), fun b hb => ?_, k.trans k' (fun b hb e => by have := lo b e; omega)⟩
  rcases Nat.eq_zero_or_pos (c' b) with e | e
  · exact e
  · rcases s' b (by omega) with e2 | e2
    · exact absurd (ap b hb) e2
    · have := (r.foot hb).2; omega
theorem PS.ref {c : Nat → Nat} {a : Option Addr} {cap : Nat} (t : Tre KS 78 w1 c p L1) (r : RTx w1 w.heap.size q a cap L2) (lo : ∀ b, c b ≠ 0 → w.heap.size ≤ b) (ap : ∀ b, RF q a L2.length cap b → c b = 0) (k : Kept Nil w w1) (h : RG w1 w2 w.heap.size q a L2.length cap L') : PS w w2 p q L1 L' := by
  obtain ⟨a', cap', r', s', k'⟩ := h
  refine ⟨c, a', cap', t.kept k' (fun b hb e => hb (ap b e)), r', lo, fun b hb => ?_, k.trans k' (fun b hb e => by have := (r.foot e).1; omega)⟩
  rcases s' b hb with e | e
  · exact ap b e
  · rcases Nat.eq_zero_or_pos (c b) with e2 | e2
    · exact e2
    · have := t.low (b := b) (by omega); omega
end
end Go.Proofs.Ytbaplplaokbnnaa
