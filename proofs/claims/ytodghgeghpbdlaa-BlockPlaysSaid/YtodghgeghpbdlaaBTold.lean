/- A range over a function whose variables lie in memory of their own, made anew in each round: after XLTold's law. No program. -/
import Derived.Test.YtodghgeghpbdlaaLTold
namespace Go.Proofs.Ytodghgeghpbdlaa
open Go.RowKit
set_option maxRecDepth 100000

theorem kept_put {W : World} {b : Nat} (_ : b < W.heap.size) (o : Obj) : Kept (fun k => k = b) W (W.putObj b o) :=
  ⟨rfl, rfl, rfl, by simp [World.putObj], fun _ _ hk => World.putObj_heap_other (fun e => hk e)⟩
section
variable {F : Fence} {n : Nat} {P : Program} {α : Type} {a : Act} {w : World} {ps : Array Tmp} {assign body : Code} {fn : FuncId}
theorem wpIn_rangeFunc_toldA {g : Operand} {Q : Exit → Act → World → Prop} (hro : F.round = none) (h1 : 1 ≤ n) {gf : Nat} {lb : Array Value} (hg : a.eval g = .func (.func gf) #[] lb) (hFg : F.fn gf) (eg : ∀ args w, (callFunc gf args).run P w = .ok (.enter gf args) w)
    {encs : α → Array Value} {Kn : List α → World → Prop} {Ok : List α → α → Prop} {S : List α → Prop} {w0 : World} (hseq : SeqTold F (n - 1) P gf lb encs Kn Ok S w0) (hb0 : Below w0.heap.size w0 w) (hps : ∀ x, (encs x).size = ps.size)
    (I : List α → World → Prop) (Ix : Code → List α → World → Prop) (hI : OwnFrom w.heap.size I) (hIx : ∀ c, OwnFrom w.heap.size (Ix c)) (hKn : ∀ pre V, I pre V → Kn pre V) (h0 : I [] w) (a₁ : α → World → Act) (w₁ : α → World → World) (hw₁ : ∀ x W, Kept Nil W (w₁ x W))
    (hassign : ∀ (l : Nat) (x : α) (W : World) (K : Act → World → Prop), K (a₁ x W) (w₁ x W) → assign.wpIn (F.inRound l) (n - 1 - 1) P (Exit.then K (fun _ _ _ => False)) { tmps := (ps.zip (encs x)).foldl (fun t (p, v) => t.setIfInBounds p v) a.tmps, defers := [] } W)
    (hbody : ∀ (l : Nat) (pre : List α) (x : α) (W W' : World), I pre W → Ok pre x → I pre W' → Kept (fun k => k = w.heap.size + 1) (w₁ x W) W' → (∃ lo, (w₁ x W).heap[w.heap.size + 1]? = some (.loop lo)) → body.wpIn (F.inRound l) (n - 1 - 1) P (toldPost w.heap.size I Ix (pre ++ [x]) W') (a₁ x W) W')
    (hdone : ∀ (D : Nat) (xs : List α) (W : World), w.heap.size ≤ D → S xs → I xs W → W.heap[D]? = some (.deferred (some [])) → Q .normal { a with defers := { target := .collected D, args := #[] } :: a.defers } W)
    (hstop : ∀ (D : Nat) (c : Code) (pre : List α) (W : World), w.heap.size ≤ D → Ix c pre W → W.heap[D]? = some (.deferred (some [])) → c.wpIn F n P Q { a with defers := { target := .collected D, args := #[] } :: a.defers } W) :
    (Code.rangeFunc g ps assign body).wpIn F n P Q a w := by
  refine wpIn_rangeFunc fun fn hfn => ?_
  rw [hro]
  obtain ⟨W1, hW1⟩ : ∃ W1, (w.alloc (.deferred (some []))).alloc (.loop (recAt a w fn ps assign body .ready none)) = W1 := ⟨_, rfl⟩
  have hs1 : W1.heap.size = w.heap.size + 2 := by rw [← hW1]; simp
  have B1 : Books a w fn ps assign body .ready none W1 := by
    subst hW1
    refine ⟨?_, (Below.heap_alloc _ _ _ (by simp)).trans (World.alloc_heap_new w _)⟩
    have := World.alloc_heap_new (w.alloc (.deferred (some []))) (.loop (recAt a w fn ps assign body .ready none))
    rwa [World.size_alloc] at this
  have I1 : I [] W1 := by rw [← hW1]; exact hI.alloc _ (hI.alloc _ h0)
  have hb1 : Below w0.heap.size w0 W1 := by
    rw [← hW1]; exact hb0.trans ((((Below.refl _ w).alloc (Nat.le_refl _) _).alloc (by simp) _).mono hb0.size)
  have cells : ∀ {A : World} {row : Option Nat}, (∀ r, row = some r → W1.heap.size ≤ r ∧ ∃ o : Obj, A.heap[r]? = some o ∧ o.isWalk = true) → ∀ r, row = some r → w.heap.size ≤ r ∧ ∃ o : Obj, A.heap[r]? = some o ∧ o.isCells = false := fun hr r e => by
    obtain ⟨hB, o, ho, hw⟩ := hr r e
    exact ⟨by omega, o, ho, Obj.not_cells_of_walk hw⟩
  refine ⟨w.heap.size + 1, [{ target := .collected w.heap.size, args := #[] }], W1, { target := .fn (.func gf) lb, args := #[.func (.yield (w.heap.size + 1)) #[] #[]] }, W1, gf,
    #[.func (.yield (w.heap.size + 1)) #[] #[]] ++ lb, W1, ?_, ?_, ?_, ?_, fun _ => h1, ?_⟩
  · rw [← hW1]; exact run_enterLoop_outer _ _ _ _ _
  · simp only [resolve, hg]; simp [go_sem]
  · intro f' hf'; simp [Target.leads] at hf'; subst hf'; exact hFg
  · simp [invoke, go_sem, eg]
  refine (hseq (w.heap.size + 1) (fun pre W => I pre W ∧ Books a w fn ps assign body .ready none W) (fun pre W => ∃ c, Ix c pre W ∧ Books a w fn ps assign body .done (some c) W) W1 hb1
    (fun s A B row hs hg' hr => ⟨hI s A B row hs.1 hg' (cells hr), hs.2.walks hg' (fun r e => (hr r e).2)⟩)
    (fun s A B row ⟨c, hc, hb⟩ hg' hr => ⟨c, hIx c s A B row hc hg' (cells hr), hb.walks hg' (fun r e => (hr r e).2)⟩)
    (fun pre V h => hKn pre V h.1) (fun pre x W ⟨hi, hb⟩ hok => ?_) ⟨I1, B1⟩).mono ?_
  · -- a round
    have hy := run_yield (P := P) (args := encs x) hb.loop (hps x)
    have hb1 : Books a w fn ps assign body .ready none (w₁ x W) := ⟨((hw₁ x W).block _ (Array.getElem?_eq_some_iff.1 hb.loop).1 (fun e => e)).trans hb.loop, ((hw₁ x W).block _ (Array.getElem?_eq_some_iff.1 hb.calls).1 (fun e => e)).trans hb.calls⟩
    have hi1 : I pre (w₁ x W) := hI pre W (w₁ x W) none hi ((hw₁ x W).toGrown none) (fun r e => by cases e)
    refine ⟨fn, _, assign, body, hy, roundIn_of_wpIn hfn (hassign _ x W _ ⟨_, run_beginRound hb1.loop rfl, ?_⟩)⟩
    have hb2 : Books a w fn ps assign body .busy none ((w₁ x W).putObj (w.heap.size + 1) (.loop (recAt a w fn ps assign body .busy none))) := hb1.turn
    refine wpIn_mono (hbody _ pre x W _ hi hok (hI.putObj _ hi1 (by omega) hb1.loop rfl) (kept_put (Array.getElem?_eq_some_iff.1 hb1.loop).1 _) ⟨_, hb1.loop⟩) ?_
    have fin : ∀ (jump : Option Code) (V : World), KeepsFrom w.heap.size ((w₁ x W).putObj (w.heap.size + 1) (.loop (recAt a w fn ps assign body .busy none))) V →
        (Instr.endRound (w.heap.size + 1) jump).run P V = .ok (.bool jump.isNone) (V.putObj (w.heap.size + 1) (.loop (recAt a w fn ps assign body (if jump.isNone then .ready else .done) jump))) ∧
        V.heap[w.heap.size + 1]? = some (.loop (recAt a w fn ps assign body .busy none)) ∧
        Books a w fn ps assign body (if jump.isNone then .ready else .done) jump (V.putObj (w.heap.size + 1) (.loop (recAt a w fn ps assign body (if jump.isNone then .ready else .done) jump))) := fun jump V hk =>
      ⟨run_endRound (P := P) jump (hb2.keeps hk).loop, (hb2.keeps hk).loop, (hb2.keeps hk).turn⟩
    rintro e a3 V hp
    cases e with
    | normal =>
      obtain ⟨hr, hl, hbk⟩ := fin none V hp.1
      exact ⟨_, _, hr, .inl ⟨rfl, hI.putObj _ hp.2.2 (by omega) hl rfl, hbk⟩⟩
    | ret =>
      obtain ⟨hr, hl, hbk⟩ := fin (some .ret) V hp.1
      exact ⟨_, _, hr, .inr ⟨rfl, .ret, (hIx _).putObj _ hp.2 (by omega) hl rfl, hbk⟩⟩
    | exit id =>
      obtain ⟨hr, hl, hbk⟩ := fin (some (.exit id)) V hp.1
      exact ⟨_, _, hr, .inr ⟨rfl, .exit id, (hIx _).putObj _ hp.2 (by omega) hl rfl, hbk⟩⟩
    | goto t =>
      obtain ⟨hr, hl, hbk⟩ := fin (some (.goto t)) V hp.1
      exact ⟨_, _, hr, .inr ⟨rfl, .goto t, (hIx _).putObj _ hp.2 (by omega) hl rfl, hbk⟩⟩
    | panic ch => exact hp.elim
    | outgrown => exact hp.elim
  · -- behind the iterator
    rintro e W2 ⟨⟨v, rfl⟩, (⟨xs, hS, hi, hb⟩ | ⟨pre, c, hi, hb⟩)⟩
    · exact ⟨none, _, run_endLoop (P := P) hb.loop (by simp [recAt]), hdone _ xs _ (Nat.le_refl _) hS (hI.putObj _ hi (by omega) hb.loop rfl) ((World.putObj_heap_other (by omega)).trans hb.calls)⟩
    · exact ⟨some c, _, run_endLoop (P := P) hb.loop (by simp [recAt]), hstop _ c pre _ (Nat.le_refl _) ((hIx c).putObj _ hi (by omega) hb.loop rfl) ((World.putObj_heap_other (by omega)).trans hb.calls)⟩
end
end Go.Proofs.Ytodghgeghpbdlaa
