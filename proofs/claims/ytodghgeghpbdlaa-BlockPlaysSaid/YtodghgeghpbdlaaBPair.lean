/- Layer block: the program's Blocks beside the document's; what is put behind a row of the document's. -/
import Derived.Test.YtodghgeghpbdlaaBRefB
import Derived.Test.YtodghgeghpbdlaaBAwake
import Derived.Test.YtodghgeghpbdlaaBOpen
namespace Go.Proofs.Ytodghgeghpbdlaa
open Go.RowKit Go.Maps Go.WideMaps
set_option maxRecDepth 100000

theorem R_le {w : World} {B pb n : Nat} {R : List ByteArray} {Ps : List (ByteArray × Int)} (h : BTP w B pb R Ps n) : R.length ≤ n ∧ Ps.length ≤ n := by
  obtain ⟨s, h⟩ := h
  have h1 := congrArg List.length h.rowR
  have h2 := row_le_p h.lst
  have := h.lv
  simp at h1
  exact ⟨by omega, h.lp⟩
theorem FR.back {w w' : World} {B k : Nat} (h : Kept Nil w w') (hk : k < w.heap.size) (e : FR w' B k) : FR w B k := by
  unfold FR at e ⊢
  rw [h.block k hk (fun e => e)] at e
  exact e
/-- Both. -/
structure PSt (w W : World) (pb q : Nat) (R : List ByteArray) (Ps : List (ByteArray × Int)) (n : Nat) : Prop where
  bt : BTP W w.heap.size pb R Ps n
  rb : RB W w.heap.size q R Ps
  k : Kept Nil w W
section
variable {w W W' : World} {pb q n n' : Nat} {R R' : List ByteArray} {Ps Ps' : List (ByteArray × Int)}
theorem PSt.keptN (h : PSt w W pb q R Ps n) (k : Kept Nil W W') : PSt w W' pb q R Ps n := ⟨h.bt.keptN k, h.rb.keptN k, h.k.trans k (fun _ _ e => e)⟩
theorem PSt.more (h : PSt w W pb q R Ps n) (hn : n ≤ n') : PSt w W pb q R Ps n' := ⟨h.bt.more hn, h.rb, h.k⟩
theorem FBP.notR {B B' b : Nat} (h : FBP W B b) : ¬ FR W B' b := by
  rintro ⟨_, cs, t, f, hb, ht⟩
  rcases ht with rfl | rfl | rfl <;> exact FBP.other hb (by decide) (by decide) (by decide) h
/-- The program has turned, and the document's, too. -/
theorem PSt.both (h : PSt w W pb q R Ps n) {W1 : World} (g : GBP W W1 w.heap.size pb R' Ps' n') (r : RB W' w.heap.size q R' Ps') (k : Kept (FR W1 w.heap.size) W1 W') : PSt w W' pb q R' Ps' n' :=
  ⟨g.1.kept k (fun _ e => e.notR), r, (FBP.fresh h.k g.2).trans k (fun _ hi e => absurd e.1 (Nat.not_le.2 hi))⟩
theorem RBs.low1 {B : Nat} {a1 a2 : Option Addr} {c1 c2 : Nat} (h : RBs W B q R Ps a1 c1 a2 c2) {z : Nat} (ez : (Value.slice a1 R.length c1).ownBlock = some z) : B ≤ z := by
  rcases h.row.2 with ⟨e2, _⟩ | ⟨g, c, cur, e2, hb, _⟩
  · rw [e2] at ez; cases ez
  · rw [e2] at ez; cases ez; exact hb
theorem RBs.low2 {B : Nat} {a1 a2 : Option Addr} {c1 c2 : Nat} (h : RBs W B q R Ps a1 c1 a2 c2) {z : Nat} (ez : (Value.slice a2 Ps.length c2).ownBlock = some z) : B ≤ z := by
  rcases h.prs.2 with ⟨e2, _⟩ | ⟨g, c, cur, e2, hb, _⟩
  · rw [e2] at ez; cases ez
  · rw [e2] at ez; cases ez; exact hb
theorem RBs.pushRow {B : Nat} {a1 a2 : Option Addr} {c1 c2 : Nat} (h : RBs W B q R Ps a1 c1 a2 c2) {k : ByteArray} {W3 : World} {a' : Option Addr} {c' : Nat} (hr : Row cKP 9 1 W3 B (.slice a' (R.length + 1) c') (R ++ [k])) (k3 : Kept (fun z => (Value.slice a1 R.length c1).ownBlock = some z) W W3) :
    RB (W3.setCell ⟨q, 0, none⟩ (.slice a' (R.length + 1) c')) B q (R ++ [k]) Ps ∧ Kept (FR W B) W (W3.setCell ⟨q, 0, none⟩ (.slice a' (R.length + 1) c')) := by
  have hl : (R ++ [k]).length = R.length + 1 := by simp
  have hq3 := h.here.kept k3 (h.row.notOwn h.here (by decide))
  have hp3 : Row cPr 75 2 W3 B (.slice a2 Ps.length c2) Ps := h.prs.keptF k3 (fun z ez f => by
    obtain ⟨cur, hc⟩ := h.prs.block ez
    exact h.row.notOwn (b := z) (cs := cur) hc (by decide) f)
  have k4 : Kept (fun z => z = q) W3 (W3.setCell ⟨q, 0, none⟩ (.slice a' (R.length + 1) c')) := Kept.setCell (F := fun z => z = q) (Kept.refl _ _) _ (.inl rfl) _
  refine ⟨⟨a', c', a2, c2, h.base, by rw [hl]; simpa using hq3.set_ 0 (.slice a' (R.length + 1) c'), by rw [hl]; exact hr.keptF k4 (fun z ez f => hr.notOwn hq3 (by decide) (f ▸ ez)), hp3.keptF k4 (fun z ez f => hp3.notOwn hq3 (by decide) (f ▸ ez))⟩, (k3.mono (fun z hz ez => ?_)).trans k4 (fun z _ ez => ?_)⟩
  · obtain ⟨cur, hc⟩ := h.row.block ez
    exact ⟨h.low1 ez, _, _, _, hc, .inr (.inl rfl)⟩
  · rw [ez]; exact ⟨h.base, _, _, _, h.here, .inl rfl⟩
theorem RBs.pushPair {B : Nat} {a1 a2 : Option Addr} {c1 c2 : Nat} (h : RBs W B q R Ps a1 c1 a2 c2) {x : ByteArray × Int} {W3 : World} {a' : Option Addr} {c' : Nat} (hr : Row cPr 75 2 W3 B (.slice a' (Ps.length + 1) c') (Ps ++ [x])) (k3 : Kept (fun z => (Value.slice a2 Ps.length c2).ownBlock = some z) W W3) :
    RB (W3.setCell ⟨q, 1, none⟩ (.slice a' (Ps.length + 1) c')) B q R (Ps ++ [x]) ∧ Kept (FR W B) W (W3.setCell ⟨q, 1, none⟩ (.slice a' (Ps.length + 1) c')) := by
  have hl : (Ps ++ [x]).length = Ps.length + 1 := by simp
  have hq3 := h.here.kept k3 (h.prs.notOwn h.here (by decide))
  have hp3 : Row cKP 9 1 W3 B (.slice a1 R.length c1) R := h.row.keptF k3 (fun z ez f => by
    obtain ⟨cur, hc⟩ := h.row.block ez
    exact h.prs.notOwn (b := z) (cs := cur) hc (by decide) f)
  have k4 : Kept (fun z => z = q) W3 (W3.setCell ⟨q, 1, none⟩ (.slice a' (Ps.length + 1) c')) := Kept.setCell (F := fun z => z = q) (Kept.refl _ _) _ (.inl rfl) _
  refine ⟨⟨a1, c1, a', c', h.base, by rw [hl]; simpa using hq3.set_ 1 (.slice a' (Ps.length + 1) c'), hp3.keptF k4 (fun z ez f => hp3.notOwn hq3 (by decide) (f ▸ ez)), by rw [hl]; exact hr.keptF k4 (fun z ez f => hr.notOwn hq3 (by decide) (f ▸ ez))⟩, (k3.mono (fun z hz ez => ?_)).trans k4 (fun z _ ez => ?_)⟩
  · obtain ⟨cur, hc⟩ := h.prs.block ez
    exact ⟨h.low2 ez, _, _, _, hc, .inr (.inr rfl)⟩
  · rw [ez]; exact ⟨h.base, _, _, _, h.here, .inl rfl⟩
end
end Go.Proofs.Ytodghgeghpbdlaa
