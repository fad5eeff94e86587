/- Rows of a call's own that grow beside each other: whose block each lies in. No program. -/
import Derived.Test.YtodghgeghpbdlaaBIn
namespace Go.Proofs.Ytodghgeghpbdlaa
open Go.RowKit
set_option maxRecDepth 100000

section
variable {α : Type} {cells : α → List Value} {e : TypeId} {size : Nat} {w w' : World} {B : Nat} {l : List α}
/-- A row of one element, in a literal's new memory. -/
theorem Row.lit1 (w : World) (x : α) (cs : Array Value) (hcs : cs.toList = cells x) (hsz : (cells x).length = size) : Row cells e size (w.alloc (.cells cs e)) w.heap.size (.slice (some ⟨w.heap.size, 0, none⟩) 1 1) [x] := by
  have hc : cs.size = size := by rw [← hsz, ← hcs]; simp
  refine ⟨by simp [hsz], .inr ⟨w.heap.size, 1, cs, rfl, Nat.le_refl _, Blk.new w e cs, by simp, by unfold maxLen; omega, by omega, ?_⟩⟩
  rw [List.flatMap_cons, List.flatMap_nil, List.append_nil, ← hcs, List.length_singleton, Nat.one_mul, List.take_of_length_le (by simp [hc])]
/-- One element more; and whose block the row lies in then. -/
theorem Row.push2 {P : Program} {t : TypeId} (T : Els P t e size) (hsz : ∀ x, (cells x).length = size) (h1 : ∀ x, ∀ u ∈ cells x, u.oneCell' = true) (ty : TypeId) {wr : World} {n cap : Nat} {a : Option Addr} (hB : B ≤ wr.heap.size) (h : Row cells e size wr B (.slice a n cap) l) (hl : l.length ≤ 5000) (x : α) (cs : Array Value) (hcs : cs.toList = cells x) :
    ∃ a' cap' w', (Builtin.append_ #[t, t] ty #[.slice a n cap, .slice (some ⟨wr.heap.size, 0, none⟩) 1 1]).run P (wr.alloc (.cells cs e)) = .ok (.slice a' (n + 1) cap') w' ∧
      Row cells e size w' B (.slice a' (n + 1) cap') (l ++ [x]) ∧ Kept (fun k => (Value.slice a n cap).ownBlock = some k) wr w' ∧ ∀ b, (Value.slice a' (n + 1) cap').ownBlock = some b → (Value.slice a n cap).ownBlock = some b ∨ wr.heap.size ≤ b := by
  obtain ⟨a0, c0, e0⟩ := h.shape
  have hn : n = l.length := by injection e0
  subst hn
  have h2 : Row cells e size (wr.alloc (.cells cs e)) B (.slice a l.length cap) l := h.keptN ((Kept.refl _ _).alloc _)
  obtain ⟨v', w', r, o, k, hv⟩ := append_any T ty h2 (At.lit wr e cs (cells x) hcs) (by rw [hsz, Nat.one_mul]) (h1 x) (by omega) (by simp; omega)
  have o2 : Row cells e size w' B v' (l ++ [x]) := by simpa [Row] using o
  obtain ⟨a', cap', e⟩ := o2.shape
  rw [List.length_append] at e
  subst e
  refine ⟨a', cap', w', r, o2, ((Kept.refl _ _).alloc _).trans k (fun _ _ e => e), fun b hb => ?_⟩
  rcases hv with hv | hv
  · left; rw [← hv]; exact hb
  · right
    have e := hv.symm.trans hb
    have e2 := Option.some.inj e
    simp at e2
    omega
/-- All that lies at a slice, behind what is there. -/
theorem Row.pushAll2 {P : Program} {t : TypeId} (T : Els P t e size) (hsz : ∀ x, (cells x).length = size) (h1 : ∀ x, ∀ u ∈ cells x, u.oneCell' = true) (hs : 0 < size) (ty : TypeId) {wr : World} {n cap : Nat} {a : Option Addr} (hB : B ≤ wr.heap.size) (h : Row cells e size wr B (.slice a n cap) l) (hl : l.length ≤ 5000)
    {a2 : Option Addr} {n2 c2 : Nat} {l2 : List α} (h2 : In cells size wr a2 n2 l2) (hl2 : l2.length ≤ 5000) :
    ∃ a' cap' w', (Builtin.append_ #[t, t] ty #[.slice a n cap, .slice a2 n2 c2]).run P wr = .ok (.slice a' (n + n2) cap') w' ∧
      Row cells e size w' B (.slice a' (n + n2) cap') (l ++ l2) ∧ Kept (fun k => (Value.slice a n cap).ownBlock = some k) wr w' ∧ ∀ b, (Value.slice a' (n + n2) cap').ownBlock = some b → (Value.slice a n cap).ownBlock = some b ∨ wr.heap.size ≤ b := by
  obtain ⟨a0, c0, e0⟩ := h.shape
  have hn : n = l.length := by injection e0
  subst hn
  obtain ⟨v', w', r, o, k, hv⟩ := append_any T ty h (h2.toAt (cap := c2) hsz hs) (by rw [flat_len hsz, h2.1]) (fun u hu => by obtain ⟨x, _, hx⟩ := List.mem_flatMap.1 hu; exact h1 x u hx) (by have := h2.1; omega) hB
  have o2 : Row cells e size w' B v' (l ++ l2) := by
    have := h2.1
    subst this
    simpa [Row] using o
  obtain ⟨a', cap', e⟩ := o2.shape
  rw [List.length_append, h2.1] at e
  subst e
  refine ⟨a', cap', w', r, o2, k, fun b hb => ?_⟩
  rcases hv with hv | hv
  · left; rw [← hv]; exact hb
  · right
    have e := Option.some.inj (hv.symm.trans hb)
    omega
theorem Row.caps {n cap : Nat} {a : Option Addr} (h : Row cells e size w B (.slice a n cap) l) : n = l.length ∧ n ≤ cap ∧ cap ≤ maxLen := by
  rcases h.2 with ⟨e, e0⟩ | ⟨g, c, cur, e, _, _, hn, hm, _⟩
  · injection e with _ e1 e2; subst e1 e2; exact ⟨e0.symm, Nat.le_refl _, Nat.zero_le _⟩
  · injection e with _ e1 e2; subst e1 e2; exact ⟨rfl, hn, hm⟩
/-- The row without its last element. -/
theorem Row.init {n cap : Nat} {a : Option Addr} {x : α} (hsz : ∀ x, (cells x).length = size) (h : Row cells e size w B (.slice a (n + 1) cap) (l ++ [x])) : Row cells e size w B (.slice a n cap) l := by
  obtain ⟨a0, c0, e0⟩ := h.shape
  have hn : n = l.length := by injection e0 with _ e0; simp at e0; exact e0
  subst hn
  unfold Row at h ⊢
  rw [List.flatMap_append, List.length_append] at h
  exact ownsRow_head h (flat_len hsz l) (by omega)
theorem Row.get {n cap : Nat} {a : Option Addr} (h : Row cells e size w B (.slice a n cap) l) (hsz : ∀ x, (cells x).length = size) (hs : 0 < size) {j : Nat} {x : α} (hj : l[j]? = some x) : ∃ b, a = some ⟨b, 0, none⟩ ∧ b < w.heap.size ∧ B ≤ b ∧ ∀ i v, (cells x)[i]? = some v → w.cell? ⟨b, j * size + i, none⟩ = some v := by
  have hI := h.toIn hsz hs
  obtain ⟨b, off, e, hb, hc⟩ := hI.at_ hj
  rcases h.2 with ⟨e1, e0⟩ | ⟨g, cap', cur, e1, hB, hg, _⟩
  · have := List.length_eq_zero_iff.1 e0
    subst this
    simp at hj
  · cases e1
    cases e
    exact ⟨_, rfl, hb, hB, fun i v hi => by have := hc i v hi; rwa [Nat.zero_add] at this⟩
end
/-! Two texts are one, or not. -/
theorem str_eq {x s : ByteArray} (h : x = s) : (x.toList == s.toList) = true := by rw [h]; exact beq_self_eq_true _
theorem str_ne {x s : ByteArray} (h : x ≠ s) : (x.toList == s.toList) = false := by
  rw [beq_eq_false_iff_ne]
  intro e
  rw [ByteArray.toList_eq, ByteArray.toList_eq] at e
  exact h (ByteArray.ext (Array.toList_inj.1 e))

end Go.Proofs.Ytodghgeghpbdlaa
