/- Blocks (block.Blocks[string,int]): the state of a walk over owners. -/
import Derived.Test.YtodghgeghpbdlaaBpM
import Derived.Test.YtodghgeghpbdlaaBTell
namespace Go.Proofs.Ytodghgeghpbdlaa
open Go.RowKit Go.Maps Go.WideMaps
attribute [local go_sem] Oper.semAt_some
set_option maxRecDepth 100000

def cKP (k : ByteArray) : List Value := [.string k]
theorem cKP_len (k : ByteArray) : (cKP k).length = 1 := rfl
theorem cKP_one (k : ByteArray) : ∀ u ∈ cKP k, u.oneCell' = true := fun u hu => by
  simp only [cKP, List.mem_cons, List.not_mem_nil, or_false] at hu
  subst hu; rfl
theorem elsP : Els Try.prog 62 9 1 := ⟨Try.underlying62, ⟨_, _, _, rfl, rfl, rfl, rfl, by kernel_rfl, by decide +kernel⟩, by decide⟩
theorem row_le_p {w : World} {B p : Nat} {m : Value} {g : Nat → Nat} {row : List Nat} {vals : List (ByteArray × Option Nat)} (h : LstP w B p m g row vals) : row.length ≤ vals.length := by
  have h6 := nodup_le (ks := 0 :: row) (l := List.range (vals.length + 1)) (List.nodup_cons.2 ⟨h.zero, h.nodup⟩) (fun x hx => by
    rcases List.mem_cons.1 hx with rfl | hx
    · exact List.mem_range.2 (by omega)
    · have := h.range x hx; exact List.mem_range.2 (by omega))
  simp at h6
  exact h6
/-- The loop's state. -/
structure ThP (w : World) (b3 b5 bs p : Nat) (fv : Value) (R : List ByteArray) (f : ByteArray → Bool) (pre : List (Nat × (ByteArray × Option Nat))) (W : World) : Prop where
  k : Kept Nil w W
  le : pre.length ≤ R.length
  low : w.heap.size ≤ b5
  fn : Blk W b3 148 #[fv]
  out : ∃ a n cap, Blk W b5 62 #[.slice a n cap] ∧ Row cKP 9 1 W w.heap.size (.slice a n cap) ((R.take pre.length).filter f)
  box : Blk W bs 132 #[.pointer (some ⟨p, 0, none⟩)]
section
variable {w : World} {R : List ByteArray} {b3 b5 bs p : Nat} {fv : Value} {f : ByteArray → Bool} {pre : List (Nat × (ByteArray × Option Nat))}
theorem ThP.own {B0 : Nat} (hB : w.heap.size ≤ B0) : OwnFrom B0 (ThP w b3 b5 bs p fv R f) := by
  intro pre W W' row h hg hr
  have kk := kept_of_row hg
  obtain ⟨a, n, cap, h1, h2⟩ := h.out
  refine ⟨h.k.grown hg (fun j e => .inr (Nat.le_trans hB (hr j e).1)), h.le, h.low, h.fn.kept kk (not_row hr h.fn), ⟨a, n, cap, h1.kept kk (not_row hr h1), h2.keptF kk (fun x e f => ?_)⟩, h.box.kept kk (not_row hr h.box)⟩
  obtain ⟨cur, hc⟩ := h2.block e
  exact not_row hr hc f
theorem ThP.keptN {W W' : World} (h : ThP w b3 b5 bs p fv R f pre W) (k : Kept Nil W W') : ThP w b3 b5 bs p fv R f pre W' := by
  obtain ⟨a, n, cap, h1, h2⟩ := h.out
  exact ⟨h.k.trans k (fun _ _ e => e), h.le, h.low, h.fn.kept k (fun e => e), ⟨a, n, cap, h1.kept k (fun e => e), h2.keptN k⟩, h.box.kept k (fun e => e)⟩
theorem ThP.skip {W : World} (h : ThP w b3 b5 bs p fv R f pre W) {x : Nat × (ByteArray × Option Nat)} {k : ByteArray} (hk : R[pre.length]? = some k) (hf : f k = false) : ThP w b3 b5 bs p fv R f (pre ++ [x]) W := by
  obtain ⟨a, n, cap, h1, h2⟩ := h.out
  have hlt := (List.getElem?_eq_some_iff.1 hk).1
  refine ⟨h.k, by simp; omega, h.low, h.fn, ⟨a, n, cap, h1, ?_⟩, h.box⟩
  have e : (R.take (pre ++ [x]).length).filter f = (R.take pre.length).filter f := by
    rw [List.length_append, List.length_singleton, List.take_add_one, hk, List.filter_append]
    simp [hf]
  rw [e]; exact h2
theorem ThP.put {W W1 W2 : World} (h : ThP w b3 b5 bs p fv R f pre W) {x : Nat × (ByteArray × Option Nat)} {k : ByteArray} (hk : R[pre.length]? = some k) (hf : f k = true) (k1 : Kept Nil W W1) {a : Option Addr} {n cap : Nat} (h5 : Blk W b5 62 #[.slice a n cap]) (hr : Row cKP 9 1 W w.heap.size (.slice a n cap) ((R.take pre.length).filter f))
    {a' : Option Addr} {cap' : Nat} (hR : Row cKP 9 1 W2 w.heap.size (.slice a' (n + 1) cap') ((R.take pre.length).filter f ++ [k])) (k9 : Kept (fun j => (Value.slice a n cap).ownBlock = some j) W1 W2) {B0 : Nat} :
    KeepsFrom B0 W (W2.setCell ⟨b5, 0, none⟩ (.slice a' (n + 1) cap')) ∧ ThP w b3 b5 bs p fv R f (pre ++ [x]) (W2.setCell ⟨b5, 0, none⟩ (.slice a' (n + 1) cap')) := by
  have h1 := h.keptN k1
  have h51 := h5.kept k1 (fun e => e)
  have hr1 := hr.keptN k1
  have h52 := h51.kept k9 (hr1.notOwn h51 (by decide))
  have kF : Kept (fun j => (Value.slice a n cap).ownBlock = some j ∨ j = b5) W (W2.setCell ⟨b5, 0, none⟩ (.slice a' (n + 1) cap')) :=
    Kept.setCell (F := fun j => (Value.slice a n cap).ownBlock = some j ∨ j = b5) ((k1.mono (fun _ _ e => e.elim)).trans k9 (fun _ _ e => .inl e)) _ (.inl (.inr rfl)) _
  have hlow : ∀ j, (Value.slice a n cap).ownBlock = some j → w.heap.size ≤ j := fun j e => by
    rcases hr.2 with ⟨e2, _⟩ | ⟨g, c, cur, e2, hb, _⟩
    · rw [e2] at e; cases e
    · rw [e2] at e; cases e; exact hb
  have hlt := (List.getElem?_eq_some_iff.1 hk).1
  have k5 : Kept (fun j => j = b5) W2 (W2.setCell ⟨b5, 0, none⟩ (.slice a' (n + 1) cap')) := Kept.setCell (F := fun j => j = b5) (Kept.refl _ _) _ (.inl rfl) _
  refine ⟨kF.keepsC (fun b e => ?_), h.k.trans kF (fun i hi e => ?_), by simp; omega, h.low, h.fn.kept kF (fun e => ?_), ⟨a', n + 1, cap', by simpa using h52.set_ 0 (.slice a' (n + 1) cap'), ?_⟩, h.box.kept kF (fun e => ?_)⟩
  · rcases e with e | e
    · obtain ⟨cur, hc⟩ := hr.block e
      exact ⟨_, _, _, hc⟩
    · rw [e]; exact ⟨_, _, _, h5⟩
  · rcases e with e | e
    · have := hlow i e; omega
    · have := h.low; omega
  · rcases e with e | e
    · exact hr.notOwn h.fn (by decide) e
    · have := h.fn
      unfold Blk at this h5
      rw [e, h5] at this
      simp at this
  · have e : (R.take (pre ++ [x]).length).filter f = (R.take pre.length).filter f ++ [k] := by
      rw [List.length_append, List.length_singleton, List.take_add_one, hk, List.filter_append]
      simp [hf]
    rw [e]
    exact hR.keptF k5 (fun j e2 e3 => hR.notOwn h52 (by decide) (e3 ▸ e2))
  · rcases e with e | e
    · exact hr.notOwn h.box (by decide) e
    · have := h.box
      unfold Blk at this h5
      rw [e, h5] at this
      simp at this
end
end Go.Proofs.Ytodghgeghpbdlaa
