/- Elements that lie at a slice, whatever their cells are (XWIn without facts: for every later layer). No program. -/
import Derived.Test.YtkffcpjaciomjaaDoorEls
namespace Go.Proofs.YtkffcpjaciomjaaDoor
open Go.RowKit

/-- Elements that lie at a slice. -/
def In {α : Type} (cells : α → List Value) (size : Nat) (w : World) (a : Option Addr) (len : Nat) (xs : List α) : Prop :=
  xs.length = len ∧ (len = 0 ∨ ∃ b off, a = some ⟨b, off, none⟩ ∧ b < w.heap.size ∧ ∀ j x i v, xs[j]? = some x → (cells x)[i]? = some v → w.cell? ⟨b, off + j * size + i, none⟩ = some v)
/-- A number's cells. -/
def cN (x : Int) : List Value := [.int .i64 x]
section
variable {α : Type} {cells : α → List Value} {size : Nat} {w w' : World} {a : Option Addr} {len cap : Nat} {xs : List α}
theorem In.kept (h : In cells size w a len xs) (hk : Kept Nil w w') : In cells size w' a len xs :=
  ⟨h.1, h.2.imp id fun ⟨b, off, e, hb, hc⟩ => ⟨b, off, e, Nat.lt_of_lt_of_le hb hk.size, fun j x i v hj hi => (hk.cell (p := ⟨b, off + j * size + i, none⟩) hb (fun e => e)).trans (hc j x i v hj hi)⟩⟩
/-- .. where the block that they lie in stays. -/
theorem In.keptF {F : Nat → Prop} (h : In cells size w a len xs) (hk : Kept F w w') (hF : ∀ b, (Value.slice a len cap).ownBlock = some b → ¬ F b) : In cells size w' a len xs :=
  ⟨h.1, h.2.imp id fun ⟨b, off, e, hb, hc⟩ => ⟨b, off, e, Nat.lt_of_lt_of_le hb hk.size, fun j x i v hj hi => (hk.cell (p := ⟨b, off + j * size + i, none⟩) hb (hF b (by rw [e]; rfl))).trans (hc j x i v hj hi)⟩⟩
theorem In.at_ (h : In cells size w a len xs) {j : Nat} {x : α} (hj : xs[j]? = some x) : ∃ b off, a = some ⟨b, off, none⟩ ∧ b < w.heap.size ∧ ∀ i v, (cells x)[i]? = some v → w.cell? ⟨b, off + j * size + i, none⟩ = some v := by
  rcases h.2 with e | ⟨b, off, e, hb, hc⟩
  · have := h.1
    rw [e] at this
    rw [List.length_eq_zero_iff.1 this] at hj; cases hj
  · exact ⟨b, off, e, hb, fun i v hi => hc j x i v hj hi⟩
theorem flat_len (hsz : ∀ x, (cells x).length = size) : ∀ l : List α, (l.flatMap cells).length = l.length * size
  | [] => by simp
  | x :: r => by rw [List.flatMap_cons, List.length_append, hsz, flat_len hsz r, List.length_cons, Nat.add_mul]; omega
theorem flat_get (hsz : ∀ x, (cells x).length = size) : ∀ (l : List α) (i j : Nat) (x : α), l[i]? = some x → j < size → (l.flatMap cells)[i * size + j]? = (cells x)[j]?
  | [], i, j, x, h, _ => by simp at h
  | y :: r, 0, j, x, h, hj => by
    simp only [List.getElem?_cons_zero, Option.some.injEq] at h
    subst h
    rw [List.flatMap_cons, Nat.zero_mul, Nat.zero_add, List.getElem?_append_left (by rw [hsz]; exact hj)]
  | y :: r, i + 1, j, x, h, hj => by
    rw [List.flatMap_cons, List.getElem?_append_right (by rw [hsz, Nat.add_mul]; omega), hsz, show (i + 1) * size + j - size = i * size + j by rw [Nat.add_mul]; omega]
    exact flat_get hsz r i j x (by simpa using h) hj
theorem In.toAt (h : In cells size w a len xs) (hsz : ∀ x, (cells x).length = size) (hs : 0 < size) : At w (.slice a len cap) len (xs.flatMap cells) := by
  refine ⟨a, cap, rfl, ?_⟩
  rcases h.2 with e | ⟨b, off, e, hb, hc⟩
  · left
    have := h.1
    rw [e] at this
    rw [List.length_eq_zero_iff.1 this]; rfl
  · refine .inr ⟨b, off, e, fun j v hj => ?_⟩
    have hl := (List.getElem?_eq_some_iff.1 hj).1
    rw [flat_len hsz] at hl
    have hd : j / size < xs.length := Nat.div_lt_of_lt_mul (by rw [Nat.mul_comm]; exact hl)
    obtain ⟨x, hx⟩ : ∃ x, xs[j / size]? = some x := ⟨_, List.getElem?_eq_getElem hd⟩
    have hm : j % size < size := Nat.mod_lt _ hs
    have e2 : j / size * size + j % size = j := by rw [Nat.mul_comm]; exact Nat.div_add_mod j size
    have := flat_get hsz xs (j / size) (j % size) x hx hm
    rw [e2, hj] at this
    have := hc _ x _ v hx this.symm
    rwa [Nat.add_assoc, e2] at this
/-- A row of a call's own. -/
theorem In.own {B : Nat} {e : TypeId} (h : w.ownsRow B e size (.slice a len cap) len (xs.flatMap cells)) (hsz : ∀ x, (cells x).length = size) (hs : 0 < size) : In cells size w a len xs := by
  have hl : xs.length = len := by
    have := h.1
    rw [flat_len hsz] at this
    exact Nat.eq_of_mul_eq_mul_right hs this
  refine ⟨hl, ?_⟩
  rcases h.2 with ⟨e1, e0⟩ | ⟨g, c, cur, e1, hb, hg, _⟩
  · exact .inl e0
  · cases e1
    refine .inr ⟨g, 0, rfl, (Array.getElem?_eq_some_iff.1 hg).1, fun j x i v hj hi => ?_⟩
    have hi' : i < size := by rw [← hsz x]; exact (List.getElem?_eq_some_iff.1 hi).1
    have := h.cells (g := g) rfl (j * size + i) v (by rw [flat_get hsz xs j i x hj hi']; exact hi)
    rw [Addr.add_mid] at this
    rw [Nat.add_assoc]
    exact this
end
theorem cN_len (x : Int) : (cN x).length = 1 := rfl
theorem cN_one (x : Int) : ∀ v ∈ cN x, v.oneCell' = true := fun v hv => by
  simp only [cN, List.mem_cons, List.not_mem_nil, or_false] at hv
  subst hv; rfl
theorem flatN_one (l : List Int) : ∀ u ∈ l.flatMap cN, u.oneCell' = true := by
  intro u hu
  obtain ⟨x, _, hx⟩ := List.mem_flatMap.1 hu
  exact cN_one x u hx
/-- A row of a call's own that holds elements. -/
def Row {α : Type} (cells : α → List Value) (e : TypeId) (size : Nat) (w : World) (B : Nat) (v : Value) (l : List α) : Prop := w.ownsRow B e size v l.length (l.flatMap cells)
section
variable {α : Type} {cells : α → List Value} {e : TypeId} {size : Nat} {w w' : World} {B : Nat} {v : Value} {l : List α}
theorem Row.shape (h : Row cells e size w B v l) : ∃ a cap, v = .slice a l.length cap := by
  rcases h.2 with ⟨e, e0⟩ | ⟨g, cap, cur, e, _⟩
  · exact ⟨none, 0, by rw [e, e0]⟩
  · exact ⟨_, _, e⟩
theorem Row.nil (w : World) (B : Nat) : Row cells e size w B (.slice none 0 0) [] := World.ownsRow_nil _ _ _ _
theorem Row.keptN (h : Row cells e size w B v l) (k : Kept Nil w w') : Row cells e size w' B v l := k.row h (fun _ _ g => g)
theorem Row.keptF {F : Nat → Prop} (h : Row cells e size w B v l) (k : Kept F w w') (hF : ∀ b, v.ownBlock = some b → ¬ F b) : Row cells e size w' B v l := k.row h hF
theorem Row.down {B' : Nat} (h : Row cells e size w B v l) (hB : B' ≤ B) : Row cells e size w B' v l := by
  refine ⟨h.1, ?_⟩
  rcases h.2 with e | ⟨g, cap, cur, e, hb, rest⟩
  · exact .inl e
  · exact .inr ⟨g, cap, cur, e, Nat.le_trans hB hb, rest⟩
theorem Row.block (h : Row cells e size w B v l) {k : Nat} (hk : v.ownBlock = some k) : ∃ cur, w.heap[k]? = some (.cells cur e (0, 0)) := by
  rcases h.2 with ⟨rfl, _⟩ | ⟨g, cap, cur, rfl, _, hg, _⟩
  · cases hk
  · cases hk; exact ⟨cur, hg⟩
theorem Row.toIn {a : Option Addr} {n cap : Nat} (h : Row cells e size w B (.slice a n cap) l) (hsz : ∀ x, (cells x).length = size) (hs : 0 < size) : In cells size w a n l := by
  obtain ⟨a', c', e'⟩ := h.shape
  have hn : n = l.length := by injection e'
  have h' := h
  unfold Row at h'
  rw [← hn] at h'
  exact In.own h' hsz hs
/-- One element more, out of a literal in new memory. -/
theorem Row.push {P : Program} {t : TypeId} (T : Els P t e size) (hsz : ∀ x, (cells x).length = size) (h1 : ∀ x, ∀ u ∈ cells x, u.oneCell' = true) (ty : TypeId) {wr : World} {n cap : Nat} {a : Option Addr} (hk : Kept Nil w wr) (h : Row cells e size wr w.heap.size (.slice a n cap) l) (hn : n = l.length) (hl : l.length ≤ 5000) (x : α) (cs : Array Value) (hcs : cs.toList = cells x) :
    ∃ a' cap' w', (Builtin.append_ #[t, t] ty #[.slice a n cap, .slice (some ⟨wr.heap.size, 0, none⟩) 1 1]).run P (wr.alloc (.cells cs e)) = .ok (.slice a' (n + 1) cap') w' ∧
      Row cells e size w' w.heap.size (.slice a' (n + 1) cap') (l ++ [x]) ∧ Kept Nil w w' ∧ Kept (fun k => (Value.slice a n cap).ownBlock = some k) wr w' := by
  subst hn
  have h2 : Row cells e size (wr.alloc (.cells cs e)) w.heap.size (.slice a l.length cap) l := h.keptN ((Kept.refl _ _).alloc _)
  obtain ⟨v', w', r, o, k, _⟩ := append_any T ty h2 (At.lit wr e cs (cells x) hcs) (by rw [hsz, Nat.one_mul]) (h1 x) (by omega) (by simp; have := hk.size; omega)
  have o2 : Row cells e size w' w.heap.size v' (l ++ [x]) := by simpa [Row] using o
  obtain ⟨a', cap', e⟩ := o2.shape
  rw [List.length_append] at e
  subst e
  exact ⟨a', cap', w', r, o2, (hk.alloc _).trans k (fun i hi e => absurd (h.lt i e).1 (Nat.not_le.2 hi)), ((Kept.refl _ _).alloc _).trans k (fun _ _ e => e)⟩
/-- All that lies at a slice, behind what is there. -/
theorem Row.pushAll {P : Program} {t : TypeId} (T : Els P t e size) (hsz : ∀ x, (cells x).length = size) (h1 : ∀ x, ∀ u ∈ cells x, u.oneCell' = true) (hs : 0 < size) (ty : TypeId) {wr : World} {n cap : Nat} {a : Option Addr} (hk : Kept Nil w wr) (h : Row cells e size wr w.heap.size (.slice a n cap) l) (hn : n = l.length) (hl : l.length ≤ 5000)
    {a2 : Option Addr} {n2 c2 : Nat} {l2 : List α} (h2 : In cells size wr a2 n2 l2) (hl2 : l2.length ≤ 5000) :
    ∃ a' cap' w', (Builtin.append_ #[t, t] ty #[.slice a n cap, .slice a2 n2 c2]).run P wr = .ok (.slice a' (n + n2) cap') w' ∧
      Row cells e size w' w.heap.size (.slice a' (n + n2) cap') (l ++ l2) ∧ Kept Nil w w' ∧ Kept (fun k => (Value.slice a n cap).ownBlock = some k) wr w' := by
  subst hn
  obtain ⟨v', w', r, o, k, _⟩ := append_any T ty h (h2.toAt (cap := c2) hsz hs) (by rw [flat_len hsz, h2.1]) (fun u hu => by obtain ⟨x, _, hx⟩ := List.mem_flatMap.1 hu; exact h1 x u hx) (by have := h2.1; omega) hk.size
  have o2 : Row cells e size w' w.heap.size v' (l ++ l2) := by
    have := h2.1
    subst this
    simpa [Row] using o
  obtain ⟨a', cap', e⟩ := o2.shape
  rw [List.length_append, h2.1] at e
  subst e
  exact ⟨a', cap', w', r, o2, hk.trans k (fun i hi e => absurd (h.lt i e).1 (Nat.not_le.2 hi)), k⟩
end
end Go.Proofs.YtkffcpjaciomjaaDoor
