/- Rows of facts: one more, one less. -/
import Derived.Test.YthiijlngoikhkaaOWholeM
import Derived.Laws.OwnMore
import Derived.Deep.RegionLaw
namespace Go.Proofs.Ythiijlngoikhkaa
open Go.RowKit Go.Maps
set_option maxRecDepth 100000

/-- append as one step of a region that draws, by an equation on its run. -/
theorem step_append_run {P : Program} {ops : Array Oper} {o : Oper} {a : Act} {w : World} {K : Act → World → Prop} {Q : Exit → Act → World → Prop} {E' : Prop} (hgd : o.guard = none) (s x : Operand) (t : TypeId)
    (ho : o.op = .call { callee := .builtin .append, args := #[s, x], argTypes := #[t, t] }) (v y : Value) (hs : a.eval s = v) (hx : a.eval x = y) {v' : Value} {w' : World}
    (hr : (Builtin.append_ #[t, t] o.type #[v, y]).run P w = .ok v' w') (h : K (a.put o.dst v') w') : if Region.wanted o (yielded ops a.tmps) = true then Oper.wp P o a w K Q else E' := by
  rw [if_pos (by simp [Region.wanted, hgd])]
  unfold Oper.wp execOp
  simp only [ho, resolve, invoke, builtin, Sem.run_bind, Sem.run_pure, Result.andThen_ok, List.map_toArray, List.map_cons, List.map_nil, hs, hx, hr]
  exact h
theorem infoF : (Try.prog.info? 51).map (fun i => (i.zero, i.size, i.bytes)) = some (some (.agg #[.int .i64 0, .int .i64 0, .int .i64 0, .int .i64 0]), 4, 32) := by kernel_rfl
theorem elsF : Els Try.prog 32 51 4 := Els.of Try.underlying32 infoF rfl (by decide) (by decide)
theorem infoI : (Try.prog.info? 3).map (fun i => (i.zero, i.size, i.bytes)) = some (some (.int .i64 0), 1, 8) := by kernel_rfl
theorem elsN : Els Try.prog 59 3 1 := Els.of Try.underlying59 infoI rfl (by decide) (by decide)
/-- One element more: what may turn is the row's own block. -/
theorem Row.pushO {α : Type} {cells : α → List Value} {e : TypeId} {size B : Nat} {l : List α} {P : Program} {t : TypeId} (T : Els P t e size) (hsz : ∀ x, (cells x).length = size) (h1 : ∀ x, ∀ u ∈ cells x, u.oneCell' = true) (ty : TypeId) {wr : World} {n cap : Nat} {a : Option Addr} (h : Row cells e size wr B (.slice a n cap) l) (hn : n = l.length) (hl : l.length ≤ 5000) (hB : B ≤ wr.heap.size) (x : α) (cs : Array Value) (hcs : cs.toList = cells x) :
    ∃ a' cap' w', (Builtin.append_ #[t, t] ty #[.slice a n cap, .slice (some ⟨wr.heap.size, 0, none⟩) 1 1]).run P (wr.alloc (.cells cs e)) = .ok (.slice a' (n + 1) cap') w' ∧
      Row cells e size w' B (.slice a' (n + 1) cap') (l ++ [x]) ∧ Kept (fun k => (Value.slice a n cap).ownBlock = some k) wr w' ∧ ∀ b, (Value.slice a' (n + 1) cap').ownBlock = some b → (Value.slice a n cap).ownBlock = some b ∨ wr.heap.size ≤ b := by
  subst hn
  have h2 : Row cells e size (wr.alloc (.cells cs e)) B (.slice a l.length cap) l := h.keptN ((Kept.refl _ _).alloc _)
  obtain ⟨v', w', r, o, k, hor⟩ := append_any T ty h2 (At.lit wr e cs (cells x) hcs) (by rw [hsz, Nat.one_mul]) (h1 x) (by omega) (by simp; omega)
  have o2 : Row cells e size w' B v' (l ++ [x]) := by simpa [Row] using o
  obtain ⟨a', cap', e⟩ := o2.shape
  rw [List.length_append] at e
  subst e
  refine ⟨a', cap', w', r, o2, ((Kept.refl _ _).alloc _).trans k (fun i _ e => e), fun b hb => ?_⟩
  rcases hor with hor | hor
  · exact .inl (hor ▸ hb)
  · have := hor.symm.trans hb
    injection this with this
    right
    rw [← this]; simp
/-- Some of a row's elements. -/
theorem In.part {α : Type} {cells : α → List Value} {size : Nat} {w : World} {b o len : Nat} {xs : List α} (h : In cells size w (some ⟨b, o, none⟩) len xs) (i m : Nat) (hm : i + m ≤ len) : In cells size w (some ⟨b, o + i * size, none⟩) m ((xs.drop i).take m) := by
  refine ⟨by rw [List.length_take, List.length_drop, h.1]; omega, ?_⟩
  rcases Nat.eq_zero_or_pos m with e | hpos
  · exact .inl e
  rcases h.2 with e | ⟨b', o', e, hb, hc⟩
  · omega
  · cases e
    refine .inr ⟨b, o + i * size, rfl, hb, fun j x k v hj hk => ?_⟩
    have hj' : xs[i + j]? = some x := by
      rw [List.getElem?_take] at hj
      split at hj
      · rwa [List.getElem?_drop] at hj
      · cases hj
    have := hc (i + j) x k v hj' hk
    rw [Nat.add_mul, ← Nat.add_assoc] at this
    exact this
theorem Row.addr {α : Type} {cells : α → List Value} {e : TypeId} {size B n c : Nat} {l : List α} {w : World} {a : Option Addr} (h : Row cells e size w B (.slice a n c) l) (hn : 0 < n) : ∃ g, a = some ⟨g, 0, none⟩ ∧ n ≤ c ∧ c ≤ maxLen := by
  rcases h.2 with ⟨e1, e0⟩ | ⟨g, cap, cur, e1, _, _, h1, h2, _⟩
  · cases e1; omega
  · cases e1; exact ⟨g, rfl, h1, h2⟩
theorem less_row {w : World} {B g n n3 i1 cap q : Nat} {fs : List F4} (h : Row cF 51 4 w B (.slice (some ⟨g, 0, none⟩) n3 cap) fs) (hn3 : n3 = n + 1) (hi1 : i1 = q + 1) (hq : q ≤ n) (hn : n ≤ 5000) (X : Addr) (c2 : Nat) (hX : X = ⟨g, i1 * 4, none⟩ ∨ n3 = i1) :
    ∃ a1 c1 w1 a3 c3 w3, (Builtin.append_ #[32, 32] 32 #[.slice (some ⟨w.heap.size, 0, none⟩) 0 0, .slice (some ⟨g, 0, none⟩) q cap]).run Try.prog (w.alloc (.cells #[] 51)) = .ok (.slice a1 q c1) w1 ∧
      (Builtin.append_ #[32, 32] 32 #[.slice a1 q c1, .slice (some X) (n3 - i1) c2]).run Try.prog w1 = .ok (.slice a3 n c3) w3 ∧
      Row cF 51 4 w3 w.heap.size (.slice a3 n c3) (fs.take q ++ fs.drop (q + 1)) ∧ Kept Nil w w3 := by
  subst hn3 hi1
  have e0 : n + 1 - (q + 1) = n - q := by omega
  rw [e0]
  have hIn : In cF 4 w (some ⟨g, 0, none⟩) (n + 1) fs := h.toIn cF_len (by decide)
  have hlen := hIn.1
  have r0 : Row cF 51 4 (w.alloc (.cells #[] 51)) w.heap.size (.slice (some ⟨w.heap.size, 0, none⟩) 0 0) [] := World.ownsRow_lit (e := 51) (size := 4) w #[] 0 (Nat.le_refl _) (by decide) rfl
  have hIn0 := hIn.kept ((Kept.refl Nil w).alloc (.cells #[] 51))
  have p1 := hIn0.part 0 q (by omega)
  rw [Nat.zero_mul, Nat.add_zero, List.drop_zero] at p1
  have hl1 : (fs.take q).length = q := by rw [List.length_take]; omega
  obtain ⟨v1, w1, e1, o1, k1, h1⟩ := append_any elsF 32 r0 (p1.toAt (cap := cap) cF_len (by decide)) (by rw [flat_len cF_len, hl1]) (fun u hu => by obtain ⟨x, _, hx⟩ := List.mem_flatMap.1 hu; exact cF_one x u hx) (by show 0 + q ≤ 20000; omega) (by simp)
  have R1 : Row cF 51 4 w1 w.heap.size v1 (fs.take q) := by
    show w1.ownsRow w.heap.size 51 4 v1 (fs.take q).length ((fs.take q).flatMap cF)
    have := o1
    simp only [List.length_nil, List.flatMap_nil, List.nil_append, Nat.zero_add] at this
    rwa [hl1]
  have K1 : Kept Nil w w1 := ((Kept.refl Nil w).alloc (.cells #[] 51)).trans k1 (fun i hi e => by
    cases e; exact absurd hi (Nat.lt_irrefl _))
  obtain ⟨a1, c1, rfl⟩ := R1.shape
  have R1' := R1
  rw [hl1] at R1 e1
  have hIn1 := hIn.kept K1
  have p2 : In cF 4 w1 (some X) (n - q) (fs.drop (q + 1)) := by
    rcases hX with rfl | hX
    · have := hIn1.part (q + 1) (n - q) (by omega)
      rw [Nat.zero_add, List.take_of_length_le (by rw [List.length_drop]; omega)] at this
      exact this
    · exact ⟨by rw [List.length_drop]; omega, .inl (by omega)⟩
  have hB1 : w.heap.size ≤ w1.heap.size := K1.size
  obtain ⟨v3, w3, e3, o3, k3, h3⟩ := append_any elsF 32 R1' (p2.toAt (cap := c2) cF_len (by decide)) (by rw [flat_len cF_len, p2.1]) (fun u hu => by obtain ⟨x, _, hx⟩ := List.mem_flatMap.1 hu; exact cF_one x u hx) (by rw [hl1]; omega) hB1
  have R3 : Row cF 51 4 w3 w.heap.size v3 (fs.take q ++ fs.drop (q + 1)) := by
    show w3.ownsRow w.heap.size 51 4 v3 (fs.take q ++ fs.drop (q + 1)).length ((fs.take q ++ fs.drop (q + 1)).flatMap cF)
    rw [List.length_append, p2.1, List.flatMap_append]
    exact o3
  have hl3 : (fs.take q ++ fs.drop (q + 1)).length = n := by rw [List.length_append, hl1, p2.1]; omega
  obtain ⟨a3, c3, rfl⟩ := R3.shape
  rw [hl3] at R3 e3
  rw [hl1] at e3
  refine ⟨a1, c1, w1, a3, c3, w3, e1, e3, R3, K1.trans k3 (fun i hi e => absurd hi (Nat.not_lt.2 (R1'.lt i e).1))⟩
end Go.Proofs.Ythiijlngoikhkaa
