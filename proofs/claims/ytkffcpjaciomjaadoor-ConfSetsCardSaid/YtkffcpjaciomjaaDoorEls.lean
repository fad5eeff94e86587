/- append, whatever the elements are; no program. -/
import Derived.Test.YtkffcpjaciomjaaDoorBlk
import Derived.Maps.AppendAt
namespace Go.Proofs.YtkffcpjaciomjaaDoor
open Go.RowKit
set_option maxRecDepth 100000

/-! ### append, whatever the elements are -/
structure Els (P : Program) (t e : TypeId) (size : Nat) : Prop where
  ht : P.underlying t = some (.slice e)
  hi : ∃ i z bytes, P.info? e = some i ∧ i.zero = some z ∧ i.size = size ∧ i.bytes = bytes ∧ z.cells.size = size ∧ bytes ≤ 128
  hs : 0 < size
theorem Els.of {P : Program} {t e : TypeId} {size bytes : Nat} {z : Value} (ht : P.underlying t = some (.slice e)) (h : (P.info? e).map (fun i => (i.zero, i.size, i.bytes)) = some (some z, size, bytes)) (hz : z.cells.size = size) (hb : bytes ≤ 128) (hs : 0 < size) : Els P t e size := by
  obtain ⟨i, h1, h2, h3, h4⟩ := info_parts h
  exact ⟨ht, ⟨i, z, bytes, h1, h2, h3, h4, hz, hb⟩, hs⟩
/-- Cells lie at a slice. -/
def At (w : World) (v : Value) (n : Nat) (xs : List Value) : Prop := ∃ a c, v = .slice a n c ∧ (xs = [] ∨ ∃ b o, a = some ⟨b, o, none⟩ ∧ ∀ (j : Nat) x, xs[j]? = some x → w.cell? ⟨b, o + j, none⟩ = some x)
theorem At.kept {F : Nat → Prop} {w w' : World} {v : Value} {n : Nat} {xs : List Value} (h : At w v n xs) (k : Kept F w w') (hF : ∀ b, v.ownBlock = some b → ¬ F b) : At w' v n xs := by
  obtain ⟨a, c, rfl, h⟩ := h
  refine ⟨a, c, rfl, h.imp id fun ⟨b, o, e, hc⟩ => ⟨b, o, e, fun j x hj => ?_⟩⟩
  have := hc j x hj
  rw [k.cell (World.block_lt_of_cell? w _ this) (hF b (by rw [e]; rfl))]
  exact this
theorem At.keptN {w w' : World} {v : Value} {n : Nat} {xs : List Value} (h : At w v n xs) (k : Kept Nil w w') : At w' v n xs := h.kept k (fun _ _ g => g)
theorem At.shape {w : World} {v : Value} {n : Nat} {xs : List Value} (h : At w v n xs) : ∃ a c, v = .slice a n c := by obtain ⟨a, c, e, _⟩ := h; exact ⟨a, c, e⟩
theorem At.own {w : World} {B : Nat} {e : TypeId} {size n : Nat} {v : Value} {xs : List Value} (h : w.ownsRow B e size v n xs) : At w v n xs := by
  rcases h.2 with ⟨e1, e0⟩ | ⟨g, cap, cur, e1, _⟩
  · subst e0
    refine ⟨none, 0, e1, .inl ?_⟩
    have := h.1
    rw [Nat.zero_mul] at this
    exact List.length_eq_zero_iff.1 this
  · subst e1
    refine ⟨_, cap, rfl, .inr ⟨g, 0, rfl, fun j x hj => ?_⟩⟩
    have := h.cells (g := g) rfl j x hj
    rwa [Addr.add_mid] at this
/-- A literal of one element, in new memory. -/
theorem At.lit (w : World) (t : TypeId) (cs : Array Value) (xs : List Value) (hx : cs.toList = xs) : At (w.alloc (.cells cs t)) (.slice (some ⟨w.heap.size, 0, none⟩) 1 1) 1 xs :=
  ⟨_, _, rfl, .inr ⟨_, _, rfl, fun j x hj => by rw [Nat.zero_add, (Blk.new w t cs).cell j, ← hj, ← hx]; simp⟩⟩
theorem append_any {P : Program} {t e : TypeId} {size : Nat} (T : Els P t e size) (ty : TypeId) {w : World} {B : Nat} {v : Value} {n : Nat} {xs : List Value} (h : w.ownsRow B e size v n xs) {u : Value} {m : Nat} {ys : List Value} (hu : At w u m ys) (hl : ys.length = m * size) (h1 : ∀ y ∈ ys, y.oneCell' = true)
    (hle : n + m ≤ 20000) (hB : B ≤ w.heap.size) :
    ∃ v' w', (Builtin.append_ #[t, t] ty #[v, u]).run P w = .ok v' w' ∧ w'.ownsRow B e size v' (n + m) (xs ++ ys) ∧ Kept (fun k => v.ownBlock = some k) w w' ∧ (v'.ownBlock = v.ownBlock ∨ v'.ownBlock = some w.heap.size) := by
  obtain ⟨ht, ⟨i, z, bytes, hi, hz, hsz, hby, hzs, hb128⟩, hs⟩ := T
  obtain ⟨a, c, rfl, hat⟩ := hu
  have main : ∀ ad : Addr, a = some ad → (∀ j x, ys[j]? = some x → w.cell? (ad.add j) = some x) → ∃ v' w', (Builtin.append_ #[t, t] ty #[v, .slice a m c]).run P w = .ok v' w' ∧ w'.ownsRow B e size v' (n + m) (xs ++ ys) ∧ Kept (fun k => v.ownBlock = some k) w w' ∧ (v'.ownBlock = v.ownBlock ∨ v'.ownBlock = some w.heap.size) := by
    intro ad ha hnews
    subst ha
    obtain ⟨v', w', r, o, g, _, h5⟩ := run_append_own_at (P := P) w B t ty e i z size bytes ht hi hz hsz hby hzs hs v n xs h ad m c ys hl hnews h1 (by unfold maxLen; omega) (Nat.le_trans (Nat.mul_le_mul hle hb128) (by decide)) hB
    exact ⟨v', w', r, o, ⟨g.os, g.tape, g.output, g.size, fun k hk hF => g.block k hk (fun e => hF e.symm)⟩, h5⟩
  rcases hat with rfl | ⟨b, o, rfl, hc⟩
  · cases a with
    | none =>
      have hm : m = 0 := by
        rcases Nat.eq_zero_or_pos m with h | h
        · exact h
        · have := Nat.mul_pos h hs
          simp at hl; omega
      subst hm
      refine ⟨v, w, ?_, by simpa using h, Kept.refl _ _, .inl rfl⟩
      rcases h.2 with ⟨rfl, rfl⟩ | ⟨g, cap, cur, rfl, _, _, hnc, _⟩
      · simp [Builtin.append_, run_underlying ht, sizeOf, typeInfo, hi, Builtin.lenOf, Builtin.firstCells]
      · simp [Builtin.append_, run_underlying ht, sizeOf, typeInfo, hi, Builtin.lenOf, Builtin.firstCells, hnc, storeCells]
    | some ad => exact main ad rfl (fun j x hj => by simp at hj)
  · refine main _ rfl (fun j x hj => ?_)
    rw [Addr.add_mid]
    exact hc j x hj
/-- The two ways of append: in place, behind what is there; or in new memory, and nothing is written. -/
theorem append_two {P : Program} {t e : TypeId} {size : Nat} (T : Els P t e size) (ty : TypeId) {w : World} {B : Nat} {v : Value} {n : Nat} {xs : List Value} (h : w.ownsRow B e size v n xs) {a : Addr} {m c : Nat} {ys : List Value} (hl : ys.length = m * size) (hnews : ∀ j x, ys[j]? = some x → w.cell? (a.add j) = some x) (h1 : ∀ y ∈ ys, y.oneCell' = true)
    (hm : 0 < m) (hle : n + m ≤ 20000) {v' : Value} {w' : World} (r : (Builtin.append_ #[t, t] ty #[v, .slice (some a) m c]).run P w = .ok v' w') :
    (∃ g cap, v = .slice (some ⟨g, 0, none⟩) n cap ∧ v' = .slice (some ⟨g, 0, none⟩) (n + m) cap ∧ Kept (fun k => k = g) w w') ∨ (v'.ownBlock = some w.heap.size ∧ Kept Nil w w') := by
  obtain ⟨ht, ⟨i, z, bytes, hi, hz, hsz, hby, hzs, hb128⟩, hs⟩ := T
  subst hsz
  have hbytes : (n + m) * i.bytes ≤ 140737488355328 := Nat.le_trans (Nat.mul_le_mul hle (by omega)) (by decide : 20000 * 128 ≤ 140737488355328)
  rcases h.2 with ⟨rfl, rfl⟩ | ⟨g, cap, cur, rfl, hbg, hg, hnc, hcm, hcs, htake⟩
  · have r' := run_append_nil (P := P) w t ty e i z ht hi hz a m c ys hl hnews hm (by omega) (by rw [Nat.zero_add] at hbytes; omega)
    rw [r] at r'
    injection r' with e1 e2
    subst e1 e2
    exact .inr ⟨rfl, ((Kept.refl Nil w).drew).alloc _⟩
  · by_cases hroom : n + m ≤ cap
    · have hfit : n * i.size + ys.length ≤ cur.size := by rw [hl, hcs, ← Nat.add_mul]; exact Nat.mul_le_mul_right _ hroom
      have r' := run_append_room (P := P) w t ty e i ht hi g n cap cur hg a m c ys hl hnews h1 hroom hfit
      rw [r] at r'
      injection r' with e1 e2
      subst e1 e2
      exact .inl ⟨g, cap, rfl, rfl, Kept.setRow (F := fun k => k = g) (Kept.refl _ w) g (.inl rfl) _⟩
    · have holds : ∀ j u, xs[j]? = some u → w.cell? ((⟨g, 0, none⟩ : Addr).add j) = some u := h.cells (g := g) rfl
      have r' := run_append_grow (P := P) w t ty e i z ht hi hz ⟨g, 0, none⟩ n cap xs h.1 holds a m c ys hl hnews (by omega) (by omega) (growslice_fits (by omega) hbytes)
      rw [r] at r'
      injection r' with e1 e2
      subst e1 e2
      exact .inr ⟨rfl, ((Kept.refl Nil w).drew).alloc _⟩
/-- The head of an own row is one itself. -/
theorem ownsRow_head {w : World} {B e size n k c : Nat} {a : Option Addr} {xs ys : List Value} (h : w.ownsRow B e size (.slice a k c) k (xs ++ ys)) (hx : xs.length = n * size) (hnk : n ≤ k) : w.ownsRow B e size (.slice a n c) n xs := by
  refine ⟨hx, ?_⟩
  rcases h.2 with ⟨e1, e0⟩ | ⟨g, cap, cur, e1, hb, hg, hn, hm, hc, ht⟩
  · cases e1
    have : n = 0 := by omega
    exact .inl ⟨by rw [this], this⟩
  · cases e1
    refine .inr ⟨g, c, cur, rfl, hb, hg, by omega, hm, hc, ?_⟩
    have h2 := congrArg (List.take (n * size)) ht
    rw [List.take_take, Nat.min_eq_left (Nat.mul_le_mul_right _ hnk)] at h2
    rw [h2, List.take_append_of_le_length (by omega), List.take_of_length_le (by omega)]

/-- append, by an equation on its run. -/
theorem wpList_append_run {P : Program} {w : World} {ops : Array Oper} {rest : List Oper} {o : Oper} {a : Act} {Q : Exit → Act → World → Prop} (hgd : o.guard = none) (s x : Operand) (t : TypeId)
    (ho : o.op = .call { callee := .builtin .append, args := #[s, x], argTypes := #[t, t] }) (v y : Value) (hs : a.eval s = v) (hx : a.eval x = y) {v' : Value} {w' : World}
    (hr : (Builtin.append_ #[t, t] o.type #[v, y]).run P w = .ok v' w') (h : wpList P ops Q rest (a.put o.dst v') w') : wpList P ops Q (o :: rest) a w := by
  refine wpList_plain hgd fun K hK => ?_
  unfold Oper.wp execOp
  simp only [ho, resolve, invoke, builtin, Sem.run_bind, Sem.run_pure, Result.andThen_ok, List.map_toArray, List.map_cons, List.map_nil, hs, hx, hr]
  exact hK _ _ h
end Go.Proofs.YtkffcpjaciomjaaDoor
