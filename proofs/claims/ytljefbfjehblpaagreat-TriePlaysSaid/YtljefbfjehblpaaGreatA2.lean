/- Layer cond: a slice of conditions that a call builds by append: its rows, what hangs on them; both kinds of conditions. – Layer cond: the law's own Ref of a condition: the reference's tree, in new memory. – Layer scope: plain mathematics of the chains of conditions: how many there are, which of them conditions end themselves, what stands ahead of each. No program. -/
import Derived.Test.YtljefbfjehblpaaGreatA1
import Derived.Deep.AppendLies
import Derived.Deep.RegionHeld3
import Derived.Deep.RegionLaw
import Derived.Deep.DeepCutAuto
import Derived.OwnWalk
namespace Go.Proofs.YtljefbfjehblpaaGreat
section
open Go.RowKit
set_option maxRecDepth 100000

/-- A block that may be written. -/
def Soft (w : World) (b : Nat) : Prop := ∀ i, w.frozen? ⟨b, i, none⟩ = false
theorem Soft.kept {F : Nat → Prop} {w w' : World} {b : Nat} (h : Soft w b) (k : Kept F w w') (hb : b < w.heap.size) (hF : ¬ F b) : Soft w' b := fun i => by rw [k.frozen (p := ⟨b, i, none⟩) hb hF]; exact h i
/-- Places in new memory: behind block B; rows begin at the head; they may be written. -/
def okM (B : Nat) (w : World) (b o : Nat) : Prop := B ≤ b ∧ b < w.heap.size ∧ o = 0 ∧ Soft w b
theorem okM.kept {F : Nat → Prop} {B : Nat} {w w' : World} {b o : Nat} (h : okM B w b o) (k : Kept F w w') (hF : ¬ F b) : okM B w' b o := ⟨h.1, Nat.lt_of_lt_of_le h.2.1 k.size, h.2.2.1, h.2.2.2.kept k h.2.1 hF⟩
theorem okM.less {B B' : Nat} {w : World} {b o : Nat} (h : okM B w b o) (hB : B' ≤ B) : okM B' w b o := ⟨Nat.le_trans hB h.1, h.2⟩
def okN (B : Nat) (w : World) (v : Value) (b o : Nat) : Prop := okM B w b o ∧ v.ownBlock ≠ some b
def flatC (E : Hd → Value → List Value) (ps : List (Sh × Value)) : List Value := ps.flatMap fun p => E p.1.hd p.2
/-- What is asked of a kind of condition. -/
structure Kind8 (E : Hd → Value → List Value) : Prop where
  len : ∀ h v, (E h v).length = 8
  one : ∀ h v, v.oneCell' = true → ∀ u ∈ E h v, u.oneCell' = true
theorem kindA : Kind8 cA := ⟨fun _ _ => rfl, fun h v hv u hu => by
  simp only [cA, List.mem_cons, List.not_mem_nil, or_false] at hu
  rcases hu with rfl | rfl | rfl | rfl | rfl | rfl | rfl | rfl <;> first | rfl | exact hv⟩
theorem kindR : Kind8 cR := ⟨fun _ _ => rfl, fun h v hv u hu => by
  simp only [cR, List.mem_cons, List.not_mem_nil, or_false] at hu
  rcases hu with rfl | rfl | rfl | rfl | rfl | rfl | rfl | rfl <;> first | rfl | exact hv⟩
section
variable {E : Hd → Value → List Value} (hE : Kind8 E)
include hE
theorem flatC_len : ∀ ps : List (Sh × Value), (flatC E ps).length = ps.length * 8
  | [] => rfl
  | p :: r => by
    show (E p.1.hd p.2 ++ flatC E r).length = _
    rw [List.length_append, flatC_len r, List.length_cons, hE.len]
    omega
theorem flatC_get : ∀ (ps : List (Sh × Value)) (i j : Nat) (p : Sh × Value), ps[i]? = some p → j < 8 → (flatC E ps)[i * 8 + j]? = (E p.1.hd p.2)[j]?
  | [], i, j, p, h, _ => by simp at h
  | x :: r, 0, j, p, h, hj => by
    simp only [List.getElem?_cons_zero, Option.some.injEq] at h
    subst h
    show (E x.1.hd x.2 ++ flatC E r)[0 * 8 + j]? = _
    rw [Nat.zero_mul, Nat.zero_add, List.getElem?_append_left (by rw [hE.len]; exact hj)]
  | x :: r, i + 1, j, p, h, hj => by
    show (E x.1.hd x.2 ++ flatC E r)[(i + 1) * 8 + j]? = _
    rw [List.getElem?_append_right (by rw [hE.len]; omega), show (i + 1) * 8 + j - (E x.1.hd x.2).length = i * 8 + j by rw [hE.len]; omega]
    exact flatC_get r i j p (by simpa using h) hj
end
/-- A slice of the call's own, by append: its rows, and what hangs on each. -/
structure CRow (E : Hd → Value → List Value) (e : TypeId) (w : World) (B : Nat) (v : Value) (ps : List (Sh × Value)) : Prop where
  own : w.ownsRow B e 8 v ps.length (flatC E ps)
  kids : ∀ p ∈ ps, Holds E w (okN B w v) p.2 p.1.subs
section
variable {E : Hd → Value → List Value} {e : TypeId} {w w' : World} {B : Nat} {v : Value} {ps : List (Sh × Value)}
theorem CRow.nil (E : Hd → Value → List Value) (e : TypeId) (w : World) (B : Nat) : CRow E e w B (.slice none 0 0) [] := ⟨World.ownsRow_nil _ _ _ _, fun p hp => by cases hp⟩
theorem CRow.base (h : CRow E e w B v ps) : ∀ k, v.ownBlock = some k → B ≤ k := by
  intro k hk
  rcases h.own.2 with ⟨e, _⟩ | ⟨g, cap, cur, e, hb, _⟩
  · rw [e] at hk; cases hk
  · rw [e] at hk; cases hk; exact hb
theorem CRow.lt (h : CRow E e w B v ps) : ∀ k, v.ownBlock = some k → k < w.heap.size := by
  intro k hk
  rcases h.own.2 with ⟨e, _⟩ | ⟨g, cap, cur, e, _, hg, _⟩
  · rw [e] at hk; cases hk
  · rw [e] at hk; cases hk; exact (Array.getElem?_eq_some_iff.1 hg).1
theorem CRow.keptF {F : Nat → Prop} (h : CRow E e w B v ps) (k : Kept F w w') (hF : ∀ i, F i → i < B) : CRow E e w' B v ps :=
  ⟨Kept.row k h.own (fun i hi hf => by have := h.base i hi; have := hF i hf; omega), fun p hp => (h.kids p hp).move (fun b o l hb i hr => rangeAt_kept k (fun hf => by have := hF b hf; have := hb.1.1; omega) hr) (fun b o hb => ⟨hb.1.kept k (fun hf => by have := hF b hf; have := hb.1.1; omega), hb.2⟩)⟩
theorem CRow.kept (h : CRow E e w B v ps) (k : Kept Nil w w') : CRow E e w' B v ps := h.keptF k (fun _ g => g.elim)
theorem CRow.shape (h : CRow E e w B v ps) : ∃ a cap, v = .slice a ps.length cap := by
  rcases h.own.2 with ⟨e, e0⟩ | ⟨g, cap, cur, e, _⟩
  · exact ⟨none, 0, by rw [e, e0]⟩
  · exact ⟨_, _, e⟩
theorem CRow.holds (hE : Kind8 E) (h : CRow E e w B v ps) : Holds E w (okM B w) v (ps.map (·.1)) := by
  rcases h.own.2 with ⟨e1, e0⟩ | ⟨g, cap, cur, e1, hb, hg, hnc, _⟩
  · obtain rfl := List.length_eq_zero_iff.1 e0
    subst e1
    exact .nil none 0
  · subst e1
    have hl : (ps.map (·.1)).length = ps.length := by simp
    have key := Holds.row (E := E) (w := w) (ok := okM B w) g 0 cap (ps.map (·.1)) (fun i => match ps[i]? with | some p => p.2 | none => undef) (by rw [hl]; exact hnc) ⟨hb, (Array.getElem?_eq_some_iff.1 hg).1, rfl, fun i => by simp [World.frozen?, hg]⟩
    rw [hl] at key
    refine key (fun i x hi => ?_) (fun i x hi => ?_)
    · rw [List.getElem?_map] at hi
      obtain ⟨p, hp, rfl⟩ := Option.map_eq_some_iff.1 hi
      rw [hp]
      intro j u hj
      have hj8 : j < 8 := by have := (List.getElem?_eq_some_iff.1 hj).1; rwa [hE.len] at this
      have := h.own.cells (g := g) rfl (i * 8 + j) u (by rw [flatC_get hE ps i j p hp hj8]; exact hj)
      rw [show (⟨g, 0, none⟩ : Addr).add (i * 8 + j) = ⟨g, 0 + i * 8 + j, none⟩ from by unfold Addr.add; split <;> simp_all] at this
      exact this
    · rw [List.getElem?_map] at hi
      obtain ⟨p, hp, rfl⟩ := Option.map_eq_some_iff.1 hi
      rw [hp]
      exact (h.kids p (List.mem_of_getElem? hp)).mono (fun b o hb => hb.1)
theorem slice_one {a : Option Addr} {n c : Nat} : (Value.slice a n c).oneCell' = true := rfl
theorem Holds.one {ok : Nat → Nat → Prop} {subs : List Sh} (h : Holds E w ok v subs) : v.oneCell' = true := by obtain ⟨a, c, rfl⟩ := h.shape; rfl
theorem CRow.append {P : Program} (hE : Kind8 E) {t : TypeId} {i0 : TypeInfo} {z : Value} {bytes : Nat} (ht : P.underlying t = some (.slice e)) (hi : P.info? e = some i0) (hz : i0.zero = some z) (hsize : i0.size = 8) (hby : i0.bytes = bytes) (hzs : z.cells.size = 8) (hb128 : bytes ≤ 128)
    (h : CRow E e w B v ps) (hl : ps.length ≤ 5000) (hB : B ≤ w.heap.size) (ty : TypeId) (s : Sh) (u : Value) (Bk : Nat) (hb : ∀ j x, (E s.hd u)[j]? = some x → w.cell? ⟨Bk, j, none⟩ = some x) (hh : Holds E w (okN B w v) u s.subs) :
    ∃ g cap w', (Builtin.append_ #[t, t] ty #[v, .slice (some ⟨Bk, 0, none⟩) 1 1]).run P w = .ok (.slice (some ⟨g, 0, none⟩) (ps.length + 1) cap) w' ∧ CRow E e w' B (.slice (some ⟨g, 0, none⟩) (ps.length + 1) cap) (ps ++ [(s, u)]) ∧ Kept (fun k => v.ownBlock = some k) w w' := by
  obtain ⟨g, cap, w', r, o, gr, hg, hgl⟩ := run_append_lies (P := P) w t ty B e i0 z 8 bytes ht hi hz hsize hby hzs (by decide) v ps.length (flatC E ps) h.own ⟨Bk, 0, none⟩ 1 1 (E s.hd u) (by rw [hE.len]) (fun j x hx => by
    rw [Addr.add_mid, Nat.zero_add]; exact hb j x hx) (hE.one _ _ hh.one) (by decide) (by unfold maxLen; omega) (Nat.le_trans (Nat.mul_le_mul (show ps.length + 1 ≤ 5001 by omega) hb128) (by decide)) hB w.heap.size rfl
  have kk : Kept (fun k => v.ownBlock = some k) w w' := ⟨gr.os, gr.tape, gr.output, gr.size, fun k hk hF => gr.block k hk (fun e => hF e.symm)⟩
  have hmv : ∀ (x : Value) (l : List Sh), Holds E w (okN B w v) x l → Holds E w' (okN B w' (.slice (some ⟨g, 0, none⟩) (ps.length + 1) cap)) x l := fun x l hx =>
    hx.move (fun b o l hb' i hr => rangeAt_kept kk hb'.2 hr) (fun b o hb' => ⟨hb'.1.kept kk hb'.2, fun eg => by
      have eg' : g = b := by simpa [Value.ownBlock] using eg
      rcases hg with hg | hg
      · exact hb'.2 (by rw [hg, eg'])
      · have := hb'.1.2.1; omega⟩)
  refine ⟨g, cap, w', r, ⟨?_, fun p hp => ?_⟩, kk⟩
  · have e1 : flatC E (ps ++ [(s, u)]) = flatC E ps ++ E s.hd u := by unfold flatC; simp
    rw [e1, List.length_append]
    exact o
  · rcases List.mem_append.1 hp with hp | hp
    · exact hmv _ _ (h.kids p hp)
    · rw [List.mem_singleton] at hp
      subst hp
      exact hmv _ _ hh
end
/-- append as one step of a region that draws, by an equation on its run. -/
theorem step_append_run {P : Program} {ops : Array Oper} {o : Oper} {a : Act} {w : World} {K : Act → World → Prop} {Q : Exit → Act → World → Prop} {E' : Prop} (hgd : o.guard = none) (s x : Operand) (t : TypeId)
    (ho : o.op = .call { callee := .builtin .append, args := #[s, x], argTypes := #[t, t] }) (v y : Value) (hs : a.eval s = v) (hx : a.eval x = y) {v' : Value} {w' : World}
    (hr : (Builtin.append_ #[t, t] o.type #[v, y]).run P w = .ok v' w') (h : K (a.put o.dst v') w') : if Region.wanted o (yielded ops a.tmps) = true then Oper.wp P o a w K Q else E' := by
  rw [if_pos (by simp [Region.wanted, hgd])]
  unfold Oper.wp execOp
  simp only [ho, resolve, invoke, builtin, Sem.run_bind, Sem.run_pure, Result.andThen_ok, List.map_toArray, List.map_cons, List.map_nil, hs, hx, hr]
  exact h
theorem infoCA : (Tryz.prog.info? 72).map (fun i => (i.zero, i.size, i.bytes)) = some (some (.agg #[.int .i64 0, .bool false, .int .i64 0, .bool false, .int .i64 0, .bool false, .int .i64 0, .slice none 0 0]), 8, 80) := by kernel_rfl
theorem infoCR : (Tryz.prog.info? 77).map (fun i => (i.zero, i.size, i.bytes)) = some (some (.agg #[.int .i64 0, .int .i64 0, .int .i64 0, .int .i64 0, .int .i64 0, .int .i64 0, .int .i64 0, .slice none 0 0]), 8, 80) := by kernel_rfl
theorem appendR {w : World} {B : Nat} {v : Value} {ps : List (Sh × Value)} (h : CRow cR 77 w B v ps) (hl : ps.length ≤ 5000) (hB : B ≤ w.heap.size) (s : Sh) (u : Value) (Bk : Nat) (hb : ∀ j x, (cR s.hd u)[j]? = some x → w.cell? ⟨Bk, j, none⟩ = some x) (hh : Holds cR w (okN B w v) u s.subs) :
    ∃ g cap w', (Builtin.append_ #[37, 37] 37 #[v, .slice (some ⟨Bk, 0, none⟩) 1 1]).run Tryz.prog w = .ok (.slice (some ⟨g, 0, none⟩) (ps.length + 1) cap) w' ∧ CRow cR 77 w' B (.slice (some ⟨g, 0, none⟩) (ps.length + 1) cap) (ps ++ [(s, u)]) ∧ Kept (fun k => v.ownBlock = some k) w w' := by
  obtain ⟨i0, hi, hz0, hz1, hz2⟩ := info_parts infoCR
  exact h.append kindR Tryz.underlying37 hi hz0 hz1 hz2 rfl (by decide) hl hB _ s u Bk hb hh
theorem appendA {w : World} {B : Nat} {v : Value} {ps : List (Sh × Value)} (h : CRow cA 72 w B v ps) (hl : ps.length ≤ 5000) (hB : B ≤ w.heap.size) (s : Sh) (u : Value) (Bk : Nat) (hb : ∀ j x, (cA s.hd u)[j]? = some x → w.cell? ⟨Bk, j, none⟩ = some x) (hh : Holds cA w (okN B w v) u s.subs) :
    ∃ g cap w', (Builtin.append_ #[31, 31] 31 #[v, .slice (some ⟨Bk, 0, none⟩) 1 1]).run Tryz.prog w = .ok (.slice (some ⟨g, 0, none⟩) (ps.length + 1) cap) w' ∧ CRow cA 72 w' B (.slice (some ⟨g, 0, none⟩) (ps.length + 1) cap) (ps ++ [(s, u)]) ∧ Kept (fun k => v.ownBlock = some k) w w' := by
  obtain ⟨i0, hi, hz0, hz1, hz2⟩ := info_parts infoCA
  exact h.append kindA Tryz.underlying31 hi hz0 hz1 hz2 rfl (by decide) hl hB _ s u Bk hb hh
end
section
open Go.RowKit
set_option maxRecDepth 100000

abbrev arrR (h : Hd) (v : Value) : Array Value := #[.int .i64 h.k, .int .i64 (isV h.x0), .int .i64 h.n0, .int .i64 (isV h.x1), .int .i64 h.n1, .int .i64 (isV h.x2), .int .i64 h.n2, v]
abbrev zR : Array Value := #[.int .i64 0, .int .i64 0, .int .i64 0, .int .i64 0, .int .i64 0, .int .i64 0, .int .i64 0, .slice none 0 0]
theorem Kept.cellOf {w w' : World} {p : Addr} {v : Value} (k : Kept Nil w w') (h : w.cell? p = some v) : w'.cell? p = some v := by rw [k.cell (World.block_lt_of_cell? w _ h) id]; exact h
/-- What is read in the region that makes the head. -/
abbrev Seen7 (B : Nat) (k : Int) (x0 x1 x2 : Bool) (n0 n1 n2 : Int) (w' : World) : Prop :=
  w'.cell? ⟨B, 0, none⟩ = some (.int .i64 k) ∧ w'.cell? ⟨B, 1, none⟩ = some (.bool x0) ∧ w'.cell? ⟨B, 2, none⟩ = some (.int .i64 n0) ∧ w'.cell? ⟨B, 3, none⟩ = some (.bool x1) ∧ w'.cell? ⟨B, 4, none⟩ = some (.int .i64 n1) ∧ w'.cell? ⟨B, 5, none⟩ = some (.bool x2) ∧ w'.cell? ⟨B, 6, none⟩ = some (.int .i64 n2)
section
variable {B : Nat} {k : Int} {x0 x1 x2 : Bool} {n0 n1 n2 : Int} {w w' : World}
theorem Seen7.of {v : Value} (h : Blk w B 72 (arrA ⟨k, x0, x1, x2, n0, n1, n2⟩ v)) : Seen7 B k x0 x1 x2 n0 n1 n2 w :=
  ⟨h.cell 0, h.cell 1, h.cell 2, h.cell 3, h.cell 4, h.cell 5, h.cell 6⟩
theorem Seen7.move (k0 : ∀ i v, w.cell? ⟨B, i, none⟩ = some v → w'.cell? ⟨B, i, none⟩ = some v) (h : Seen7 B k x0 x1 x2 n0 n1 n2 w) : Seen7 B k x0 x1 x2 n0 n1 n2 w' :=
  ⟨k0 _ _ h.1, k0 _ _ h.2.1, k0 _ _ h.2.2.1, k0 _ _ h.2.2.2.1, k0 _ _ h.2.2.2.2.1, k0 _ _ h.2.2.2.2.2.1, k0 _ _ h.2.2.2.2.2.2⟩
theorem seen7_kept (kk : Kept Nil w w') (h : Seen7 B k x0 x1 x2 n0 n1 n2 w) : Seen7 B k x0 x1 x2 n0 n1 n2 w' := h.move (fun _ _ h => kk.cellOf h)
theorem seen7_alloc (o : Obj) (h : Seen7 B k x0 x1 x2 n0 n1 n2 w) : Seen7 B k x0 x1 x2 n0 n1 n2 (w.alloc o) := seen7_kept ((Kept.refl Nil w).alloc o) h
theorem seen7_da (o : Obj) (h : Seen7 B k x0 x1 x2 n0 n1 n2 w.drew) : Seen7 B k x0 x1 x2 n0 n1 n2 (w.alloc o).drew := seen7_kept ((Kept.refl Nil w.drew).alloc o) h
theorem seen7_swap {o o' : Obj} (h0 : B < w.heap.size) (h : Seen7 B k x0 x1 x2 n0 n1 n2 (w.alloc o)) : Seen7 B k x0 x1 x2 n0 n1 n2 (w.alloc o') :=
  h.move (fun i v h => by rw [World.cell?_alloc_lt w _ _ h0] at *; exact h)
theorem seen7_set {A i : Nat} {v : Value} (h0 : B ≠ A) (h : Seen7 B k x0 x1 x2 n0 n1 n2 w) : Seen7 B k x0 x1 x2 n0 n1 n2 (w.setCell ⟨A, i, none⟩ v) :=
  h.move (fun i v h => by rw [World.cell?_setCell_other w _ _ _ (fun e => h0 (congrArg Addr.block e).symm)]; exact h)
theorem seen7_set8 {A : Nat} {v0 v1 v2 v3 v4 v5 v6 v7 : Value} (h0 : B ≠ A) (h : Seen7 B k x0 x1 x2 n0 n1 n2 w) : Seen7 B k x0 x1 x2 n0 n1 n2 ((((((((w.setCell ⟨A, 0, none⟩ v0).setCell ⟨A, 1, none⟩ v1).setCell ⟨A, 2, none⟩ v2).setCell ⟨A, 3, none⟩ v3).setCell ⟨A, 4, none⟩ v4).setCell ⟨A, 5, none⟩ v5).setCell ⟨A, 6, none⟩ v6).setCell ⟨A, 7, none⟩ v7) := (seen7_set h0 (seen7_set h0 (seen7_set h0 (seen7_set h0 (seen7_set h0 (seen7_set h0 (seen7_set h0 (seen7_set h0 h))))))))
end

theorem newK {w w' : World} {t : TypeId} {cs : Array Value} (k : Kept Nil (w.alloc (.cells cs t)) w') : Blk w' w.heap.size t cs := (Blk.new w t cs).kept k id
theorem newKd {w w' : World} {t : TypeId} {cs : Array Value} (k : Kept Nil (w.alloc (.cells cs t)).drew w') : Blk w' w.heap.size t cs := ((Blk.new w t cs).drew).kept k id
/-- What stands in memory: what came in, boxed; the result's place. -/
structure RH (w : World) (tz : TypeId) (z : Array Value) (h : Hd) (v : Value) (W : World) : Prop where
  kept : Kept Nil w W
  b0 : Blk W w.heap.size 72 (arrA h v)
  b1 : Blk W (w.heap.size + 1) tz z
section
variable {w : World} {tz : TypeId} {z : Array Value} {h : Hd} {v : Value} {W W' : World}
theorem RH.start (w : World) (tz : TypeId) (z : Array Value) (h : Hd) (v : Value) : RH w tz z h v ((w.alloc (.cells (arrA h v) 72)).alloc (.cells z tz)) := by
  refine ⟨((Kept.refl Nil w).alloc _).alloc _, (Blk.new w _ _).alloc _, ?_⟩
  have := Blk.new (w.alloc (.cells (arrA h v) 72)) tz z
  simpa using this
theorem RH.step (r : RH w tz z h v W) (k : Kept Nil W W') : RH w tz z h v W' := ⟨r.kept.trans k (fun _ _ g => g), r.b0.kept k id, r.b1.kept k id⟩
theorem RH.alloc (r : RH w tz z h v W) (o : Obj) : RH w tz z h v (W.alloc o) := r.step ((Kept.refl Nil W).alloc o)
theorem RH.drew (r : RH w tz z h v W) : RH w tz z h v W.drew := r.step ((Kept.refl Nil W).drew)
theorem RH.far {F : Nat → Prop} (r : RH w tz z h v W) (k : Kept F W W') (hF : ∀ i, F i → w.heap.size + 1 < i) : RH w tz z h v W' :=
  ⟨r.kept.trans k (fun i hi g => by have := hF i g; omega), r.b0.kept k (fun g => by have := hF _ g; omega), r.b1.kept k (fun g => by have := hF _ g; omega)⟩
theorem RH.set_ (r : RH w tz z h v W) {X : Nat} (hX : w.heap.size + 1 < X) (i : Nat) (u : Value) : RH w tz z h v (W.setCell ⟨X, i, none⟩ u) :=
  ⟨r.kept.setCell _ (.inr (by show w.heap.size ≤ X; omega)) _, r.b0.far (by show w.heap.size ≠ X; omega) _, r.b1.far (by show w.heap.size + 1 ≠ X; omega) _⟩
theorem RH.set8 (r : RH w tz z h v W) {X : Nat} (hX : w.heap.size + 1 < X) (v0 v1 v2 v3 v4 v5 v6 v7 : Value) : RH w tz z h v ((((((((W.setCell ⟨X, 0, none⟩ v0).setCell ⟨X, 1, none⟩ v1).setCell ⟨X, 2, none⟩ v2).setCell ⟨X, 3, none⟩ v3).setCell ⟨X, 4, none⟩ v4).setCell ⟨X, 5, none⟩ v5).setCell ⟨X, 6, none⟩ v6).setCell ⟨X, 7, none⟩ v7) := ((((((((r.set_ hX 0 v0).set_ hX 1 v1).set_ hX 2 v2).set_ hX 3 v3).set_ hX 4 v4).set_ hX 5 v5).set_ hX 6 v6).set_ hX 7 v7)
theorem blk_set8 {X : Nat} {t : TypeId} {c0 c1 c2 c3 c4 c5 c6 c7 : Value} (b : Blk W X t #[c0, c1, c2, c3, c4, c5, c6, c7]) (v0 v1 v2 v3 v4 v5 v6 v7 : Value) : Blk ((((((((W.setCell ⟨X, 0, none⟩ v0).setCell ⟨X, 1, none⟩ v1).setCell ⟨X, 2, none⟩ v2).setCell ⟨X, 3, none⟩ v3).setCell ⟨X, 4, none⟩ v4).setCell ⟨X, 5, none⟩ v5).setCell ⟨X, 6, none⟩ v6).setCell ⟨X, 7, none⟩ v7) X t #[v0, v1, v2, v3, v4, v5, v6, v7] := by
  have := ((((((((b.set_ 0 v0).set_ 1 v1).set_ 2 v2).set_ 3 v3).set_ 4 v4).set_ 5 v5).set_ 6 v6).set_ 7 v7)
  simpa using this
end
/-- One round of building: the child's tree is there in new memory; it is appended, and the new slice is stored. -/
theorem build_round {P : Program} {E : Hd → Value → List Value} (hE : Kind8 E) {t e : TypeId} {i0 : TypeInfo} {z0 : Value} {bytes : Nat} (ht : P.underlying t = some (.slice e)) (hi : P.info? e = some i0) (hz : i0.zero = some z0) (hsize : i0.size = 8) (hby : i0.bytes = bytes) (hzs : z0.cells.size = 8) (hb128 : bytes ≤ 128)
    {w : World} {tz : TypeId} {z : Array Value} {h : Hd} {v0 : Value} {W1 W1' w2 : World} {X : Nat} {cs : Array Value} {ps : List (Sh × Value)} {av : Option Addr} {pl capv : Nat} (hX : w.heap.size + 1 < X)
    (r : RH w tz z h v0 W1) (b : Blk W1 X e cs) (h7 : cs[7]? = some (.slice av pl capv)) (c : CRow E e W1 (X + 1) (.slice av pl capv) ps) (hpl : ps.length = pl) (hl : pl ≤ 5000) (hd1 : Kept Nil W1 W1') (hsz : W1'.heap.size = W1.heap.size) (k2 : Kept Nil W1' w2)
    (s : Sh) (u : Value) (h2 : Holds E w2 (okM W1'.heap.size w2) u s.subs) (nt : TypeId) (arr : Array Value) (harr : arr = (E s.hd u).toArray) :
    w2.cell? ⟨X, 7, none⟩ = some (.slice av pl capv) ∧ X < w2.heap.size ∧ ∃ g cap3 w3, (Builtin.append_ #[t, t] t #[.slice av pl capv, .slice (some ⟨w2.heap.size, 0, none⟩) 1 1]).run P (w2.alloc (.cells arr nt)) = .ok (.slice (some ⟨g, 0, none⟩) (pl + 1) cap3) w3 ∧
      w3.cell? ⟨X, 7, none⟩ = some (.slice av pl capv) ∧ w3.frozen? ⟨X, 7, none⟩ = false ∧
      RH w tz z h v0 (w3.setCell ⟨X, 7, none⟩ (.slice (some ⟨g, 0, none⟩) (pl + 1) cap3)) ∧ Blk (w3.setCell ⟨X, 7, none⟩ (.slice (some ⟨g, 0, none⟩) (pl + 1) cap3)) X e (cs.setIfInBounds 7 (.slice (some ⟨g, 0, none⟩) (pl + 1) cap3)) ∧
      CRow E e (w3.setCell ⟨X, 7, none⟩ (.slice (some ⟨g, 0, none⟩) (pl + 1) cap3)) (X + 1) (.slice (some ⟨g, 0, none⟩) (pl + 1) cap3) (ps ++ [(s, u)]) := by
  have k12 : Kept Nil W1 w2 := hd1.trans k2 (fun _ _ g => g)
  have b2 := b.kept k12 id
  have ka := (Kept.refl Nil w2).alloc (.cells arr nt)
  have hB2 : Blk (w2.alloc (.cells arr nt)) w2.heap.size nt arr := Blk.new _ _ _
  have hX1 := b.lt
  have hX2 := b2.lt
  have hsa : (w2.alloc (.cells arr nt)).heap.size = w2.heap.size + 1 := by simp
  obtain ⟨g, cap3, w3, r3, c3, k3⟩ := CRow.append hE ht hi hz hsize hby hzs hb128 ((c.kept k12).kept ka) (by omega) (by omega) t s u w2.heap.size (fun j x hj => by rw [hB2.cell j, harr]; simpa using hj)
    ((h2.keptN ka).mono (fun b' o hb' => ⟨(hb'.kept ka id).less (by omega), fun eo => by have := c.lt b' eo; have := hb'.1; omega⟩))
  rw [hpl] at r3 c3
  have b3 : Blk w3 X e cs := (b2.alloc _).kept k3 (fun eo => by have := c.base X eo; omega)
  have far3 : RH w tz z h v0 w3 := ((r.step k12).step ka).far k3 (fun i eo => by have := c.base i eo; omega)
  refine ⟨by rw [b2.cell 7]; exact h7, hX2, g, cap3, w3, r3, by rw [b3.cell 7]; exact h7, b3.frozen 7, far3.set_ hX 7 _, b3.set_ 7 _, ?_⟩
  exact c3.keptF ((Kept.refl (fun k => k = X) w3).setCell ⟨X, 7, none⟩ (.inl rfl) _) (fun i e => by omega)
theorem wpList_store_R {ops : Array Oper} {rest : List Oper} {o : Oper} {a : Act} {w : World} {Q : Exit → Act → World → Prop} (hgd : o.guard = none) (x y : Operand) (ho : o.op = .store 77 x y)
    (g : Nat) (h : Hd) (s : Option Addr) (n c : Nat) (hx : a.eval x = .pointer (some ⟨g, 0, none⟩)) (hy : a.eval y = vR h (.slice s n c)) (v0 : Array Value) (h8 : v0.size = 8) (hg : Blk w g 77 v0)
    (hn : ∀ W, Kept (fun k => k = g) w W → Blk W g 77 (arrR h (.slice s n c)) → wpList Tryz.prog ops Q rest (a.put o.dst undef) W) : wpList Tryz.prog ops Q (o :: rest) a w :=
  wpList_store_rowW hgd _ x y ho g _ hx hy _ _ hg infoR8 h8 (by simp [Value.oneCell']) hn
/-- The reference's tree of a condition. -/
def RefEnd (hd : Hd) (subs : List Sh) (w : World) (e : Ending) (w' : World) : Prop :=
  ∃ a' cap', e = .returned (vR hd (.slice a' subs.length cap')) ∧ Holds cR w' (okM w.heap.size w') (.slice a' subs.length cap') subs ∧ Kept Nil w w'
abbrev RefIH (subs : List Sh) : Prop := ∀ hd sb, Sh.mk hd sb ∈ subs → ∀ ok a cap w, Holds cA w ok (.slice a sb.length cap) sb →
  Calls Tryz.prog 22 #[vA hd (.slice a sb.length cap)] w (RefEnd hd sb w)
set_option maxHeartbeats 4000000 in
theorem refT_step (k : Int) (x0 x1 x2 : Bool) (n0 n1 n2 : Int) (subs : List Sh) (len : Nat) (HL : Hid (subs.length = len)) (hLen : len ≤ 5000) (IH : Hid (RefIH subs))
    (ok : Nat → Nat → Prop) (a : Option Addr) (cap : Nat) (w : World) (HH : Hid (Holds cA w ok (.slice a len cap) subs)) :
    Calls Tryz.prog 22 #[vA ⟨k, x0, x1, x2, n0, n1, n2⟩ (.slice a len cap)] w (RefEnd ⟨k, x0, x1, x2, n0, n1, n2⟩ subs w) := by
  have CR := Lib.hid (fun W => ref_any x0 x1 x2 n0 n1 n2 W)
  go_enter Tryz.func22, Tryz.ntmps22
  go_upto_region 1 with fail
  have hne : w.heap.size ≠ w.heap.size + 1 + 1 := by omega
  have SS : Hid (Seen7 w.heap.size k x0 x1 x2 n0 n1 n2 ((w.alloc (.cells (arrA ⟨k, x0, x1, x2, n0, n1, n2⟩ (.slice a len cap)) 72)).alloc (.cells zR 77)).drew) := Lib.hid (Seen7.of (((Blk.new w 72 (arrA ⟨k, x0, x1, x2, n0, n1, n2⟩ (.slice a len cap))).alloc _).drew))
  have hX2 : w.heap.size + 1 < w.heap.size + 1 + 1 := by omega
  have R0 := Lib.hid ((RH.start w 77 zR ⟨k, x0, x1, x2, n0, n1, n2⟩ (.slice a len cap)).drew)
  have R1 := Lib.hid (((RH.start w 77 zR ⟨k, x0, x1, x2, n0, n1, n2⟩ (.slice a len cap)).alloc (.cells zR 77)).drew)
  go_cut [3] from 3 to 11 (fun p wx => ∃ X, p = .pointer (some ⟨X, 0, none⟩) ∧ w.heap.size + 1 < X ∧ Kept Nil w wx ∧ Blk wx w.heap.size 72 (arrA ⟨k, x0, x1, x2, n0, n1, n2⟩ (.slice a len cap)) ∧ Blk wx (w.heap.size + 1) 77 zR ∧ Blk wx X 77 (arrR ⟨k, x0, x1, x2, n0, n1, n2⟩ (.slice none 0 0)))
  case first =>
    go_region_held3 (Seen7 w.heap.size k x0 x1 x2 n0 n1 n2)
      (first | (with_reducible exact SS.out) | (with_reducible exact seen7_set8 hne (by with_reducible assumption)) | (with_reducible exact seen7_kept k7 (by with_reducible assumption)) | (with_reducible exact seen7_alloc _ (by with_reducible assumption)) | (with_reducible exact seen7_da _ (by with_reducible assumption)) | (with_reducible refine seen7_swap ?_ (by with_reducible assumption)) <;> omega)
      (first
        | (go_at_call 57; refine (CR.out _).mono ?_; rintro e w7 ⟨rfl, k7⟩; have z7 : w.heap.size + 1 < w7.heap.size := (by have := k7.size; (try simp at this); omega); first | (with_reducible have A7 := newK k7; have a0 := A7.cell 0; have b0 := A7.frozen 0; (try simp at a0); (try simp at b0); have a1 := A7.cell 1; have b1 := A7.frozen 1; (try simp at a1); (try simp at b1); have a2 := A7.cell 2; have b2 := A7.frozen 2; (try simp at a2); (try simp at b2); have a3 := A7.cell 3; have b3 := A7.frozen 3; (try simp at a3); (try simp at b3); have a4 := A7.cell 4; have b4 := A7.frozen 4; (try simp at a4); (try simp at b4); have a5 := A7.cell 5; have b5 := A7.frozen 5; (try simp at a5); (try simp at b5); have a6 := A7.cell 6; have b6 := A7.frozen 6; (try simp at a6); (try simp at b6); have a7 := A7.cell 7; have b7 := A7.frozen 7; (try simp at a7); (try simp at b7)) | (with_reducible have A7 := newKd k7; have a0 := A7.cell 0; have b0 := A7.frozen 0; (try simp at a0); (try simp at b0); have a1 := A7.cell 1; have b1 := A7.frozen 1; (try simp at a1); (try simp at b1); have a2 := A7.cell 2; have b2 := A7.frozen 2; (try simp at a2); (try simp at b2); have a3 := A7.cell 3; have b3 := A7.frozen 3; (try simp at a3); (try simp at b3); have a4 := A7.cell 4; have b4 := A7.frozen 4; (try simp at a4); (try simp at b4); have a5 := A7.cell 5; have b5 := A7.frozen 5; (try simp at a5); (try simp at b5); have a6 := A7.cell 6; have b6 := A7.frozen 6; (try simp at a6); (try simp at b6); have a7 := A7.cell 7; have b7 := A7.frozen 7; (try simp at a7); (try simp at b7)) | skip))
    all_goals
      first
        | with_reducible have RR := R0.out.step k7
        | with_reducible have RR := R1.out.step k7
      have RR' := Lib.hid RR
      first
        | have AA' : Hid (Blk w7 (w.heap.size + 1 + 1) 77 zR) := Lib.hid (by simpa using A7)
        | skip
      clear RR k7
      go_wp2_with fail
      go_meet
      first
        | with_reducible exact ⟨_, rfl, z7, (RR'.out.alloc _).kept, (RR'.out.alloc _).b0, (RR'.out.alloc _).b1, Blk.new _ _ _⟩
        | with_reducible exact ⟨_, rfl, hX2, (RR'.out.set8 hX2 _ _ _ _ _ _ _ _).kept, (RR'.out.set8 hX2 _ _ _ _ _ _ _ _).b0, (RR'.out.set8 hX2 _ _ _ _ _ _ _ _).b1, blk_set8 AA'.out _ _ _ _ _ _ _ _⟩
  case rest =>
    obtain ⟨X, rfl, hX, kX, bX0, bX1, bX⟩ := hcut
    have RX := Lib.hid (RH.mk kX bX0 bX1 : RH w 77 zR ⟨k, x0, x1, x2, n0, n1, n2⟩ (.slice a len cap) wc)
    have BX := Lib.hid bX
    have c7 := bX0.cell 7
    simp at c7
    clear kX bX0 bX1 bX SS R0 R1 CR
    go_wp2_with fail
    go_loopw [15] (fun i wr => ∃ (j : Nat) (v : Value) (ps : List (Sh × Value)), j ≤ len ∧ i = .int .i64 j ∧ ps.map (·.1) = subs.take j ∧ RH w 77 zR ⟨k, x0, x1, x2, n0, n1, n2⟩ (.slice a len cap) wr ∧ Blk wr X 77 (arrR ⟨k, x0, x1, x2, n0, n1, n2⟩ v) ∧ CRow cR 77 wr (X + 1) v ps) (fun i _ => len - (intOf i).toNat)
    case atStart => exact ⟨0, .slice none 0 0, [], by omega, rfl, rfl, RX.out, BX.out, .nil _ _ _ _⟩
    case round =>
      obtain ⟨j, v, ps, hj, rfl, hps, hR, hB, hC⟩ := hrel
      have HR := Lib.hid hR
      have HB := Lib.hid hB
      have HC := Lib.hid hC
      have HP := Lib.hid hps
      have hXs : X < wr.heap.size := hB.lt
      clear hR hB hC hps RX BX c7
      by_cases hlt : j < len
      · obtain ⟨⟨⟨k', x0', x1', x2', n0', n1', n2'⟩, sb⟩, hx⟩ : ∃ x, subs[j]? = some x := ⟨_, List.getElem?_eq_getElem (by have := HL.out; omega)⟩
        obtain ⟨b, o, a', cap', rfl, hok, hr, hs⟩ := (HH.out.keptN HR.out.kept).at_ hx
        have HX := Lib.hid (IH.out _ _ (List.mem_of_getElem? hx))
        have HRow := Lib.hid hr
        have HS := Lib.hid hs
        have HN : Hid (subs.take (j + 1) = subs.take j ++ [Sh.mk ⟨k', x0', x1', x2', n0', n1', n2'⟩ sb]) := Lib.hid (by rw [List.take_add_one, hx]; rfl)
        clear hx hr hs hok
        have HX2 : Hid (∀ w, Holds cA w ok (.slice a' sb.length cap') sb → Calls Tryz.prog 22 #[vA ⟨k', x0', x1', x2', n0', n1', n2'⟩ (.slice a' sb.length cap')] w fun e w' => ∃ a2 c2, e = .returned (vR ⟨k', x0', x1', x2', n0', n1', n2'⟩ (.slice a2 sb.length c2)) ∧ Holds cR w' (okM w.heap.size w') (.slice a2 sb.length c2) sb ∧ Kept Nil w w') := Lib.hid fun w h => HX.out ok a' cap' w h
        clear HX
        obtain ⟨av, capv, rfl⟩ := HC.out.shape
        have HPL : Hid (ps.length ≤ 5000) := Lib.hid (by have := congrArg List.length HP.out; rw [List.length_map, List.length_take] at this; omega)
        generalize hl' : sb.length = len' at HRow HS HX2
        clear hl'
        generalize hpl : ps.length = pl at HB HC
        have HPl := Lib.hid hpl
        clear hpl
        go_wp2_with ((with_reducible refine wpList_load_A rfl (.tmp 17) rfl _ _ rfl ⟨k', x0', x1', x2', n0', n1', n2'⟩ (.slice a' len' cap') ?_ ?_)
                     · exact HRow.out)
        obtain ⟨W1, hW1⟩ : ∃ W1, wr.alloc (.cells (arrA ⟨k', x0', x1', x2', n0', n1', n2'⟩ (.slice a' len' cap')) 72) = W1 := ⟨_, rfl⟩
        have KW : Kept Nil wr W1 := by rw [← hW1]; exact (Kept.refl Nil wr).alloc _
        have by0 : Blk W1 wr.heap.size 72 (arrA ⟨k', x0', x1', x2', n0', n1', n2'⟩ (.slice a' len' cap')) := by rw [← hW1]; exact Blk.new _ _ _
        rw [show wr.alloc (.cells #[.int .i64 k', .bool x0', .int .i64 n0', .bool x1', .int .i64 n1', .bool x2', .int .i64 n2', .slice a' len' cap'] 72) = W1 from hW1]
        have RW := Lib.hid (HR.out.step KW)
        have BW := Lib.hid (HB.out.kept KW id)
        have CW1 := Lib.hid (HC.out.kept KW)
        have HSW := Lib.hid (HS.out.keptN KW)
        have hXW : X < W1.heap.size := by have := KW.size; omega
        have e0 := by0.cell 0
        have e1 := by0.cell 1
        have e2 := by0.cell 2
        have e3 := by0.cell 3
        have e4 := by0.cell 4
        have e5 := by0.cell 5
        have e6 := by0.cell 6
        have e7 := by0.cell 7
        have x7 := BW.out.cell 7
        simp at e0 e1 e2 e3 e4 e5 e6 e7 x7
        clear hW1 KW by0 HR HB HC HS HRow hXs
        obtain ⟨i0, hi, hz0, hz1, hz2⟩ := info_parts infoCR
        have RND : Hid (∀ a2 c2 w2, Holds cR w2 (okM W1.drew.heap.size w2) (.slice a2 len' c2) sb → Kept Nil W1.drew w2 → _) := Lib.hid fun a2 c2 w2 h2 k2 =>
          build_round (P := Tryz.prog) (t := 37) kindR Tryz.underlying37 hi hz0 hz1 hz2 rfl (by decide) hX RW.out BW.out rfl CW1.out HPl.out (by have := HPl.out; have := HPL.out; omega) ((Kept.refl Nil W1).drew) rfl k2 (.mk ⟨k', x0', x1', x2', n0', n1', n2'⟩ sb) (.slice a2 len' c2) h2 77 (arrR ⟨k', x0', x1', x2', n0', n1', n2'⟩ (.slice a2 len' c2)) rfl
        clear RW BW CW1 hi hz0 hz1 hz2
        go_region_law (first
          | (refine step_append_run rfl (.tmp 20) (.tmp 23) 37 rfl _ _ rfl rfl r3 ?_)
          | (go_simp; go_at_call 22; refine (HX2.out _ (HSW.out.keptN ((Kept.refl Nil _).drew))).mono ?_; rintro e w2 ⟨a2, c2, rfl, h2, k2⟩; obtain ⟨c72, hX2, g, cap3, w3, r3, c73, f73, F1, F2, F3⟩ := RND.out a2 c2 w2 h2 k2; have F1' := Lib.hid F1; have F2' := Lib.hid F2; have F3' := Lib.hid F3; clear F1 F2 F3 h2 k2))
        all_goals
          go_wp2_with fail
          go_roundw
          case rel =>
            refine ⟨j + 1, _, ps ++ [(.mk ⟨k', x0', x1', x2', n0', n1', n2'⟩ sb, .slice a2 len' c2)], by omega, by go_num, ?_, F1'.out, ?_, F3'.out⟩
            · rw [List.map_append, HP.out, HN.out]; rfl
            · exact F2'.out
          case measure => simp [intOf]; omega
      · obtain rfl : j = len := by omega
        have HE : Hid (ps.map (·.1) = subs) := Lib.hid (by rw [HP.out, ← HL.out]; simp)
        obtain ⟨av, capv, rfl⟩ := HC.out.shape
        have HPl : Hid (ps.length = subs.length) := Lib.hid (by rw [← HE.out]; simp)
        rw [HPl.out] at HB HC
        have HL2 := Lib.hid (rfl : subs.length = subs.length)
        generalize hsl : subs.length = sl at HB HC
        have HSl := Lib.hid hsl
        clear hsl
        go_wp2_with (first
          | ((with_reducible refine wpList_load_R rfl (.tmp 3) rfl _ _ rfl ⟨k, x0, x1, x2, n0, n1, n2⟩ (.slice av sl capv) ?_ ?_)
             · exact World.rangeAt_of_block HB.out 0 8)
          | ((with_reducible refine wpList_store_R rfl (.tmp 2) _ rfl _ ⟨k, x0, x1, x2, n0, n1, n2⟩ _ _ _ rfl rfl zR rfl ?_ ?_)
             · exact HR.out.b1
             intro W kW bW
             have KW := Lib.hid kW
             have BW := Lib.hid bW
             clear kW bW))
        refine bodyPost_ret (results_cell_row Tryz.results22 _ _ _ _ _ _ _ rfl BW.out Tryz.underlying77 rfl (by kernel_rfl)) rfl ?_
        have hh := HC.out.holds kindR
        rw [HE.out] at hh
        refine ⟨av, capv, by rw [HSl.out], ?_, HR.out.kept.trans KW.out (fun i hi e => by omega)⟩
        rw [HSl.out]
        exact (hh.kept KW.out (fun b o hb e => by have := hb.1; omega)).mono (fun b o hb => (hb.kept KW.out (fun e => by have := hb.1; omega)).less (by omega))
theorem refT_any : ∀ s : Sh, s.count ≤ 5000 → ∀ ok a cap w, Holds cA w ok (.slice a s.subs.length cap) s.subs →
    Calls Tryz.prog 22 #[vA s.hd (.slice a s.subs.length cap)] w (RefEnd s.hd s.subs w) := by
  refine Sh.ind fun hd subs ih hc ok a cap w h => ?_
  have hc' : 1 + countL subs ≤ 5000 := by simpa [Sh.count] using hc
  have hl := length_countL subs
  exact refT_step hd.k hd.x0 hd.x1 hd.x2 hd.n0 hd.n1 hd.n2 subs _ rfl (by omega) (fun hd' sb hx => ih _ hx (by have := count_mem hx; omega)) ok a cap w h
end
section
open Go.RowKit
set_option maxRecDepth 100000

mutual
/-- The chains of a condition, of conditions, behind a beginning. -/
def Sh.chs : Sh → List Sh → List (List Sh)
  | .mk h subs, ab => (if h.k = 3 then chL subs ab else []) ++ [ab ++ [.mk h subs]]
def chL : List Sh → List Sh → List (List Sh)
  | [], _ => []
  | s :: r, ab => s.chs ab ++ chL r (ab ++ [s])
end
theorem chs_mk (h : Hd) (subs ab : List Sh) : (Sh.mk h subs).chs ab = (if h.k = 3 then chL subs ab else []) ++ [ab ++ [.mk h subs]] := by rw [Sh.chs]
theorem chL_nil (ab : List Sh) : chL [] ab = [] := by rw [chL]
theorem chL_cons (s : Sh) (r ab : List Sh) : chL (s :: r) ab = s.chs ab ++ chL r (ab ++ [s]) := by rw [chL]
theorem chL_append : ∀ a b ab : List Sh, chL (a ++ b) ab = chL a ab ++ chL b (ab ++ a)
  | [], b, ab => by rw [List.nil_append, chL_nil, List.nil_append, List.append_nil]
  | s :: a, b, ab => by rw [List.cons_append, chL_cons, chL_cons, chL_append a b (ab ++ [s]), List.append_assoc, List.append_assoc]; rfl
theorem chL_take_succ {l : List Sh} {j : Nat} {x : Sh} (h : l[j]? = some x) (ab : List Sh) : chL (l.take (j + 1)) ab = chL (l.take j) ab ++ x.chs (ab ++ l.take j) := by
  rw [List.take_add_one, h, chL_append]
  congr 1
  show chL [x] _ = _
  rw [chL_cons, chL_nil, List.append_nil]
theorem chL_len_le : (∀ (s : Sh) (ab : List Sh), (s.chs ab).length ≤ s.count) ∧ ∀ (l ab : List Sh), (chL l ab).length ≤ countL l := by
  refine Sh.ind2 (fun hd subs ih ab => ?_) (fun ab => by simp [chL_nil]) (fun a l ha hl ab => ?_)
  · have := ih ab
    rw [chs_mk, Sh.count, List.length_append]
    split
    · simp; omega
    · simp
  · have h1 := ha ab
    have h2 := hl (ab ++ [a])
    rw [chL_cons, List.length_append, countL]
    omega
theorem chs_last (s : Sh) (ab : List Sh) : (s.chs ab).getLast? = some (ab ++ [s]) := by
  cases s
  rw [chs_mk]
  simp

/-! ### What is right -/
theorem chkL_cons (s : Sh) (r : List Sh) (d : Int) : chkL (s :: r) d = 0 ↔ s.chk d = 0 ∧ chkL r d = 0 := by
  simp only [chkL]
  by_cases h : s.chk d = 0
  · rw [if_neg (by simp [h])]; simp [h]
  · rw [if_pos h]; simp [h]
theorem chkL_all {l : List Sh} {d : Int} : chkL l d = 0 ↔ ∀ s ∈ l, s.chk d = 0 := by
  induction l with
  | nil => simp [chkL]
  | cons a r ih => rw [chkL_cons, ih]; simp
theorem chkL_take {l : List Sh} {d : Int} (h : chkL l d = 0) (n : Nat) : chkL (l.take n) d = 0 := chkL_all.2 fun s hs => chkL_all.1 h s (List.mem_of_mem_take hs)
theorem chk_zero {s : Sh} {d : Int} (h : s.chk d = 0) : (s.hd.k = 3 ∧ s.subs ≠ [] ∧ chkL s.subs (d + 1) = 0) ∨ ((s.hd.k = 1 ∨ s.hd.k = 2) ∧ s.subs = []) := by
  cases s with
  | mk hd subs =>
    simp only [Sh.chk] at h
    show (hd.k = 3 ∧ subs ≠ [] ∧ chkL subs (d + 1) = 0) ∨ ((hd.k = 1 ∨ hd.k = 2) ∧ subs = [])
    by_cases h3 : 3 < d
    · rw [if_pos h3] at h; omega
    · rw [if_neg h3] at h
      by_cases hk : hd.k = 3
      · rw [if_pos hk] at h
        refine .inl ⟨hk, ?_⟩
        by_cases hz : hd.sameT zeroH = false
        · rw [if_pos hz] at h; omega
        · rw [if_neg hz] at h
          by_cases hl : subs.length = 0
          · rw [if_pos hl] at h; omega
          · rw [if_neg hl] at h
            exact ⟨fun e => hl (by rw [e]; rfl), h⟩
      · rw [if_neg hk] at h
        by_cases hk2 : hd.k = 1 ∨ hd.k = 2
        · rw [if_pos hk2] at h
          refine .inr ⟨hk2, ?_⟩
          by_cases hf : hd.fine = false
          · rw [if_pos hf] at h; omega
          · rw [if_neg hf] at h
            by_cases hl : 0 < subs.length
            · rw [if_pos hl] at h; omega
            · exact List.length_eq_zero_iff.1 (by omega)
        · rw [if_neg hk2] at h; omega
theorem chL_len : (∀ (s : Sh) (d : Int) (ab : List Sh), s.chk d = 0 → (s.chs ab).length = s.count) ∧ ∀ (l : List Sh) (d : Int) (ab : List Sh), chkL l d = 0 → (chL l ab).length = countL l := by
  refine Sh.ind2 (fun hd subs ih d ab h => ?_) (fun d ab _ => by simp [chL_nil, countL]) (fun a l ha hl d ab h => ?_)
  · rw [chs_mk, Sh.count, List.length_append]
    rcases chk_zero h with ⟨h3, _, hs⟩ | ⟨hk, he⟩
    · have h3' : hd.k = 3 := h3
      rw [if_pos h3', ih (d + 1) ab hs]; simp; omega
    · have he' : subs = [] := he
      subst he'
      split
      · simp [chL_nil, countL]
      · simp [countL]
  · obtain ⟨h1, h2⟩ := (chkL_cons _ _ _).1 h
    rw [chL_cons, List.length_append, countL, ha d ab h1, hl d (ab ++ [a]) h2]
/-- Which chain a condition ends itself. -/
theorem chL_own {l : List Sh} {d : Int} (ab : List Sh) (h : chkL l d = 0) {i : Nat} (hi : i < l.length) : (chL l ab)[countL (l.take (i + 1)) - 1]? = some (ab ++ l.take (i + 1)) := by
  have hx : l[i]? = some l[i] := List.getElem?_eq_getElem hi
  have hlen := chL_len.2 (l.take (i + 1)) d ab (chkL_take h _)
  have hlast : (chL (l.take (i + 1)) ab).getLast? = some (ab ++ l.take (i + 1)) := by
    rw [chL_take_succ hx, List.getLast?_append, chs_last, Option.some_or, List.append_assoc]
    congr 2
    rw [List.take_add_one, hx]; rfl
  have hpos : 0 < countL (l.take (i + 1)) := by
    have := length_countL (l.take (i + 1))
    rw [List.length_take] at this
    omega
  rw [List.getLast?_eq_getElem?, hlen] at hlast
  have e : chL l ab = chL (l.take (i + 1)) ab ++ chL (l.drop (i + 1)) (ab ++ l.take (i + 1)) := by rw [← chL_append, List.take_append_drop]
  rw [e, List.getElem?_append_left (by omega)]
  exact hlast
/-- Each chain without its last condition is the beginning, or a chain that stands ahead of it. -/
theorem chL_ahead : (∀ (s : Sh) (ab : List Sh) (k : Nat) (x : List Sh), (s.chs ab)[k]? = some x → x ≠ [] ∧ (x.dropLast = ab ∨ ∃ m, m < k ∧ (s.chs ab)[m]? = some x.dropLast)) ∧
    ∀ (l ab : List Sh) (k : Nat) (x : List Sh), (chL l ab)[k]? = some x → x ≠ [] ∧ (x.dropLast = ab ∨ ∃ m, m < k ∧ (chL l ab)[m]? = some x.dropLast) := by
  refine Sh.ind2 (fun hd subs ih ab k x hx => ?_) (fun ab k x hx => by simp [chL_nil] at hx) (fun a l ha hl ab k x hx => ?_)
  · rw [chs_mk] at hx ⊢
    generalize hq : (if hd.k = 3 then chL subs ab else []) = q at *
    by_cases hk : k < q.length
    · rw [List.getElem?_append_left hk] at hx
      by_cases h3 : hd.k = 3
      · rw [if_pos h3] at hq
        subst hq
        obtain ⟨h1, h2⟩ := ih ab k x hx
        refine ⟨h1, h2.imp id fun ⟨m, hm, he⟩ => ⟨m, hm, ?_⟩⟩
        rw [List.getElem?_append_left (by omega)]
        exact he
      · rw [if_neg h3] at hq
        subst hq
        simp at hk
    · rw [List.getElem?_append_right (by omega)] at hx
      have hkl : k - q.length = 0 := by
        have := (List.getElem?_eq_some_iff.1 hx).1
        simp at this; omega
      rw [hkl] at hx
      simp at hx
      subst hx
      exact ⟨by simp, .inl (by simp)⟩
  · rw [chL_cons] at hx ⊢
    by_cases hk : k < (a.chs ab).length
    · rw [List.getElem?_append_left hk] at hx
      obtain ⟨h1, h2⟩ := ha ab k x hx
      refine ⟨h1, h2.imp id fun ⟨m, hm, he⟩ => ⟨m, hm, ?_⟩⟩
      rw [List.getElem?_append_left (by omega)]
      exact he
    · rw [List.getElem?_append_right (by omega)] at hx
      obtain ⟨h1, h2⟩ := hl (ab ++ [a]) _ x hx
      refine ⟨h1, ?_⟩
      rcases h2 with h2 | ⟨m, hm, he⟩
      · have hla := chs_last a ab
        rw [List.getLast?_eq_getElem?] at hla
        have hpos := (List.getElem?_eq_some_iff.1 hla).1
        exact .inr ⟨(a.chs ab).length - 1, by omega, by rw [List.getElem?_append_left hpos, hla, h2]⟩
      · exact .inr ⟨(a.chs ab).length + m, by omega, by rw [List.getElem?_append_right (by omega), show (a.chs ab).length + m - (a.chs ab).length = m by omega]; exact he⟩
/-- A chain of conditions behind nothing: of one condition, or its beginning is a chain ahead of it. -/
theorem chains_ahead {l : List Sh} {k : Nat} {x : List Sh} (h : (chL l [])[k]? = some x) : x ≠ [] ∧ (x.length = 1 ∨ ∃ m, m < k ∧ (chL l [])[m]? = some (x.take (x.length - 1))) := by
  obtain ⟨h1, h2⟩ := chL_ahead.2 l [] k x h
  refine ⟨h1, ?_⟩
  rw [← List.dropLast_eq_take]
  refine h2.imp (fun e => ?_) id
  have := congrArg List.length e
  have h0 : 0 < x.length := List.length_pos_iff.2 h1
  simp at this
  omega
end
end Go.Proofs.YtljefbfjehblpaaGreat
