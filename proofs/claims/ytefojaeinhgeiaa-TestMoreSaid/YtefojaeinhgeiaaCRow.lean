/- Layer cond: a slice of conditions that a call builds by append: its rows, what hangs on them; both kinds of conditions. -/
import Derived.Test.YtefojaeinhgeiaaCBig
import Derived.Deep.AppendLies
namespace Go.Proofs.Ytefojaeinhgeiaa
open Go.RowKit
set_option maxRecDepth 100000

/-- A block that may be written. -/
def Soft (w : World) (b : Nat) : Prop := ∀ i, w.frozen? ⟨b, i, none⟩ = false
theorem Soft.kept {F : Nat → Prop} {w w' : World} {b : Nat} (h : Soft w b) (k : Kept F w w') (hb : b < w.heap.size) (hF : ¬ F b) : Soft w' b := fun i => by rw [k.frozen (p := ⟨b, i, none⟩) hb hF]; exact h i
/-- Places in new memory: behind block B; rows begin at the head; they may be written. -/
def okM (B : Nat) (w : World) (b o : Nat) : Prop := B ≤ b ∧ b < w.heap.size ∧ o = 0 ∧ Soft w b
theorem okM.kept {F : Nat → Prop} {B : Nat} {w w' : World} {b o : Nat} (h : okM B w b o) (k : Kept F w w') (hF : ¬ F b) : okM B w' b o := ⟨h.1, Nat.lt_of_lt_of_le h.2.1 k.size, h.2.2.1, h.2.2.2.kept k h.2.1 hF⟩
theorem okM.less {B B' : Nat} {w : World} {b o : Nat} (h : okM B w b o) (hB : B' ≤ B) : okM B' w b o := ⟨Nat.le_trans hB h.1, h.2⟩
def okN (B : Nat) (w : World) (v : Value) (b o : Nat) : Prop := okM B w b o ∧ v.ownBlock ≠ some b
def flatC (E : Hd → Value → List Value) (ps : List (Sh × Value)) : List Value := ps.flatMap fun p => E p.1.hd p.2
/-- What is asked of a kind of condition. -/
structure Kind8 (E : Hd → Value → List Value) : Prop where
  len : ∀ h v, (E h v).length = 8
  one : ∀ h v, v.oneCell' = true → ∀ u ∈ E h v, u.oneCell' = true
theorem kindA : Kind8 cA := ⟨fun _ _ => rfl, fun h v hv u hu => by
  simp only [cA, List.mem_cons, List.not_mem_nil, or_false] at hu
  rcases hu with rfl | rfl | rfl | rfl | rfl | rfl | rfl | rfl <;> first | rfl | exact hv⟩
theorem kindR : Kind8 cR := ⟨fun _ _ => rfl, fun h v hv u hu => by
  simp only [cR, List.mem_cons, List.not_mem_nil, or_false] at hu
  rcases hu with rfl | rfl | rfl | rfl | rfl | rfl | rfl | rfl <;> first | rfl | exact hv⟩
section
variable {E : Hd → Value → List Value} (hE : Kind8 E)
include hE
theorem flatC_len : ∀ ps : List (Sh × Value), (flatC E ps).length = ps.length * 8
  | [] => rfl
  | p :: r => by
    show (E p.1.hd p.2 ++ flatC E r).length = _
    rw [List.length_append, flatC_len r, List.length_cons, hE.len]
    omega
theorem flatC_get : ∀ (ps : List (Sh × Value)) (i j : Nat) (p : Sh × Value), ps[i]? = some p → j < 8 → (flatC E ps)[i * 8 + j]? = (E p.1.hd p.2)[j]?
  | [], i, j, p, h, _ => by simp at h
  | x :: r, 0, j, p, h, hj => by
    simp only [List.getElem?_cons_zero, Option.some.injEq] at h
    subst h
    show (E x.1.hd x.2 ++ flatC E r)[0 * 8 + j]? = _
    rw [Nat.zero_mul, Nat.zero_add, List.getElem?_append_left (by rw [hE.len]; exact hj)]
  | x :: r, i + 1, j, p, h, hj => by
    show (E x.1.hd x.2 ++ flatC E r)[(i + 1) * 8 + j]? = _
    rw [List.getElem?_append_right (by rw [hE.len]; omega), show (i + 1) * 8 + j - (E x.1.hd x.2).length = i * 8 + j by rw [hE.len]; omega]
    exact flatC_get r i j p (by simpa using h) hj
end
/-- A slice of the call's own, by append: its rows, and what hangs on each. -/
structure CRow (E : Hd → Value → List Value) (e : TypeId) (w : World) (B : Nat) (v : Value) (ps : List (Sh × Value)) : Prop where
  own : w.ownsRow B e 8 v ps.length (flatC E ps)
  kids : ∀ p ∈ ps, Holds E w (okN B w v) p.2 p.1.subs
section
variable {E : Hd → Value → List Value} {e : TypeId} {w w' : World} {B : Nat} {v : Value} {ps : List (Sh × Value)}
theorem CRow.nil (E : Hd → Value → List Value) (e : TypeId) (w : World) (B : Nat) : CRow E e w B (.slice none 0 0) [] := ⟨World.ownsRow_nil _ _ _ _, fun p hp => by cases hp⟩
theorem CRow.base (h : CRow E e w B v ps) : ∀ k, v.ownBlock = some k → B ≤ k := by
  intro k hk
  rcases h.own.2 with ⟨e, _⟩ | ⟨g, cap, cur, e, hb, _⟩
  · rw [e] at hk; cases hk
  · rw [e] at hk; cases hk; exact hb
theorem CRow.lt (h : CRow E e w B v ps) : ∀ k, v.ownBlock = some k → k < w.heap.size := by
  intro k hk
  rcases h.own.2 with ⟨e, _⟩ | ⟨g, cap, cur, e, _, hg, _⟩
  · rw [e] at hk; cases hk
  · rw [e] at hk; cases hk; exact (Array.getElem?_eq_some_iff.1 hg).1
theorem CRow.keptF {F : Nat → Prop} (h : CRow E e w B v ps) (k : Kept F w w') (hF : ∀ i, F i → i < B) : CRow E e w' B v ps :=
  ⟨Kept.row k h.own (fun i hi hf => by have := h.base i hi; have := hF i hf; omega), fun p hp => (h.kids p hp).move (fun b o l hb i hr => rangeAt_kept k (fun hf => by have := hF b hf; have := hb.1.1; omega) hr) (fun b o hb => ⟨hb.1.kept k (fun hf => by have := hF b hf; have := hb.1.1; omega), hb.2⟩)⟩
theorem CRow.kept (h : CRow E e w B v ps) (k : Kept Nil w w') : CRow E e w' B v ps := h.keptF k (fun _ g => g.elim)
theorem CRow.shape (h : CRow E e w B v ps) : ∃ a cap, v = .slice a ps.length cap := by
  rcases h.own.2 with ⟨e, e0⟩ | ⟨g, cap, cur, e, _⟩
  · exact ⟨none, 0, by rw [e, e0]⟩
  · exact ⟨_, _, e⟩
theorem CRow.holds (hE : Kind8 E) (h : CRow E e w B v ps) : Holds E w (okM B w) v (ps.map (·.1)) := by
  rcases h.own.2 with ⟨e1, e0⟩ | ⟨g, cap, cur, e1, hb, hg, hnc, _⟩
  · obtain rfl := List.length_eq_zero_iff.1 e0
    subst e1
    exact .nil none 0
  · subst e1
    have hl : (ps.map (·.1)).length = ps.length := by simp
    have key := Holds.row (E := E) (w := w) (ok := okM B w) g 0 cap (ps.map (·.1)) (fun i => match ps[i]? with | some p => p.2 | none => undef) (by rw [hl]; exact hnc) ⟨hb, (Array.getElem?_eq_some_iff.1 hg).1, rfl, fun i => by simp [World.frozen?, hg]⟩
    rw [hl] at key
    refine key (fun i x hi => ?_) (fun i x hi => ?_)
    · rw [List.getElem?_map] at hi
      obtain ⟨p, hp, rfl⟩ := Option.map_eq_some_iff.1 hi
      rw [hp]
      intro j u hj
      have hj8 : j < 8 := by have := (List.getElem?_eq_some_iff.1 hj).1; rwa [hE.len] at this
      have := h.own.cells (g := g) rfl (i * 8 + j) u (by rw [flatC_get hE ps i j p hp hj8]; exact hj)
      rw [show (⟨g, 0, none⟩ : Addr).add (i * 8 + j) = ⟨g, 0 + i * 8 + j, none⟩ from by unfold Addr.add; split <;> simp_all] at this
      exact this
    · rw [List.getElem?_map] at hi
      obtain ⟨p, hp, rfl⟩ := Option.map_eq_some_iff.1 hi
      rw [hp]
      exact (h.kids p (List.mem_of_getElem? hp)).mono (fun b o hb => hb.1)
theorem slice_one {a : Option Addr} {n c : Nat} : (Value.slice a n c).oneCell' = true := rfl
theorem Holds.one {ok : Nat → Nat → Prop} {subs : List Sh} (h : Holds E w ok v subs) : v.oneCell' = true := by obtain ⟨a, c, rfl⟩ := h.shape; rfl
theorem CRow.append {P : Program} (hE : Kind8 E) {t : TypeId} {i0 : TypeInfo} {z : Value} {bytes : Nat} (ht : P.underlying t = some (.slice e)) (hi : P.info? e = some i0) (hz : i0.zero = some z) (hsize : i0.size = 8) (hby : i0.bytes = bytes) (hzs : z.cells.size = 8) (hb128 : bytes ≤ 128)
    (h : CRow E e w B v ps) (hl : ps.length ≤ 5000) (hB : B ≤ w.heap.size) (ty : TypeId) (s : Sh) (u : Value) (Bk : Nat) (hb : ∀ j x, (E s.hd u)[j]? = some x → w.cell? ⟨Bk, j, none⟩ = some x) (hh : Holds E w (okN B w v) u s.subs) :
    ∃ g cap w', (Builtin.append_ #[t, t] ty #[v, .slice (some ⟨Bk, 0, none⟩) 1 1]).run P w = .ok (.slice (some ⟨g, 0, none⟩) (ps.length + 1) cap) w' ∧ CRow E e w' B (.slice (some ⟨g, 0, none⟩) (ps.length + 1) cap) (ps ++ [(s, u)]) ∧ Kept (fun k => v.ownBlock = some k) w w' := by
  obtain ⟨g, cap, w', r, o, gr, hg, hgl⟩ := run_append_lies (P := P) w t ty B e i0 z 8 bytes ht hi hz hsize hby hzs (by decide) v ps.length (flatC E ps) h.own ⟨Bk, 0, none⟩ 1 1 (E s.hd u) (by rw [hE.len]) (fun j x hx => by
    rw [Addr.add_mid, Nat.zero_add]; exact hb j x hx) (hE.one _ _ hh.one) (by decide) (by unfold maxLen; omega) (Nat.le_trans (Nat.mul_le_mul (show ps.length + 1 ≤ 5001 by omega) hb128) (by decide)) hB w.heap.size rfl
  have kk : Kept (fun k => v.ownBlock = some k) w w' := ⟨gr.os, gr.tape, gr.output, gr.size, fun k hk hF => gr.block k hk (fun e => hF e.symm)⟩
  have hmv : ∀ (x : Value) (l : List Sh), Holds E w (okN B w v) x l → Holds E w' (okN B w' (.slice (some ⟨g, 0, none⟩) (ps.length + 1) cap)) x l := fun x l hx =>
    hx.move (fun b o l hb' i hr => rangeAt_kept kk hb'.2 hr) (fun b o hb' => ⟨hb'.1.kept kk hb'.2, fun eg => by
      have eg' : g = b := by simpa [Value.ownBlock] using eg
      rcases hg with hg | hg
      · exact hb'.2 (by rw [hg, eg'])
      · have := hb'.1.2.1; omega⟩)
  refine ⟨g, cap, w', r, ⟨?_, fun p hp => ?_⟩, kk⟩
  · have e1 : flatC E (ps ++ [(s, u)]) = flatC E ps ++ E s.hd u := by unfold flatC; simp
    rw [e1, List.length_append]
    exact o
  · rcases List.mem_append.1 hp with hp | hp
    · exact hmv _ _ (h.kids p hp)
    · rw [List.mem_singleton] at hp
      subst hp
      exact hmv _ _ hh
end
/-- append as one step of a region that draws, by an equation on its run. -/
theorem step_append_run {P : Program} {ops : Array Oper} {o : Oper} {a : Act} {w : World} {K : Act → World → Prop} {Q : Exit → Act → World → Prop} {E' : Prop} (hgd : o.guard = none) (s x : Operand) (t : TypeId)
    (ho : o.op = .call { callee := .builtin .append, args := #[s, x], argTypes := #[t, t] }) (v y : Value) (hs : a.eval s = v) (hx : a.eval x = y) {v' : Value} {w' : World}
    (hr : (Builtin.append_ #[t, t] o.type #[v, y]).run P w = .ok v' w') (h : K (a.put o.dst v') w') : if Region.wanted o (yielded ops a.tmps) = true then Oper.wp P o a w K Q else E' := by
  rw [if_pos (by simp [Region.wanted, hgd])]
  unfold Oper.wp execOp
  simp only [ho, resolve, invoke, builtin, Sem.run_bind, Sem.run_pure, Result.andThen_ok, List.map_toArray, List.map_cons, List.map_nil, hs, hx, hr]
  exact h
theorem infoCA : (Try.prog.info? 38).map (fun i => (i.zero, i.size, i.bytes)) = some (some (.agg #[.int .i64 0, .bool false, .int .i64 0, .bool false, .int .i64 0, .bool false, .int .i64 0, .slice none 0 0]), 8, 80) := by kernel_rfl
theorem infoCR : (Try.prog.info? 45).map (fun i => (i.zero, i.size, i.bytes)) = some (some (.agg #[.int .i64 0, .int .i64 0, .int .i64 0, .int .i64 0, .int .i64 0, .int .i64 0, .int .i64 0, .slice none 0 0]), 8, 80) := by kernel_rfl
theorem appendR {w : World} {B : Nat} {v : Value} {ps : List (Sh × Value)} (h : CRow cR 45 w B v ps) (hl : ps.length ≤ 5000) (hB : B ≤ w.heap.size) (s : Sh) (u : Value) (Bk : Nat) (hb : ∀ j x, (cR s.hd u)[j]? = some x → w.cell? ⟨Bk, j, none⟩ = some x) (hh : Holds cR w (okN B w v) u s.subs) :
    ∃ g cap w', (Builtin.append_ #[31, 31] 31 #[v, .slice (some ⟨Bk, 0, none⟩) 1 1]).run Try.prog w = .ok (.slice (some ⟨g, 0, none⟩) (ps.length + 1) cap) w' ∧ CRow cR 45 w' B (.slice (some ⟨g, 0, none⟩) (ps.length + 1) cap) (ps ++ [(s, u)]) ∧ Kept (fun k => v.ownBlock = some k) w w' := by
  obtain ⟨i0, hi, hz0, hz1, hz2⟩ := info_parts infoCR
  exact h.append kindR Try.underlying31 hi hz0 hz1 hz2 rfl (by decide) hl hB _ s u Bk hb hh
theorem appendA {w : World} {B : Nat} {v : Value} {ps : List (Sh × Value)} (h : CRow cA 38 w B v ps) (hl : ps.length ≤ 5000) (hB : B ≤ w.heap.size) (s : Sh) (u : Value) (Bk : Nat) (hb : ∀ j x, (cA s.hd u)[j]? = some x → w.cell? ⟨Bk, j, none⟩ = some x) (hh : Holds cA w (okN B w v) u s.subs) :
    ∃ g cap w', (Builtin.append_ #[22, 22] 22 #[v, .slice (some ⟨Bk, 0, none⟩) 1 1]).run Try.prog w = .ok (.slice (some ⟨g, 0, none⟩) (ps.length + 1) cap) w' ∧ CRow cA 38 w' B (.slice (some ⟨g, 0, none⟩) (ps.length + 1) cap) (ps ++ [(s, u)]) ∧ Kept (fun k => v.ownBlock = some k) w w' := by
  obtain ⟨i0, hi, hz0, hz1, hz2⟩ := info_parts infoCA
  exact h.append kindA Try.underlying22 hi hz0 hz1 hz2 rfl (by decide) hl hB _ s u Bk hb hh
end Go.Proofs.Ytefojaeinhgeiaa
