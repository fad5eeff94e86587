/- A list of owners (string,int): where the ends of any place are; a value put in. -/
import Derived.Test.YtodghgeghpbdlaaBpB
namespace Go.Proofs.Ytodghgeghpbdlaa
set_option maxRecDepth 100000
open Go.RowKit Go.Maps

section
variable {w w' : World} {B p : Nat} {m : Value} {g : Nat → Nat} {row : List Nat} {vals : List (ByteArray × Option Nat)}
/-- 'at', of whatever world in which the map has the handle. -/
theorem at_p {x : Nat} (c0 : w.cell? ⟨p, 0, none⟩ = some m) (hlook : x ≠ 0 → (Instr.lookup 181 m (.int .i64 (x : Int)) false).run Try.prog w = .ok (.pointer (some ⟨g x, 0, none⟩)) w) :
    Calls Try.prog 112 #[.pointer (some ⟨p, 0, none⟩), .int .i64 (x : Int)] w fun e w' => e = .returned (.pointer (some ⟨eb p g x, eo x, none⟩)) ∧ w = w' := by
  by_cases h0 : x = 0
  · subst h0
    clear hlook
    go_enter Try.func112, Try.ntmps112
    go_wp2
    go_ret
    exact ⟨rfl, rfl⟩
  · have hlook := hlook h0
    have hne : (↑x == (0 : Int)) = false := by simp; omega
    have he : eb p g x = g x := if_neg h0
    have ho : eo x = 0 := if_neg h0
    rw [he, ho]
    clear he ho
    go_enter Try.func112, Try.ntmps112
    go_wp2
    go_ret
    exact ⟨rfl, rfl⟩
theorem look_p {bm n : Nat} {D : DataW Unit} (ho : w.ownsMap (H := Unit) Try.prog 3 ptrE bm n D) {x : Nat} (hg : D.atKey (.int .i64 (x : Int)) .nil = .lit (.int .i64 (g x : Int))) (hl : x ≤ 1000000) :
    (Instr.lookup 181 (.map (some bm)) (.int .i64 (x : Int)) false).run Try.prog w = .ok (.pointer (some ⟨g x, 0, none⟩)) w := by
  have hkey : keyOf Try.prog 3 (.int .i64 (x : Int)) = some (.int .i64 (x : Int)) := keyOf_int_mk Try.underlying3 (WalkArith.wf_i64 (by omega))
  obtain ⟨v, ps, hrun, hv⟩ := ho.lookup lawP Try.underlying181 (zeroP w) ptrE_nil hkey
  rw [hg] at hv
  rw [hrun, ptrE_inv hv]
/-- The block in which the ends of a place are, and its cells. -/
theorem LstP.ends (h : LstP w B p m g row vals) {x : Nat} (hx : x = 0 ∨ x ∈ row) : ∃ t cs, Blk w (eb p g x) t cs ∧ cs[eo x]? = some (.int .i64 (bf 0 row x : Nat)) ∧ cs[eo x + 1]? = some (.int .i64 (nx (0 :: row) x : Nat)) := by
  by_cases h0 : x = 0
  · subst h0
    exact ⟨_, _, h.here, rfl, rfl⟩
  · obtain ⟨v, _, hb⟩ := h.cell x (hx.resolve_left h0)
    unfold eb eo
    rw [if_neg h0, if_neg h0]
    exact ⟨_, _, hb, rfl, rfl⟩
theorem LstP.ends_live (h : LstP w B p m g row vals) {x : Nat} (hx : x = 0 ∨ x ∈ row) : Live w (eb p g x) 3 := by
  by_cases h0 : x = 0
  · subst h0
    exact ⟨_, _, h.here, by simp⟩
  · obtain ⟨v, _, hb⟩ := h.cell x (hx.resolve_left h0)
    unfold eb
    rw [if_neg h0]
    exact ⟨_, _, hb, by simp⟩
theorem LstP.ends_bm {bm : Nat} (h : LstP w B p (.map (some bm)) g row vals) {x : Nat} (hx : x = 0 ∨ x ∈ row) : eb p g x ≠ bm := by
  obtain ⟨t, cs, hb, _⟩ := h.ends hx
  rcases h.mp with ⟨e, _⟩ | ⟨bm', D', e, _, ho, _⟩
  · cases e
  · cases e
    obtain ⟨es, c, hbb, _⟩ := ho
    intro e
    unfold Blk at hb
    rw [e, hbb] at hb; cases hb
theorem LstP.ends_set (h : LstP w B p m g row vals) {x : Nat} (hx : x = 0 ∨ x ∈ row) (u : Value) : (w.setCell ⟨p, 3, none⟩ u).cell? ⟨eb p g x, eo x, none⟩ = some (.int .i64 (bf 0 row x : Nat)) := by
  obtain ⟨t, cs, hb, h1, h2⟩ := h.ends hx
  rw [(hb.set_if p 3 u).cell]
  split
  · have : (3 : Nat) ≠ eo x := by unfold eo; split <;> omega
    rw [Array.getElem?_setIfInBounds_ne this]; exact h1
  · exact h1
theorem LstP.ends_fo (h : LstP w B p m g row vals) {x : Nat} (hx : x = 0 ∨ x ∈ row) : FoP w B m (eb p g x) := by
  by_cases h0 : x = 0
  · subst h0
    exact ⟨h.base, .inr ⟨_, _, .inl h.here⟩⟩
  · obtain ⟨v, _, hb⟩ := h.cell x (hx.resolve_left h0)
    unfold eb
    rw [if_neg h0]
    exact ⟨h.low x (hx.resolve_left h0), .inr ⟨_, _, .inr hb⟩⟩
/-- The block of a list is no handle's. -/
theorem LstP.apart (h : LstP w B p m g row vals) {x : Nat} (hx : x ∈ row) : g x ≠ p := by
  obtain ⟨v, _, hb⟩ := h.cell x hx
  intro e
  rw [e] at hb
  have := h.here
  unfold Blk at this hb
  rw [this] at hb
  simp at hb
theorem LstP.eb_eq (h : LstP w B p m g row vals) {x y : Nat} (hx : x = 0 ∨ x ∈ row) (hy : y = 0 ∨ y ∈ row) : eb p g x = eb p g y ↔ x = y := by
  constructor
  · intro e
    unfold eb at e
    split at e <;> split at e
    · omega
    · exact absurd e.symm (h.apart (hy.resolve_left (by assumption)))
    · exact absurd e (h.apart (hx.resolve_left (by assumption)))
    · exact h.inj x (hx.resolve_left (by assumption)) y (hy.resolve_left (by assumption)) e
  · intro e; rw [e]

/-- The worlds of a value's putting in, one behind the other. -/
structure PutP (w w2 w3 w4 w5 w6 : World) (p bm : Nat) (g : Nat → Nat) (N : Int) (h a : Nat) (v : (ByteArray × Option Nat)) : Prop where
  two : Kept Nil (w.setCell ⟨p, 3, none⟩ (.int .i64 N)) w2 ∧ w2.heap.size = w.heap.size
  three : w3 = w2.alloc (.cells #[.int .i64 (a : Int), .int .i64 (h : Int), .string v.1, .map v.2] 188)
  four : w3.grownBy w4 (some bm)
  five : w5 = w4.setCell ⟨eb p g a, eo a + 1, none⟩ (.int .i64 N)
  six : w6 = w5.setCell ⟨eb p g h, eo h, none⟩ (.int .i64 N)

theorem LstP.put {w2 w3 w4 w5 w6 : World} {bm n h a : Nat} {v : (ByteArray × Option Nat)} {D : DataW Unit} (H : LstP w B p (.map (some bm)) g row vals) {N : Int} (P : PutP w w2 w3 w4 w5 w6 p bm g N h a v) (hN : N = (n : Int)) (hn : n = vals.length + 1) (hh : h = 0 ∨ h ∈ row) (ha : a = bf 0 row h)
    (hD : MapOf D row g) {q : Nat} (hq : q = w.heap.size) (hm : w4.ownsMap (H := Unit) Try.prog 3 ptrE bm (vals.length + 1) (D.put (.int .i64 N) (.lit (.int .i64 (q : Int))))) :
    LstP w6 B p (.map (some bm)) (fun x => if x = n then w.heap.size else g x) (ins row h n) (vals ++ [v]) ∧ Kept (FoP w B (.map (some bm))) w w6 := by
  subst hN hq
  rw [← hn] at hm
  obtain ⟨h2, h3, h4, h5, h6⟩ := P
  have hnr : n ∉ row := fun e => by have := (H.range n e).2; omega
  have ha' : a = 0 ∨ a ∈ row := by rw [ha]; exact bf_mem
  have hs2 : w2.heap.size = w.heap.size := h2.2
  have hs3 : w3.heap.size = w.heap.size + 1 := by rw [h3, World.size_alloc, hs2]
  have hbm : B ≤ bm ∧ bm < w.heap.size ∧ ∃ es c, w.heap[bm]? = some (.map es c) := by
    rcases H.mp with ⟨e, _⟩ | ⟨bm', D', e, hb, ho, _⟩
    · cases e
    · cases e
      refine ⟨hb, ho.lt, ?_⟩
      obtain ⟨es, c, hbb, _⟩ := ho
      exact ⟨es, c, hbb⟩
  have hpm : p ≠ bm := fun e => by
    obtain ⟨es, c, hb⟩ := hbm.2.2
    have := H.here
    unfold Blk at this
    rw [e, hb] at this; cases this
  have hgm : ∀ x ∈ row, g x ≠ bm := fun x hx e => by
    obtain ⟨es, c, hb⟩ := hbm.2.2
    obtain ⟨v', _, hc⟩ := H.cell x hx
    unfold Blk at hc
    rw [e, hb] at hc; cases hc
  have hp6 : Blk w6 p 185 #[.map (some bm), .int .i64 ((if 0 = h then n else bf 0 row 0 : Nat) : Int), .int .i64 ((if 0 = a then n else nx (0 :: row) 0 : Nat) : Int), .int .i64 (n : Int)] := by
    have b2 := (H.here.set_ 3 (.int .i64 (n : Int))).kept h2.1 (fun e => e)
    have b3 := b2.alloc (.cells #[.int .i64 (a : Int), .int .i64 (h : Int), .string v.1, .map v.2] 188)
    rw [← h3] at b3
    have b4 : Blk w4 p _ _ := (h4.block p b3.lt (by simpa using hpm)).trans b3
    have b5 := b4.set_if (eb p g a) (eo a + 1) (.int .i64 (n : Int))
    rw [← h5] at b5
    have b6 := b5.set_if (eb p g h) (eo h) (.int .i64 (n : Int))
    rw [← h6] at b6
    have e1 : eb p g a = p ↔ 0 = a := by have := H.eb_eq ha' (y := 0) (.inl rfl); rw [show eb p g 0 = p from rfl] at this; rw [this]; exact eq_comm
    have e2 : eb p g h = p ↔ 0 = h := by have := H.eb_eq hh (y := 0) (.inl rfl); rw [show eb p g 0 = p from rfl] at this; rw [this]; exact eq_comm
    simp only [e1, e2] at b6
    by_cases q1 : 0 = a <;> by_cases q2 : 0 = h
    · subst q1 q2; simpa [eo] using b6
    · subst q1; simpa [eo, q2] using b6
    · subst q2; simpa [eo, q1] using b6
    · simpa [q1, q2] using b6
  have hc6 : ∀ x ∈ row, ∀ v' : (ByteArray × Option Nat), Blk w (g x) 188 #[.int .i64 (bf 0 row x : Nat), .int .i64 (nx (0 :: row) x : Nat), .string v'.1, .map v'.2] → Blk w6 (g x) 188 #[.int .i64 ((if x = h then n else bf 0 row x : Nat) : Int), .int .i64 ((if x = a then n else nx (0 :: row) x : Nat) : Int), .string v'.1, .map v'.2] := by
    intro x hx v' hb
    have hx0 : x ≠ 0 := fun e => H.zero (e ▸ hx)
    have b2 := (hb.far (p := ⟨p, 3, none⟩) (H.apart hx) (.int .i64 (n : Int))).kept h2.1 (fun e => e)
    have b3 := b2.alloc (.cells #[.int .i64 (a : Int), .int .i64 (h : Int), .string v.1, .map v.2] 188)
    rw [← h3] at b3
    have b4 : Blk w4 (g x) _ _ := (h4.block (g x) b3.lt (by simpa using hgm x hx)).trans b3
    have b5 := b4.set_if (eb p g a) (eo a + 1) (.int .i64 (n : Int))
    rw [← h5] at b5
    have b6 := b5.set_if (eb p g h) (eo h) (.int .i64 (n : Int))
    rw [← h6] at b6
    have ex : eb p g x = g x := if_neg hx0
    have e1 : eb p g a = g x ↔ x = a := by rw [← ex, H.eb_eq ha' (.inr hx)]; exact eq_comm
    have e2 : eb p g h = g x ↔ x = h := by rw [← ex, H.eb_eq hh (.inr hx)]; exact eq_comm
    simp only [e1, e2] at b6
    by_cases q1 : x = a <;> by_cases q2 : x = h
    · subst q1 q2; simpa [eo, hx0] using b6
    · subst q1; simpa [eo, q2, hx0] using b6
    · subst q2; simpa [eo, q1, hx0] using b6
    · simpa [q1, q2] using b6
  have hn6 : Blk w6 w.heap.size 188 #[.int .i64 (a : Int), .int .i64 (h : Int), .string v.1, .map v.2] := by
    have b3 := Blk.new w2 188 #[.int .i64 (a : Int), .int .i64 (h : Int), .string v.1, .map v.2]
    rw [← h3, hs2] at b3
    have b4 : Blk w4 w.heap.size _ _ := (h4.block _ b3.lt (by have := hbm.2.1; simp; omega)).trans b3
    have lt : ∀ y, y = 0 ∨ y ∈ row → eb p g y < w.heap.size := fun y hy => by obtain ⟨_, _, hb, _⟩ := H.ends hy; exact hb.lt
    have b5 := b4.far (p := ⟨eb p g a, eo a + 1, none⟩) (fun e => Nat.lt_irrefl _ (e ▸ lt a ha')) (.int .i64 (n : Int))
    rw [← h5] at b5
    have b6 := b5.far (p := ⟨eb p g h, eo h, none⟩) (fun e => Nat.lt_irrefl _ (e ▸ lt h hh)) (.int .i64 (n : Int))
    rw [← h6] at b6
    exact b6
  have hnd : (0 :: row).Nodup := List.nodup_cons.2 ⟨H.zero, H.nodup⟩
  have hn0 : n ≠ 0 := by omega
  have f1 : ∀ x, x = 0 ∨ x ∈ row → bf 0 (ins row h n) x = if x = h then n else bf 0 row x := fun x hx => by
    refine bf_ins (fun e => ?_) ?_
    · rcases hx with e' | e'
      · omega
      · exact hnr (e ▸ e')
    · rcases hx with e' | e'
      · rcases hh with e2 | e2
        · exact .inl (e'.trans e2.symm)
        · exact .inr (.inr e2)
      · exact .inr (.inl e')
  have f2 : ∀ x, x = 0 ∨ x ∈ row → nx (0 :: ins row h n) x = if x = a then n else nx (0 :: row) x := fun x hx => by
    rw [ha]
    refine nx_ins hnd (fun e => ?_)
    rcases hx with e' | e'
    · omega
    · exact hnr (e ▸ e')
  have hkept : Kept (FoP w B (.map (some bm))) w w6 := by
    have k2 : Kept (FoP w B (.map (some bm))) w w2 := ((Kept.refl _ w).setCell _ (.inl (show FoP w B (.map (some bm)) (eb p g 0) from H.ends_fo (x := 0) (.inl rfl))) _).trans h2.1 (fun _ _ e => e.elim)
    have k3 : Kept (FoP w B (.map (some bm))) w w3 := by rw [h3]; exact k2.alloc _
    have k4 : Kept (FoP w B (.map (some bm))) w w4 := k3.grown h4 (fun k e => .inl ⟨by cases e; exact hbm.1, .inl (by cases e; rfl)⟩)
    have k5 : Kept (FoP w B (.map (some bm))) w w5 := by rw [h5]; exact k4.setCell _ (.inl (H.ends_fo ha')) _
    rw [h6]
    exact k5.setCell _ (.inl (H.ends_fo hh)) _
  refine ⟨⟨H.base, ?_, nodup_ins H.nodup hnr, fun x hx => ?_, fun x hx => ?_, fun x hx => ?_, fun x hx y hy e => ?_, .inr ⟨bm, _, rfl, hbm.1, ?_, hD.put hnr _⟩⟩, hkept⟩
  · rw [f1 0 (.inl rfl), f2 0 (.inl rfl)]
    have : (vals ++ [v]).length = n := by rw [hn]; simp
    rw [this]
    exact hp6
  · rcases mem_ins.1 hx with e | e
    · subst e; simp; omega
    · have := H.range x e; simp; omega
  · rcases mem_ins.1 hx with e | e
    · subst e
      refine ⟨v, by rw [hn]; simp, ?_⟩
      rw [if_pos rfl, bf_ins_same hnr, nx_ins_same hn0 hnr hh, ← ha]
      exact hn6
    · obtain ⟨v', hv, hb⟩ := H.cell x e
      have hr := H.range x e
      refine ⟨v', by rw [List.getElem?_append_left (by omega)]; exact hv, ?_⟩
      rw [if_neg (fun e' : x = n => hnr (e' ▸ e)), f1 x (.inr e), f2 x (.inr e)]
      exact hc6 x e v' hb
  · by_cases q : x = n
    · rw [if_pos q]; exact Nat.le_of_lt (Nat.lt_of_le_of_lt H.base H.here.lt)
    · rw [if_neg q]; exact H.low x ((mem_ins.1 hx).resolve_left q)
  · have lt : ∀ y ∈ row, g y < w.heap.size := fun y hy => by obtain ⟨_, _, hb⟩ := H.cell y hy; exact hb.lt
    by_cases q : x = n <;> by_cases q' : y = n
    · rw [q, q']
    · have := lt y ((mem_ins.1 hy).resolve_left q')
      simp only [q, q', if_true, if_false] at e; omega
    · have := lt x ((mem_ins.1 hx).resolve_left q)
      simp only [q, q', if_true, if_false] at e; omega
    · simp only [q, q', if_false] at e
      exact H.inj x ((mem_ins.1 hx).resolve_left q) y ((mem_ins.1 hy).resolve_left q') e
  · have : (vals ++ [v]).length = n := by rw [hn]; simp
    rw [this]
    have m5 := hm.setCell (a := ⟨eb p g a, eo a + 1, none⟩) (fun e => ?_) (.int .i64 (n : Int))
    · rw [← h5] at m5
      have m6 := m5.setCell (a := ⟨eb p g h, eo h, none⟩) (fun e => ?_) (.int .i64 (n : Int))
      · rw [← h6] at m6; exact m6
      · simp only at e
        unfold eb at e
        split at e
        · exact hpm e.symm
        · exact hgm h (hh.resolve_left (by assumption)) e.symm
    · simp only at e
      unfold eb at e
      split at e
      · exact hpm e.symm
      · exact hgm a (ha'.resolve_left (by assumption)) e.symm
end
end Go.Proofs.Ytodghgeghpbdlaa
