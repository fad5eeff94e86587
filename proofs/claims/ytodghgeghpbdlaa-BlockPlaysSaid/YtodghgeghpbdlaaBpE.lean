/- A list of owners (string,int): Remove. -/
import Derived.Test.YtodghgeghpbdlaaBpD
import Derived.StillTailTactics
namespace Go.Proofs.Ytodghgeghpbdlaa
set_option maxRecDepth 100000
open Go.RowKit Go.Maps

section
variable {w w' : World} {B p : Nat} {m : Value} {g : Nat → Nat} {row : List Nat} {vals : List (ByteArray × Option Nat)}
theorem LstP.take {w2 w3 w4 w5 : World} {bm h a b : Nat} {D : DataW Unit} (H : LstP w B p (.map (some bm)) g row vals) (hh : h ∈ row) (ha : a = bf 0 row h) (hb : b = nx (0 :: row) h) (hD : MapOf D row g)
    (h2 : Kept Nil w w2) (h3 : Kept Nil (w2.setCell ⟨eb p g a, eo a + 1, none⟩ (.int .i64 (b : Int))) w3) (h4 : Kept Nil (w3.setCell ⟨eb p g b, eo b, none⟩ (.int .i64 (a : Int))) w4) (h5 : w4.grownBy w5 (some bm))
    (hm : w5.ownsMap (H := Unit) Try.prog 3 ptrE bm vals.length (D.del (.int .i64 (h : Int)))) :
    LstP w5 B p (.map (some bm)) g (rm row h) vals ∧ Kept (FoP w B (.map (some bm))) w w5 := by
  have ha' : a = 0 ∨ a ∈ row := by rw [ha]; exact bf_mem
  have hb' : b = 0 ∨ b ∈ row := by rw [hb]; exact nx_mem0
  have hbm : B ≤ bm := by
    rcases H.mp with ⟨e, _⟩ | ⟨bm', D', e, hb, ho, _⟩
    · cases e
    · cases e; exact hb
  have hpm : p ≠ bm := H.ends_bm (x := 0) (.inl rfl)
  have hgm : ∀ x ∈ row, g x ≠ bm := fun x hx e => H.ends_bm (x := x) (.inr hx) (by unfold eb; rw [if_neg (fun e : x = 0 => H.zero (e ▸ hx))]; exact e)
  have hp5 : Blk w5 p 185 #[.map (some bm), .int .i64 ((if 0 = b then a else bf 0 row 0 : Nat) : Int), .int .i64 ((if 0 = a then b else nx (0 :: row) 0 : Nat) : Int), .int .i64 vals.length] := by
    have b2 := H.here.kept h2 (fun e => e)
    have b3 := (b2.set_if (eb p g a) (eo a + 1) (.int .i64 (b : Int))).kept h3 (fun e => e)
    have b4 := (b3.set_if (eb p g b) (eo b) (.int .i64 (a : Int))).kept h4 (fun e => e)
    have b5 : Blk w5 p _ _ := (h5.block p b4.lt (by simpa using hpm)).trans b4
    have e1 : eb p g a = p ↔ 0 = a := by have := H.eb_eq ha' (y := 0) (.inl rfl); rw [show eb p g 0 = p from rfl] at this; rw [this]; exact eq_comm
    have e2 : eb p g b = p ↔ 0 = b := by have := H.eb_eq hb' (y := 0) (.inl rfl); rw [show eb p g 0 = p from rfl] at this; rw [this]; exact eq_comm
    simp only [e1, e2] at b5
    clear ha hb hm h3 h4 b3 b4
    by_cases q1 : 0 = a <;> by_cases q2 : 0 = b
    · subst q1 q2; simpa [eo] using b5
    · subst q1; simpa [eo, q2] using b5
    · subst q2; simpa [eo, q1] using b5
    · simpa [q1, q2] using b5
  have hc5 : ∀ x ∈ row, ∀ v' : (ByteArray × Option Nat), Blk w (g x) 188 #[.int .i64 (bf 0 row x : Nat), .int .i64 (nx (0 :: row) x : Nat), .string v'.1, .map v'.2] → Blk w5 (g x) 188 #[.int .i64 ((if x = b then a else bf 0 row x : Nat) : Int), .int .i64 ((if x = a then b else nx (0 :: row) x : Nat) : Int), .string v'.1, .map v'.2] := by
    intro x hx v' hbx
    have hx0 : x ≠ 0 := fun e => H.zero (e ▸ hx)
    have b2 := hbx.kept h2 (fun e => e)
    have b3 := (b2.set_if (eb p g a) (eo a + 1) (.int .i64 (b : Int))).kept h3 (fun e => e)
    have b4 := (b3.set_if (eb p g b) (eo b) (.int .i64 (a : Int))).kept h4 (fun e => e)
    have b5 : Blk w5 (g x) _ _ := (h5.block (g x) b4.lt (by simpa using hgm x hx)).trans b4
    have ex : eb p g x = g x := if_neg hx0
    have e1 : eb p g a = g x ↔ x = a := by rw [← ex, H.eb_eq ha' (.inr hx)]; exact eq_comm
    have e2 : eb p g b = g x ↔ x = b := by rw [← ex, H.eb_eq hb' (.inr hx)]; exact eq_comm
    simp only [e1, e2] at b5
    clear ha hb hm h3 h4 b3 b4
    by_cases q1 : x = a <;> by_cases q2 : x = b
    · subst q1 q2; simpa [eo, hx0] using b5
    · subst q1; simpa [eo, q2, hx0] using b5
    · subst q2; simpa [eo, q1, hx0] using b5
    · simpa [q1, q2] using b5
  have hnd : (0 :: row).Nodup := List.nodup_cons.2 ⟨H.zero, H.nodup⟩
  have h0 : 0 ≠ h := fun e => H.zero (e ▸ hh)
  have f1 : ∀ x, x ∈ row ∨ x = 0 → x ≠ h → bf 0 (rm row h) x = if x = b then a else bf 0 row x := fun x hx hne => by
    rw [ha, hb]; exact bf_rm hnd H.zero hh hne hx
  have f2 : ∀ x, x ≠ h → nx (0 :: rm row h) x = if x = a then b else nx (0 :: row) x := fun x hne => by
    rw [ha, hb]; exact nx_rm hnd hh hne
  have hfo : ∀ {x : Nat}, x = 0 ∨ x ∈ row → FoP w B (.map (some bm)) (eb p g x) := fun hx => H.ends_fo hx
  have k2 : Kept (FoP w B (.map (some bm))) w w2 := h2.mono (fun _ _ e => e.elim)
  have k3 : Kept (FoP w B (.map (some bm))) w w3 := (k2.setCell ⟨eb p g a, eo a + 1, none⟩ (.inl (hfo ha')) _).trans h3 (fun _ _ e => e.elim)
  have k4 : Kept (FoP w B (.map (some bm))) w w4 := (k3.setCell ⟨eb p g b, eo b, none⟩ (.inl (hfo hb')) _).trans h4 (fun _ _ e => e.elim)
  have k5 : Kept (FoP w B (.map (some bm))) w w5 := k4.grown h5 (fun k e => .inl ⟨by cases e; exact hbm, .inl (by cases e; rfl)⟩)
  refine ⟨⟨H.base, ?_, nodup_rm H.nodup, fun x hx => H.range x (mem_rm.1 hx).1, fun x hx => ?_, fun x hx => H.low x (mem_rm.1 hx).1, fun x hx y hy e => H.inj x (mem_rm.1 hx).1 y (mem_rm.1 hy).1 e, .inr ⟨bm, _, rfl, hbm, hm, hD.del H.nodup hh⟩⟩, k5⟩
  · rw [f1 0 (.inr rfl) h0, f2 0 h0]
    exact hp5
  · have hx' := mem_rm.1 hx
    obtain ⟨v', hv, hbx⟩ := H.cell x hx'.1
    refine ⟨v', hv, ?_⟩
    rw [f1 x (.inl hx'.1) hx'.2, f2 x hx'.2]
    exact hc5 x hx'.1 v' hbx

theorem LstP.ends_ne (h : LstP w B p m g row vals) {x b : Nat} {t : TypeId} {cs : Array Value} (hx : x = 0 ∨ x ∈ row) (hb : Blk w b t cs) (h1 : t ≠ 185) (h2 : t ≠ 188) : b ≠ eb p g x := by
  intro e
  by_cases q : x = 0
  · have := h.here
    unfold eb at e
    rw [if_pos q] at e
    unfold Blk at this hb
    rw [e, this] at hb
    simp at hb
    exact h1 hb.2.symm
  · obtain ⟨v', _, hc⟩ := h.cell x (hx.resolve_left q)
    unfold eb at e
    rw [if_neg q] at e
    unfold Blk at hc hb
    rw [e, hc] at hb
    simp at hb
    exact h2 hb.2.symm

set_option maxHeartbeats 4000000 in
theorem removeH_p {bm : Nat} (h : LstP w B p (.map (some bm)) g row vals) (hl : vals.length ≤ 100000) {x : Nat} (hx : x ∈ row) {v : (ByteArray × Option Nat)} (hv : vals[x - 1]? = some v) :
    Calls Try.prog 76 #[.pointer (some ⟨p, 0, none⟩), .int .i64 (x : Int)] w fun e w' => e = .returned (.tuple #[.agg #[.string v.1, .map v.2], .bool true]) ∧ LstP w' B p (.map (some bm)) g (rm row x) vals ∧ Kept (FoP w B (.map (some bm))) w w' := by
  go_enter Try.func76, Try.ntmps76
  go_upto_region 1 with fail
  have HKa := Lib.hid ((Kept.refl Nil w).alloc (.cells #[.string (ByteArray.mk #[]), .map none] 136))
  have B4 := Lib.hid (Blk.new w 136 #[.string (ByteArray.mk #[]), .map none])
  replace h := h.keptN HKa.out
  generalize w.alloc (.cells #[.string (ByteArray.mk #[]), .map none] 136) = wa at *
  generalize hb4 : w.heap.size = b4 at *
  have HB4 := Lib.hid hb4
  clear hb4
  have HN4 := Lib.hid (show bm ≠ b4 from fun e => by
    rcases h.mp with ⟨e', _⟩ | ⟨bm', D, e', _, ho, _⟩
    · cases e'
    · cases e'
      obtain ⟨es, c, hbb, _⟩ := ho
      have := B4.out
      unfold Blk at this
      rw [← e, hbb] at this; cases this)
  obtain ⟨a, ha⟩ : ∃ a, a = bf 0 row x := ⟨_, rfl⟩
  obtain ⟨b, hb⟩ : ∃ b, b = nx (0 :: row) x := ⟨_, rfl⟩
  have ha' : a = 0 ∨ a ∈ row := by rw [ha]; exact bf_mem
  have hb' : b = 0 ∨ b ∈ row := by rw [hb]; exact nx_mem0
  have HK0 := Lib.hid (Kept.refl Nil wa)
  have HH := Lib.hid h
  have HX := Lib.hid hx
  have HV := Lib.hid hv
  have HA := Lib.hid ha
  have HB := Lib.hid hb
  have HA' := Lib.hid ha'
  have HB' := Lib.hid hb'
  clear h hx hv ha hb ha' hb'
  go_wp2_with fail
  refine (getH_p (HH.out.keptN HK0.out) (by omega) HX.out HV.out).mono ?_
  rintro e w1' ⟨rfl, hk⟩
  go_upto_region 2 with fail
  have HK := Lib.hid ((HK0.out.trans hk (fun _ _ e => e.elim)).alloc (.cells #[.string v.1, .map v.2] 136))
  have B6 := Lib.hid (Blk.new w1' 136 #[.string v.1, .map v.2])
  clear hk
  generalize w1'.alloc (.cells #[.string v.1, .map v.2] 136) = w1 at *
  generalize w1'.heap.size = b6 at *
  have h1 := HH.out.keptN HK.out
  have c0 := h1.here.cell 0
  have hlook := h1.look HX.out (by omega)
  obtain ⟨v', _, hbx⟩ := h1.cell x HX.out
  rw [← HA.out, ← HB.out] at hbx
  have d0 := hbx.cell 0
  have d1 := hbx.cell 1
  clear hbx h1
  go_wp2_with fail
  have K2 := Lib.hid ((HK.out.alloc (.cells #[.int .i64 (a : Int), .int .i64 (b : Int)] 183)).drew)
  replace B6 := Lib.hid (B6.out.alloc (.cells #[.int .i64 (a : Int), .int .i64 (b : Int)] 183)).drew
  have B2 := Lib.hid (Blk.new w1 183 #[.int .i64 (a : Int), .int .i64 (b : Int)]).drew
  refine wp_region_still_tail 6 (by kernel_rfl) (by kernel_rfl) ?_
  simp only [List.take_succ_cons, List.take_zero, List.drop_succ_cons, List.drop_zero]
  replace K2 := Lib.hid (show Kept Nil wa { (w1.alloc (.cells #[.int .i64 (a : Int), .int .i64 (b : Int)] 183)) with drawn := (w1.alloc (.cells #[.int .i64 (a : Int), .int .i64 (b : Int)] 183)).drawn + 1 } from K2.out)
  replace B2 := Lib.hid (show Blk { (w1.alloc (.cells #[.int .i64 (a : Int), .int .i64 (b : Int)] 183)) with drawn := (w1.alloc (.cells #[.int .i64 (a : Int), .int .i64 (b : Int)] 183)).drawn + 1 } w1.heap.size 183 #[.int .i64 (a : Int), .int .i64 (b : Int)] from B2.out)
  replace B6 := Lib.hid (show Blk { (w1.alloc (.cells #[.int .i64 (a : Int), .int .i64 (b : Int)] 183)) with drawn := (w1.alloc (.cells #[.int .i64 (a : Int), .int .i64 (b : Int)] 183)).drawn + 1 } b6 136 #[.string v.1, .map v.2] from B6.out)
  generalize { (w1.alloc (.cells #[.int .i64 (a : Int), .int .i64 (b : Int)] 183)) with drawn := (w1.alloc (.cells #[.int .i64 (a : Int), .int .i64 (b : Int)] 183)).drawn + 1 } = w2 at *
  generalize w1.heap.size = b8 at *
  have M2 := (HH.out.keptN K2.out).mid hl HB'.out HA'.out
  have q0 := B2.out.cell 0
  have q1 := B2.out.cell 1
  repeat still_step
  still_call ((at_p (x := a) (g := g) M2.c0 (M2.look HA'.out)).mono (fun _ _ h => ⟨h.1, h.2.symm⟩))
  repeat still_step
  refine wpStill_nil ?_
  obtain ⟨u, hu⟩ := M2.la.at (eo a + 1) (by unfold eo; split <;> omega)
  have hf := M2.la.free (eo a + 1)
  go_wp2_with fail
  have hne8 : b8 ≠ eb p g a := (HH.out.keptN K2.out).ends_ne HA'.out B2.out (by decide) (by decide)
  have B63 := Lib.hid (B6.out.far (p := ⟨eb p g a, eo a + 1, none⟩) ((HH.out.keptN K2.out).ends_ne HA'.out B6.out (by decide) (by decide)) (.int .i64 (b : Int))).drew
  have B3 := Lib.hid (B2.out.far (p := ⟨eb p g a, eo a + 1, none⟩) hne8 (.int .i64 (b : Int))).drew
  have M3 := M2.set (e := eb p g a) (i := eo a + 1) M2.na (fun _ => by omega) (.int .i64 (b : Int))
  have K3 := Lib.hid ((Kept.refl Nil (w2.setCell ⟨eb p g a, eo a + 1, none⟩ (.int .i64 (b : Int)))).drew)
  refine wp_region_still_tail 6 (by kernel_rfl) (by kernel_rfl) ?_
  simp only [List.take_succ_cons, List.take_zero, List.drop_succ_cons, List.drop_zero]
  replace B3 := Lib.hid (show Blk { (w2.setCell ⟨eb p g a, eo a + 1, none⟩ (.int .i64 (b : Int))) with drawn := (w2.setCell ⟨eb p g a, eo a + 1, none⟩ (.int .i64 (b : Int))).drawn + 1 } b8 _ _ from B3.out)
  replace M3 := Lib.hid (show MidP { (w2.setCell ⟨eb p g a, eo a + 1, none⟩ (.int .i64 (b : Int))) with drawn := (w2.setCell ⟨eb p g a, eo a + 1, none⟩ (.int .i64 (b : Int))).drawn + 1 } p bm g row b a from ⟨M3.c0, M3.own, M3.la, M3.lx, M3.na, M3.nx, M3.np⟩)
  replace K3 := Lib.hid (show Kept Nil (w2.setCell ⟨eb p g a, eo a + 1, none⟩ (.int .i64 (b : Int))) { (w2.setCell ⟨eb p g a, eo a + 1, none⟩ (.int .i64 (b : Int))) with drawn := (w2.setCell ⟨eb p g a, eo a + 1, none⟩ (.int .i64 (b : Int))).drawn + 1 } from K3.out)
  replace B63 := Lib.hid (show Blk { (w2.setCell ⟨eb p g a, eo a + 1, none⟩ (.int .i64 (b : Int))) with drawn := (w2.setCell ⟨eb p g a, eo a + 1, none⟩ (.int .i64 (b : Int))).drawn + 1 } b6 136 #[.string v.1, .map v.2] from B63.out)
  clear q0 q1 hu hf hne8
  generalize { (w2.setCell ⟨eb p g a, eo a + 1, none⟩ (.int .i64 (b : Int))) with drawn := (w2.setCell ⟨eb p g a, eo a + 1, none⟩ (.int .i64 (b : Int))).drawn + 1 } = w3 at *
  have q0 := B3.out.cell 0
  have q1 := B3.out.cell 1
  repeat still_step
  still_call ((at_p (x := b) (g := g) M3.out.c0 (M3.out.look HB'.out)).mono (fun _ _ h => ⟨h.1, h.2.symm⟩))
  repeat still_step
  refine wpStill_nil ?_
  obtain ⟨u', hu'⟩ := M3.out.lx.at (eo b) (by unfold eo; split <;> omega)
  have hf' := M3.out.lx.free (eo b)
  obtain ⟨D, hD2, hDm⟩ : ∃ D, w2.ownsMap (H := Unit) Try.prog 3 ptrE bm vals.length D ∧ MapOf D row g := by
    rcases (HH.out.keptN K2.out).mp with ⟨e, _⟩ | ⟨bm', D, e, _, ho, ht⟩
    · cases e
    · cases e
      exact ⟨D, ho, ht⟩
  have hD4 := ((hD2.setCell (a := ⟨eb p g a, eo a + 1, none⟩) (fun e => M2.na e.symm) (.int .i64 (b : Int))).kept (w' := w3) (row := none) ⟨K3.out.os, K3.out.tape, K3.out.output, K3.out.size, fun i hi _ => K3.out.block i hi (fun e => e)⟩ (by simp)).setCell (a := ⟨eb p g b, eo b, none⟩) (fun e => M2.nx e.symm) (.int .i64 (a : Int))
  have M4 := M3.out.set (e := eb p g b) (i := eo b) M2.nx (fun e q => by
    by_cases q0 : b = 0
    · subst q0; simp [eo] at q
    · have := HH.out.apart (HB'.out.resolve_left q0)
      unfold eb at e; rw [if_neg q0] at e; exact this e) (.int .i64 (a : Int))
  have e0 := M4.c0
  have hkey : keyOf Try.prog 3 (.int .i64 (x : Int)) = some (.int .i64 (x : Int)) := keyOf_int_mk Try.underlying3 (WalkArith.wf_i64 (by have := HH.out.range x HX.out; omega))
  clear M4
  have HT := Lib.hid (fun w5 => HH.out.take (w2 := w2) (w3 := w3) (w5 := w5) HX.out HA.out HB.out hDm K2.out K3.out (Kept.refl Nil _))
  have B64 := Lib.hid (B63.out.far (p := ⟨eb p g b, eo b, none⟩) ((HH.out.keptN K2.out).ends_ne HB'.out B6.out (by decide) (by decide)) (.int .i64 (a : Int)))
  have hbm6 : b6 ≠ bm := fun e => by
    obtain ⟨es, c, hbb, _⟩ := hD2
    have := B6.out
    unfold Blk at this
    rw [e, hbb] at this; cases this
  have HB6 := Lib.hid hbm6
  clear hD2 hDm hbm6
  go_wp2_with (at_delete; refine wpList_delete_own _ rfl _ _ 181 3 rfl 189 lawP Try.underlying181 ptrE bm vals.length D rfl hD4 _ _ rfl hkey ?_; intro w5 hm5 ht5
               have HL := Lib.hid (HT.out w5 ht5.grown hm5)
               have b65 : Blk w5 b6 _ _ := (ht5.grown.block b6 B64.out.lt (by simpa using HB6.out)).trans B64.out
               have b45 : Blk w5 b4 _ _ := B4.out.kept HL.out.2 (by
                 rintro ⟨_, e | ⟨cs, f, e | e⟩⟩
                 · exact HN4.out (by simpa using e)
                 · have := B4.out; unfold Blk at this; rw [this] at e; simp at e
                 · have := B4.out; unfold Blk at this; rw [this] at e; simp at e)
               have q60 := b65.cell 0
               have q61 := b65.cell 1
               have q40 := b45.cell 0
               have q41 := b45.cell 1
               have f40 := b45.frozen 0
               have f41 := b45.frozen 1
               have B45 := Lib.hid b45
               clear b65 b45)
  have hB6 := (B45.out.set_ 0 (.string v.1)).set_ 1 (.map v.2)
  refine bodyPost_ret (results_rowtmp Try.results76 _ _ _ _ _ _ _ rfl hB6 Try.underlying136 rfl (by kernel_rfl)) rfl ?_
  have kk : Kept (fun k => k = b4) w5 ((w5.setCell ⟨b4, 0, none⟩ (.string v.1)).setCell ⟨b4, 1, none⟩ (.map v.2)) := ((Kept.refl (fun k => k = b4) w5).setCell ⟨b4, 0, none⟩ (Or.inl (show b4 = b4 from rfl)) _).setCell ⟨b4, 1, none⟩ (Or.inl (show b4 = b4 from rfl)) _
  refine ⟨rfl, HL.out.1.kept kk ?_, ?_⟩
  · rintro k ⟨_, e | ⟨cs, f, e | e⟩⟩ rfl
    · exact HN4.out (by simpa using e)
    · have := B45.out; unfold Blk at this; rw [this] at e; simp at e
    · have := B45.out; unfold Blk at this; rw [this] at e; simp at e
  · have k5 := FoP.trans (HKa.out.mono (fun _ _ e => e.elim)) HL.out.2 (.inl rfl)
    have hle := Nat.le_of_eq HB4.out
    exact (k5.setCell ⟨b4, 0, none⟩ (.inr hle) _).setCell ⟨b4, 1, none⟩ (.inr hle) _
end
end Go.Proofs.Ytodghgeghpbdlaa
