/- A memory of facts: Add. -/
import Derived.Test.YtgnpclcoinndpaaWMemB
import Derived.BigQuiet
namespace Go.Proofs.Ytgnpclcoinndpaa
open Go.RowKit Go.Maps
set_option maxRecDepth 100000

section
variable {w w' : World} {B p bm last limit : Nat} {l : List F4}
theorem add_wrong {t : T3} (ht : okT t = false) (v : Value) (w : World) :
    Calls Try.prog 12 #[v, .agg #[.int .i64 t.1, .int .i64 t.2.1, .int .i64 t.2.2]] w fun e w' => e = .returned (.tuple #[.int .i64 0, .int .i64 4]) ∧ Kept Nil w w' := by
  have hc := fun W => right_any t W
  rw [ht] at hc
  unfold arr at hc
  clear ht
  have k1 : Kept Nil w (w.alloc (.cells #[.int .i64 t.1, .int .i64 t.2.1, .int .i64 t.2.2] 33)) := (Kept.refl _ _).alloc _
  have K1 := Lib.hid k1
  clear k1
  go_enter Try.func12, Try.ntmps12
  go_wp2_with fail
  refine (hc _).mono ?_
  rintro e w2 ⟨rfl, k2⟩
  have K2 := Lib.hid (K1.out.trans k2 (fun _ _ e => e))
  clear k2 K1 hc
  go_wp2_with fail
  go_ret2
  exact ⟨rfl, K2.out⟩

theorem add_full (h : Mem w B p bm l last limit) (hf : limit ≤ l.length) {t : T3} (ht : okT t = true) :
    Calls Try.prog 12 #[.pointer (some ⟨p, 0, none⟩), .agg #[.int .i64 t.1, .int .i64 t.2.1, .int .i64 t.2.2]] w fun e w' => e = .returned (.tuple #[.int .i64 0, .int .i64 11]) ∧ Kept Nil w w' := by
  have hc := fun W => right_any t W
  rw [ht] at hc
  unfold arr at hc
  clear ht
  have k1 : Kept Nil w (w.alloc (.cells #[.int .i64 t.1, .int .i64 t.2.1, .int .i64 t.2.2] 33)) := (Kept.refl _ _).alloc _
  have K1 := Lib.hid k1
  have H1 := Lib.hid (h.keptN k1)
  have HF := Lib.hid hf
  have hll := h.len_le
  have hfw := h.few
  clear k1 h
  go_enter Try.func12, Try.ntmps12
  go_wp2_with fail
  refine (hc _).mono ?_
  rintro e w2 ⟨rfl, k2⟩
  have K2 := Lib.hid (K1.out.trans k2 (fun _ _ e => e))
  have H2 := Lib.hid (H1.out.keptN k2)
  clear k2 K1 H1 hc
  have c0 := H2.out.cell0
  have c1 := H2.out.cell1
  have hl : ∀ n, (Builtin.len_ #[58] 3 #[.map (some bm)]).run Try.prog (w2.drewN n) = .ok (.int .i64 l.length) (w2.drewN n) := fun n => H2.out.count (w2.drewN n) rfl _
  obtain ⟨L, hL⟩ : ∃ L, L = l.length := ⟨_, rfl⟩
  rw [← hL] at hl hf hll
  clear hL
  have hd : decide (limit ≤ L) = true := decide_eq_true hf
  go_wp2_with fail
  go_quiet (fail)
  go_wp2_with fail
  go_ret2
  exact ⟨rfl, K2.out.drewN nq⟩

set_option maxHeartbeats 1000000 in
theorem add_good (h : Mem w B p bm l last limit) (hf : l.length < limit) (hl1 : last < 5000) {t : T3} (ht : okT t = true) :
    Calls Try.prog 12 #[.pointer (some ⟨p, 0, none⟩), .agg #[.int .i64 t.1, .int .i64 t.2.1, .int .i64 t.2.2]] w fun e w' => e = .returned (.tuple #[.int .i64 ((last : Int) + 1), .int .i64 0]) ∧ Mem w' B p bm (l ++ [((last : Int) + 1, t)]) (last + 1) limit ∧ Kept (MFoot p bm) w w' := by
  have hc := fun W => right_any t W
  rw [ht] at hc
  unfold arr at hc
  clear ht
  have k1 : Kept Nil w (w.alloc (.cells #[.int .i64 t.1, .int .i64 t.2.1, .int .i64 t.2.2] 33)) := (Kept.refl _ _).alloc _
  have K1 := Lib.hid k1
  have H1 := Lib.hid (h.keptN k1)
  have BX := Lib.hid (Blk.new w 33 #[.int .i64 t.1, .int .i64 t.2.1, .int .i64 t.2.2])
  have hpb := h.lt
  have hbb := (h.foot (.inr rfl)).2
  have hll := h.len_le
  clear k1 h
  go_enter Try.func12, Try.ntmps12
  go_wp2_with fail
  refine (hc _).mono ?_
  rintro e w2 ⟨rfl, k2⟩
  have K2 := Lib.hid (K1.out.trans k2 (fun _ _ e => e))
  have H2 := Lib.hid (H1.out.keptN k2)
  have BX2 := Lib.hid (BX.out.kept k2 (fun e => e))
  clear k2 K1 H1 BX hc
  have hne1 : w.heap.size ≠ p := by omega
  have hne2 : w.heap.size ≠ bm := by omega
  generalize w.heap.size = b at *
  clear hpb hbb
  have c0 := H2.out.cell0
  have c1 := H2.out.cell1
  have hl : ∀ n, (Builtin.len_ #[58] 3 #[.map (some bm)]).run Try.prog (w2.drewN n) = .ok (.int .i64 l.length) (w2.drewN n) := fun n => H2.out.count (w2.drewN n) rfl _
  obtain ⟨L, hL⟩ : ∃ L, L = l.length := ⟨_, rfl⟩
  rw [← hL] at hl hf hll
  clear hL
  have hd : decide (limit ≤ L) = false := decide_eq_false (by omega)
  go_wp2_with fail
  go_quiet (fail)
  have H3 := Lib.hid (H2.out.keptN ((Kept.refl _ _).drewN nq))
  have K3 := Lib.hid (K2.out.drewN nq)
  have BX3 := Lib.hid (BX2.out.kept ((Kept.refl Nil _).drewN nq) (fun e => e))
  clear c0 c1 hl hd H2 K2 BX2
  generalize w2.drewN nq = w3 at *
  have c2 := H3.out.cell2
  have f2 := H3.out.free 2
  obtain ⟨W4, hW4⟩ : ∃ W4, W4 = w3.setCell ⟨p, 2, none⟩ (.int .i64 ((last : Int) + 1)) := ⟨_, rfl⟩
  have B4 : Blk W4 p 63 #[.map (some bm), .int .i64 limit, .int .i64 ((last : Int) + 1)] := by
    rw [hW4]
    exact Blk.set_ (show Blk w3 p _ _ from H3.out.here) 2 _
  have BX4 := BX3.out.far (p := ⟨p, 2, none⟩) hne1 (.int .i64 ((last : Int) + 1))
  have k4 : Kept (MFoot p bm) w3 W4 := by rw [hW4]; exact (Kept.refl _ _).setCell ⟨p, 2, none⟩ (.inl (.inl rfl)) _
  have hpm := H3.out.ne
  obtain ⟨D, ho, hD⟩ := H3.out.mp
  have ho4 : W4.ownsMap (H := Unit) Try.prog 3 tripE bm last D := by rw [hW4]; exact ho.setCell (fun e => hpm e.symm) _
  rw [← hW4] at BX4
  have hkey := keyI (k := (last : Int) + 1) (wf_i64 (by omega))
  obtain ⟨w5, hrun, ho5, hg5⟩ := (ho4.drew).update (val := arr t) lawK Try.underlying58 (by unfold maxLen; omega) hkey (tripE_mk t)
  unfold arr at hrun
  change (Instr.mapUpdate 58 (.map (some bm)) (.int .i64 ((last : Int) + 1)) (.agg #[.int .i64 t.1, .int .i64 t.2.1, .int .i64 t.2.2])).run Try.prog W4.drew = .ok () w5 at hrun
  have B5 := B4.drew.mapped hg5 hpm
  have hno := H3.out.not_yet
  have HM := Lib.hid (show Mem w5 B p bm (l ++ [((last : Int) + 1, t)]) (last + 1) limit from
    ⟨H3.out.base, H3.out.bmb, by rw [Int.natCast_add]; exact B5, ⟨_, ho5, hD.put hno t⟩, snoc_rise H3.out.rise t (fun x hx => by have := (H3.out.ids x hx).2; omega), fun x hx => by
      rcases List.mem_append.1 hx with hx | hx
      · have := H3.out.ids x hx; omega
      · rw [List.mem_singleton.1 hx]; exact ⟨by show (1 : Int) ≤ (last : Int) + 1; omega, by show (last : Int) + 1 ≤ _; omega⟩, by omega, H3.out.lim⟩)
  have K5 := Lib.hid ((K3.out.mono (fun _ _ e => e.elim)).trans ((k4.trans ((Kept.refl (MFoot p bm) W4).drew) (fun _ _ e => e)).grown hg5 (fun i e => .inl (.inr (by simpa using e.symm)))) (fun _ _ e => e))
  have d0 := B4.cell 0
  have d2 := B4.cell 2
  have x0 := BX4.cell 0
  have x1 := BX4.cell 1
  have x2 := BX4.cell 2
  have e2 := B5.cell 2
  clear ho ho4 ho5 hD hg5 hno k4 B4 BX4 B5 H3 K3 BX3 hkey hpm
  go_wp2_with fail
  rw [← hW4]
  clear hW4 c2 f2
  go_region
  go_wp2
  go_ret2
  exact ⟨rfl, HM.out, K5.out⟩
end
end Go.Proofs.Ytgnpclcoinndpaa
