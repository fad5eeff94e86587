/- Blocks (block.Blocks[string,int]): Close. -/
import Derived.Test.YtodghgeghpbdlaaBpK
namespace Go.Proofs.Ytodghgeghpbdlaa
open Go.RowKit Go.Maps Go.WideMaps
set_option maxRecDepth 100000

theorem map_inj {R : List ByteArray} {H : ByteArray → Nat} (hn : (R.map H).Nodup) {x k : ByteArray} (hx : x ∈ R) (hk : k ∈ R) (e : H x = H k) : x = k := by
  induction R with
  | nil => simp at hx
  | cons y r ih =>
    rw [List.map_cons] at hn
    obtain ⟨h1, h2⟩ := List.nodup_cons.1 hn
    rcases List.mem_cons.1 hx with rfl | hx2 <;> rcases List.mem_cons.1 hk with rfl | hk2
    · rfl
    · exact absurd (List.mem_map.2 ⟨k, hk2, e.symm⟩) h1
    · exact absurd (List.mem_map.2 ⟨x, hx2, e⟩) h1
    · exact ih h2 hx2 hk2
theorem rm_map {R : List ByteArray} {H : ByteArray → Nat} (hn : (R.map H).Nodup) {k : ByteArray} (hk : k ∈ R) : rm (R.map H) (H k) = (wo k R).map H := by
  unfold rm wo
  rw [List.filter_map]
  congr 1
  refine List.filter_congr (fun x hx => ?_)
  simp only [Function.comp_apply]
  exact decide_eq_decide.2 (not_congr ⟨fun e => map_inj hn hx hk e, fun e => by rw [e]⟩)
section
variable {w w' : World} {B pb n : Nat} {R : List ByteArray} {Ps : List (ByteArray × Int)} {s : SP}
theorem BSP.closed (h : BSP w B pb R Ps n s) {k : ByteArray} (hk : k ∈ R) {W2 W2' W3 W3' : World} (hL : LstP W2 B s.p s.m s.g (rm s.row (s.H k)) s.vals) (k2 : Kept (FoP w B s.m) w W2) (k22 : Kept Nil W2 W2')
    (hd : MapF KS (.int .i64 0) W3 s.bh (wo k R) (fun x => .int .i64 (s.H x : Nat))) (hg : W2'.grownBy W3 (some s.bh)) (k33 : Kept Nil W3 W3') {x : Int} (hx : x = (Ps.length : Nat) - (bls Ps k).length) :
    BSP (W3'.setCell ⟨pb, 2, none⟩ (.int .i64 x)) B pb (wo k R) (outP k Ps) n { s with row := rm s.row (s.H k) } ∧ Kept (FBP w B) w (W3'.setCell ⟨pb, 2, none⟩ (.int .i64 x)) := by
  have hxl : x = ((outP k Ps).length : Nat) := by have := outP_length k Ps; omega
  subst hxl
  have hpb := h.pb_ne
  have k3 : Kept (fun b => b = s.bh) W2' W3 := (Kept.refl _ W2').grown hg (fun j e => .inl (by cases e; rfl))
  have k23 : Kept (fun b => b = s.bh) W2 W3' := ((k22.mono (fun _ _ e => e.elim)).trans k3 (fun _ _ e => e)).trans k33 (fun _ _ e => e.elim)
  have k4 : Kept (fun b => b = pb) W3' (W3'.setCell ⟨pb, 2, none⟩ (.int .i64 ((outP k Ps).length : Nat))) := Kept.setCell (F := fun b => b = pb) (Kept.refl _ W3') _ (.inl rfl) _
  have k24 : Kept (fun b => b = s.bh ∨ b = pb) W2 (W3'.setCell ⟨pb, 2, none⟩ (.int .i64 ((outP k Ps).length : Nat))) := (k23.mono (fun _ _ e => .inl e)).trans k4 (fun _ _ e => .inr e)
  have hp2 : Blk W2 pb _ _ := h.here.kept k2 (fun e => (h.fo_ne e).1 rfl)
  have hp3 : Blk W3' pb _ _ := hp2.kept k23 hpb.1
  have hd2 : MapF KS (.int .i64 0) W2 s.bh R (fun x => .int .i64 (s.H x : Nat)) := h.hd.kept k2 (fun e => (h.fo_ne e).2.1 rfl)
  have hnd : (R.map s.H).Nodup := by rw [← h.rowR]; exact h.lst.nodup
  refine ⟨⟨h.baseB, h.baseH, by simpa using hp3.set_ 2 (.int .i64 ((outP k Ps).length : Nat)), hL.kept k24 (fun j hj e => ?_), ?_, h.rise.sublist List.filter_sublist, fun k' hk' => h.hv k' (mem_wo.1 hk').1, (hd.keptN k33).kept k4 (fun e => hpb.1 e.symm), fun k' hk' => ?_, h.am, fun k' hk' => h.amb k' (mem_wo.1 hk').1, fun a ha b hb e => h.inj a (mem_wo.1 ha).1 b (mem_wo.1 hb).1 e, outP_nodup h.ndP, fun x hx => ?_, h.lv, ?_⟩, ?_⟩
  · rcases e with e | e
    · subst e
      rcases hj.2 with e2 | ⟨cs, f, e2 | e2⟩
      · exact h.am e2
      · exact hd2.isMap e2
      · exact hd2.isMap e2
    · subst e
      rcases hj.2 with e2 | ⟨cs, f, e2⟩
      · exact (h.fo_ne ⟨h.baseB, .inl e2⟩).1 rfl
      · unfold Blk at hp2
        rw [hp2] at e2
        simp at e2
  · show rm s.row (s.H k) = (wo k R).map s.H
    rw [h.rowR]
    exact rm_map hnd hk
  · have hR := mem_wo.1 hk'
    rw [bls_out _ _ _ hR.2]
    refine ⟨(h.bl k' hR.1).1, ((h.bl k' hR.1).2.kept k2 (fun e => (h.fo_ne e).2.2 k' hR.1 rfl)).kept k24 (fun e => ?_)⟩
    rcases e with e | e
    · exact (h.amb k' hR.1).2 e
    · exact hpb.2 k' hR.1 e.symm
  · have := mem_outP.1 hx
    exact mem_wo.2 ⟨h.sub x this.1, this.2⟩
  · have := h.lp
    have := outP_length k Ps
    omega
  · have q2 : Kept (FBP w B) w W2 := k2.mono (fun j _ e => FBP.of_fo h e)
    refine FBP.trans q2 (k24.mono (fun j _ e => ?_))
    rcases e with e | e
    · rw [e]; exact ⟨h.baseH, .inl hd2.blk⟩
    · rw [e]; exact ⟨h.baseB, .inr ⟨_, _, _, hp2, .inl rfl⟩⟩
set_option maxHeartbeats 1000000 in
theorem close_out_p (h : BSP w B pb R Ps n s) {k : ByteArray} (hok : KS.ok k) (hk : k ∉ R) :
    Calls Try.prog 31 #[.pointer (some ⟨pb, 0, none⟩), .string k] w fun e w' => e = .returned (.bool false) ∧ Kept Nil w w' := by
  have HH := Lib.hid h
  have HX := Lib.hid hk
  have HO := Lib.hid hok
  have c1 := h.here.cell 1
  simp only [List.getElem?_toArray, List.getElem?_cons_zero, List.getElem?_cons_succ] at c1
  clear h hk hok
  go_enter Try.func31, Try.ntmps31
  go_wp2_with fail
  refine (HH.out.look_out HO.out HX.out).mono ?_
  rintro e w1 ⟨rfl, k1⟩
  go_wp2_with fail
  go_ret
  exact ⟨rfl, k1⟩
set_option maxHeartbeats 2000000 in
theorem close_in_p (h : BSP w B pb R Ps n s) (hn : n ≤ 5000) {k : ByteArray} (hk : k ∈ R) :
    Calls Try.prog 31 #[.pointer (some ⟨pb, 0, none⟩), .string k] w fun e w' => e = .returned (.bool true) ∧ GBP w w' B pb (wo k R) (outP k Ps) n := by
  have HH := Lib.hid h
  have HX := Lib.hid hk
  have HO := Lib.hid (h.okK hk)
  have hlv := h.lv
  have hpos := h.Hpos hk
  have hne : (((s.H k : Nat) : Int) == 0) = false := by simp; omega
  have hx1 : ((s.H k : Nat) : Int) ≤ 5000 := by omega
  have c1 := h.here.cell 1
  simp only [List.getElem?_toArray, List.getElem?_cons_zero, List.getElem?_cons_succ] at c1
  obtain ⟨bm, hbm⟩ : ∃ bm, s.m = .map (some bm) := by
    rcases h.lst.mp with ⟨_, e⟩ | ⟨bm, D, e, _⟩
    · have := h.Hmem hk
      rw [e] at this; simp at this
    · exact ⟨bm, e⟩
  have HBM := Lib.hid hbm
  have CR := Lib.hid (fun W (kW : Kept Nil w W) => removeH_p (hbm ▸ (h.keptN kW).lst) (by omega) (h.Hmem hk) (h.hv k hk))
  have CL := Lib.hid (fun W (kW : Kept Nil w W) => (h.keptN kW).look_in hk)
  obtain ⟨x, hx⟩ : ∃ x, s.H k = x := ⟨_, rfl⟩
  simp only [hx] at CL CR hne hx1
  have HX2 := Lib.hid hx
  clear h hk hpos hx hbm
  go_enter Try.func31, Try.ntmps31
  go_wp2_with fail
  refine (CL.out w (Kept.refl _ _)).mono ?_
  rintro e w1 ⟨rfl, k1⟩
  have K1 := Lib.hid k1
  have H1 := Lib.hid (HH.out.keptN k1)
  have d0 := H1.out.here.cell 0
  simp only [List.getElem?_toArray, List.getElem?_cons_zero] at d0
  clear k1 c1
  go_wp2_with fail
  refine (CR.out w1 K1.out).mono ?_
  rintro e w2 ⟨rfl, hL, k2⟩
  rw [← HBM.out] at hL k2
  have HL := Lib.hid hL
  have K2 := Lib.hid k2
  have kA : Kept Nil w2 (w2.alloc (.cells #[.string k, .map (some (s.Mb k))] 136)) := (Kept.refl _ _).alloc _
  have BA := Lib.hid (Blk.new w2 136 #[.string k, .map (some (s.Mb k))])
  have HP2 := Lib.hid (H1.out.here.kept k2 (fun e => (H1.out.fo_ne e).1 rfl))
  have HD2 := Lib.hid (H1.out.hd.kept k2 (fun e => (H1.out.fo_ne e).2.1 rfl))
  have HB2 := Lib.hid ((H1.out.bl k HX.out).2.kept k2 (fun e => (H1.out.fo_ne e).2.2 k HX.out rfl))
  have KA := Lib.hid kA
  clear hL k2 kA d0
  go_upto_region 5 with fail
  generalize w2.alloc (.cells #[.string k, .map (some (s.Mb k))] 136) = w3 at *
  generalize w2.heap.size = b7 at *
  have hp3 := HP2.out.kept KA.out (fun e => e)
  have d1 := hp3.cell 1
  simp only [List.getElem?_toArray, List.getElem?_cons_zero, List.getElem?_cons_succ] at d1
  obtain ⟨w4, hrun, hd4, hg4⟩ := (HD2.out.keptN KA.out).del (tM := 137) (k := k) Try.underlying137 HO.out 0
  change (Builtin.delete_ #[137, 9] 0 #[.map (some s.bh), .string k]).run Try.prog _ = _ at hrun
  have k34 : Kept (fun b => b = s.bh) w3 w4 := (Kept.refl _ w3).grown hg4 (fun j e => .inl (by cases e; rfl))
  have hp4 := hp3.kept k34 H1.out.pb_ne.1
  have hb4 := (HB2.out.keptN KA.out).kept k34 (H1.out.amb k HX.out).2
  have ha4 : Blk w4 b7 _ _ := BA.out.kept k34 (fun e => (HD2.out.keptN KA.out).isMap (e ▸ BA.out))
  have e2 := hp4.drew.cell 2
  have g2 := hp4.drew.frozen 2
  have a1 := ha4.drew.cell 1
  have hl4 := fun ty => (hb4.drew).len Try.underlying134 ty
  simp only [List.getElem?_toArray, List.getElem?_cons_zero, List.getElem?_cons_succ] at e2 a1
  have HF := Lib.hid (fun x hx => H1.out.closed HX.out (by rw [HX2.out]; exact HL.out) K2.out KA.out hd4 hg4 ((Kept.refl Nil w4).drew) (x := x) hx)
  have hle := bls_le Ps k
  have hlp := H1.out.lp
  obtain ⟨L, hL⟩ : ∃ L, (bls Ps k).length = L := ⟨_, rfl⟩
  obtain ⟨M, hM⟩ : ∃ M, Ps.length = M := ⟨_, rfl⟩
  simp only [hL, hM] at hl4 e2 hle hlp HF
  have q4 := hp4.lt
  have q7 := ha4.lt
  clear hd4 hg4 k34 hp4 hb4 ha4 hp3 hL hM
  go_wp2_with fail
  go_region
  go_wp2_with fail
  go_ret
  have := HF.out _ rfl
  exact ⟨rfl, ⟨_, this.1⟩, FBP.after K1.out this.2⟩
end
end Go.Proofs.Ytodghgeghpbdlaa
