/- Blocks (block.Blocks[retiary/api.Triple,string]): Open. -/
import Derived.Test.YtodghgeghpbdlaaBqJ
namespace Go.Proofs.Ytodghgeghpbdlaa
open Go.RowKit Go.Maps Go.WideMaps
set_option maxRecDepth 100000

/-- What Open's region reads. -/
def SOQ (pb p bh b3 : Nat) (k : (Int × Int × Int)) (W : World) : Prop := W.cell? ⟨pb, 0, none⟩ = some (.pointer (some ⟨p, 0, none⟩)) ∧ W.cell? ⟨pb, 1, none⟩ = some (.map (some bh)) ∧ Blk W b3 38 #[.int .i64 k.1, .int .i64 k.2.1, .int .i64 k.2.2]
theorem infoTr : (Try.prog.info? 38).map (·.size) = some 3 := by kernel_rfl
theorem loadTr {W : World} {q : Nat} {k : Int × Int × Int} (hb : Blk W q 38 #[.int .i64 k.1, .int .i64 k.2.1, .int .i64 k.2.2]) : (Instr.loadAt 38 (.pointer (some ⟨q, 0, none⟩))).run Try.prog W = .ok (.agg #[.int .i64 k.1, .int .i64 k.2.1, .int .i64 k.2.2]) W := by
  simp only [Instr.loadAt, Instr.sureAddr, Sem.run_bind, Sem.run_pure, Result.andThen_ok, run_loadVar_row W q _ _ _ _ _ hb Try.underlying38 rfl infoTr]
section
variable {w w' : World} {B pb n : Nat} {R : List (Int × Int × Int)} {Ps : List ((Int × Int × Int) × ByteArray)} {s : SQ}
set_option maxHeartbeats 1000000 in
theorem open_had_q (h : BSQ w B pb R Ps n s) (hn : n ≤ 5000) {k : (Int × Int × Int)} (hk : k ∈ R) :
    Calls Try.prog 46 #[.pointer (some ⟨pb, 0, none⟩), .agg #[.int .i64 k.1, .int .i64 k.2.1, .int .i64 k.2.2]] w fun e w' => e = .returned (.bool false) ∧ Kept Nil w w' := by
  have HH := Lib.hid h
  have HX := Lib.hid hk
  have hlv := h.lv
  have hpos := h.Hpos hk
  have hne : (((s.H k : Nat) : Int) != 0) = true := bne_iff_ne.2 (by omega)
  have hx1 : ((s.H k : Nat) : Int) ≤ 5000 := by omega
  clear h hk hpos
  go_enter Try.func46, Try.ntmps46
  go_upto_region 1 with fail
  have HK := Lib.hid ((Kept.refl Nil w).alloc (.cells #[.int .i64 k.1, .int .i64 k.2.1, .int .i64 k.2.2] 38))
  have BK := Lib.hid (Blk.new w 38 #[.int .i64 k.1, .int .i64 k.2.1, .int .i64 k.2.2])
  have H0 := Lib.hid (HH.out.keptN HK.out)
  generalize w.alloc (.cells #[.int .i64 k.1, .int .i64 k.2.1, .int .i64 k.2.2] 38) = w0 at *
  generalize w.heap.size = b3 at *
  have q0 := BK.out.cell 0
  have q1 := BK.out.cell 1
  have q2 := BK.out.cell 2
  have c1 := H0.out.here.cell 1
  simp only [List.getElem?_toArray, List.getElem?_cons_zero, List.getElem?_cons_succ] at c1
  have CL := Lib.hid (fun W (kW : Kept Nil w0 W) => (H0.out.keptN kW).look_in HX.out)
  obtain ⟨x, hx⟩ : ∃ x, s.H k = x := ⟨_, rfl⟩
  simp only [hx] at CL hne hx1
  clear hx
  have O := Lib.hid (show Kept Nil w0 w0.drew from (Kept.refl Nil w0).drew)
  have hb0 := H0.out.here.lt
  have hb3 := BK.out.lt
  have c1n : ∀ n : CW (Kept Nil w0), n.w.cell? ⟨pb, 1, none⟩ = some (.map (some s.bh)) := fun n => (n.of.cell (p := ⟨pb, 1, none⟩) hb0 (fun e => e)).trans c1
  have q0n : ∀ n : CW (Kept Nil w0), n.w.cell? ⟨b3, 0, none⟩ = some (.int .i64 k.1) := fun n => (n.of.cell (p := ⟨b3, 0, none⟩) hb3 (fun e => e)).trans q0
  have q1n : ∀ n : CW (Kept Nil w0), n.w.cell? ⟨b3, 1, none⟩ = some (.int .i64 k.2.1) := fun n => (n.of.cell (p := ⟨b3, 1, none⟩) hb3 (fun e => e)).trans q1
  have q2n : ∀ n : CW (Kept Nil w0), n.w.cell? ⟨b3, 2, none⟩ = some (.int .i64 k.2.2) := fun n => (n.of.cell (p := ⟨b3, 2, none⟩) hb3 (fun e => e)).trans q2
  go_wp2_with fail
  refine wp_region_in (Kept Nil w0) (by kernel_rfl) (by kernel_rfl) O.out ?_
  have inst : Nonempty (CW (Kept Nil w0)) := ⟨⟨_, O.out⟩⟩
  repeat (go_big_quiet_step ((go_at_call 83; with_reducible exact call_in (fun _ _ h k => h.trans k (fun _ _ e => e)) (CL.out _ (CW.of _)))))
  refine wpQuiet_nil ?_
  rintro _ ⟨n, rfl⟩
  have k1 := n.of
  generalize n.w = w1 at *
  clear c1n q0n q1n q2n hb0 hb3
  have K1 := Lib.hid (HK.out.trans k1 (fun _ _ e => e))
  clear k1
  go_wp2_with fail
  go_ret
  exact ⟨rfl, K1.out⟩
set_option maxHeartbeats 2000000 in
theorem open_new_q (h : BSQ w B pb R Ps n s) (hn : n ≤ 5000) (hB : B ≤ w.heap.size) {k : (Int × Int × Int)} (hok : K3.ok k) (hk : k ∉ R) :
    Calls Try.prog 46 #[.pointer (some ⟨pb, 0, none⟩), .agg #[.int .i64 k.1, .int .i64 k.2.1, .int .i64 k.2.2]] w fun e w' => e = .returned (.bool true) ∧ GBQ w w' B pb (R ++ [k]) Ps (n + 1) := by
  have HH := Lib.hid h
  have HX := Lib.hid hk
  have HO := Lib.hid hok
  clear h hk hok
  go_enter Try.func46, Try.ntmps46
  go_upto_region 1 with fail
  have HK := Lib.hid ((Kept.refl Nil w).alloc (.cells #[.int .i64 k.1, .int .i64 k.2.1, .int .i64 k.2.2] 38))
  have BK := Lib.hid (Blk.new w 38 #[.int .i64 k.1, .int .i64 k.2.1, .int .i64 k.2.2])
  have H0 := Lib.hid (HH.out.keptN HK.out)
  have HB0 := Lib.hid (Nat.le_trans hB HK.out.size)
  generalize w.alloc (.cells #[.int .i64 k.1, .int .i64 k.2.1, .int .i64 k.2.2] 38) = w0 at *
  generalize w.heap.size = b3 at *
  have q0 := BK.out.cell 0
  have q1 := BK.out.cell 1
  have q2 := BK.out.cell 2
  have c1 := H0.out.here.cell 1
  simp only [List.getElem?_toArray, List.getElem?_cons_zero, List.getElem?_cons_succ] at c1
  have CL := Lib.hid (fun W (kW : Kept Nil w0 W) => (H0.out.keptN kW).look_out HO.out HX.out)
  have O := Lib.hid (show Kept Nil w0 w0.drew from (Kept.refl Nil w0).drew)
  have hb0 := H0.out.here.lt
  have hb3 := BK.out.lt
  have c1n : ∀ n : CW (Kept Nil w0), n.w.cell? ⟨pb, 1, none⟩ = some (.map (some s.bh)) := fun n => (n.of.cell (p := ⟨pb, 1, none⟩) hb0 (fun e => e)).trans c1
  have q0n : ∀ n : CW (Kept Nil w0), n.w.cell? ⟨b3, 0, none⟩ = some (.int .i64 k.1) := fun n => (n.of.cell (p := ⟨b3, 0, none⟩) hb3 (fun e => e)).trans q0
  have q1n : ∀ n : CW (Kept Nil w0), n.w.cell? ⟨b3, 1, none⟩ = some (.int .i64 k.2.1) := fun n => (n.of.cell (p := ⟨b3, 1, none⟩) hb3 (fun e => e)).trans q1
  have q2n : ∀ n : CW (Kept Nil w0), n.w.cell? ⟨b3, 2, none⟩ = some (.int .i64 k.2.2) := fun n => (n.of.cell (p := ⟨b3, 2, none⟩) hb3 (fun e => e)).trans q2
  clear hB
  go_wp2_with fail
  refine wp_region_in (Kept Nil w0) (by kernel_rfl) (by kernel_rfl) O.out ?_
  have inst : Nonempty (CW (Kept Nil w0)) := ⟨⟨_, O.out⟩⟩
  repeat (go_big_quiet_step ((go_at_call 83; with_reducible exact call_in (fun _ _ h k => h.trans k (fun _ _ e => e)) (CL.out _ (CW.of _)))))
  refine wpQuiet_nil ?_
  rintro _ ⟨n, rfl⟩
  have k1 := n.of
  generalize n.w = w1 at *
  clear c1n q0n q1n q2n hb0 hb3
  have hp1 := (H0.out.keptN k1).here
  have d0 := hp1.cell 0
  simp only [List.getElem?_toArray, List.getElem?_cons_zero] at d0
  have K1 := Lib.hid (HK.out.trans k1 (fun _ _ e => e))
  have H1 := Lib.hid (H0.out.keptN k1)
  have HB1 := Lib.hid (Nat.le_trans HB0.out k1.size)
  have S0 : Hid (SOQ pb s.p s.bh b3 k w1.drew) := Lib.hid ⟨by have := hp1.drew.cell 0; simpa using this, by have := hp1.drew.cell 1; simpa using this, (BK.out.kept k1 (fun e => e)).drew⟩
  have kM : Kept Nil w1 (w1.drew.alloc (.map #[] 0)) := ((Kept.refl Nil w1).drew).alloc _
  have S1 : Hid (SOQ pb s.p s.bh b3 k (w1.drew.alloc (.map #[] 0))) := Lib.hid ⟨by have := (hp1.kept kM (fun e => e)).cell 0; simpa using this, by have := (hp1.kept kM (fun e => e)).cell 1; simpa using this, ((BK.out.kept k1 (fun e => e)).kept kM (fun e => e))⟩
  have KM := Lib.hid kM
  have HM := Lib.hid (MapF.made KS (.bool false) (fun _ => .bool true) w1.drew)
  have hlv := H1.out.lv
  have CP := Lib.hid (push_q (H1.out.keptN kM).lst (by omega) (k, some w1.drew.heap.size))
  obtain ⟨N, hN⟩ : ∃ N, N = s.vals.length + 1 := ⟨_, rfl⟩
  have HN := Lib.hid hN
  have hNi : ((s.vals.length : Nat) : Int) + 1 = (N : Int) := by omega
  rw [hNi, ← hN] at CP
  have HMB := Lib.hid (show w1.heap.size ≤ w1.drew.heap.size from Nat.le_refl _)
  have HB3 := Lib.hid (BK.out.kept k1 (fun e => e))
  clear k1 hp1 kM hN hNi c1
  go_wp2_with fail
  refine wp_region_held (SOQ pb s.p s.bh b3 k) (by kernel_rfl) ?_
  refine takeH (i := 0) (some 32) (.pointer (some ⟨pb, 0, none⟩)) rfl rfl (by kernel_rfl) (by kernel_rfl) (by kernel_rfl) (fun _ _ _ h => h) (by rfl) S0.out ?_ ?_
  · intro w hSw
    go_simp
  simp only [Act.put, List.setIfInBounds_toArray, List.set_cons_succ, List.set_cons_zero]
  refine takeH (i := 1) (some 33) (.pointer (some ⟨pb, 0, none⟩)) rfl rfl (by kernel_rfl) (by kernel_rfl) (by kernel_rfl) (fun _ _ _ h => h) (by rfl) S0.out ?_ ?_
  · intro w hSw
    go_simp
  simp only [Act.put, List.setIfInBounds_toArray, List.set_cons_succ, List.set_cons_zero]
  refine takeH (i := 2) (some 34) (.pointer (some ⟨pb, 1, none⟩)) rfl rfl (by kernel_rfl) (by kernel_rfl) (by kernel_rfl) (fun _ _ _ h => h) (by rfl) S0.out ?_ ?_
  · intro w hSw
    go_simp
  simp only [Act.put, List.setIfInBounds_toArray, List.set_cons_succ, List.set_cons_zero]
  refine takeH (i := 3) (some 35) (.map (some s.bh)) rfl rfl (by kernel_rfl) (by kernel_rfl) (by kernel_rfl) (fun _ _ _ h => h) (by rfl) S0.out ?_ ?_
  · intro w hSw
    have h1 := hSw.2.1; go_simp
  simp only [Act.put, List.setIfInBounds_toArray, List.set_cons_succ, List.set_cons_zero]
  refine takeH (i := 4) (some 36) (.agg #[.int .i64 k.1, .int .i64 k.2.1, .int .i64 k.2.2]) rfl rfl (by kernel_rfl) (by kernel_rfl) (by kernel_rfl) (fun _ _ _ h => h) (by rfl) S0.out ?_ ?_
  · intro w hSw
    exact exec_load rfl rfl (loadTr hSw.2.2)
  simp only [Act.put, List.setIfInBounds_toArray, List.set_cons_succ, List.set_cons_zero]
  refine takeH (i := 5) (some 37) (.pointer (some ⟨pb, 0, none⟩)) rfl rfl (by kernel_rfl) (by kernel_rfl) (by kernel_rfl) (fun _ _ _ h => h) (by rfl) S0.out ?_ ?_
  · intro w hSw
    go_simp
  simp only [Act.put, List.setIfInBounds_toArray, List.set_cons_succ, List.set_cons_zero]
  refine takeH (i := 6) (some 38) (.pointer (some ⟨pb, 0, none⟩)) rfl rfl (by kernel_rfl) (by kernel_rfl) (by kernel_rfl) (fun _ _ _ h => h) (by rfl) S0.out ?_ ?_
  · intro w hSw
    go_simp
  simp only [Act.put, List.setIfInBounds_toArray, List.set_cons_succ, List.set_cons_zero]
  refine takeH (i := 7) (some 39) (.pointer (some ⟨pb, 0, none⟩)) rfl rfl (by kernel_rfl) (by kernel_rfl) (by kernel_rfl) (fun _ _ _ h => h) (by rfl) S0.out ?_ ?_
  · intro w hSw
    go_simp
  simp only [Act.put, List.setIfInBounds_toArray, List.set_cons_succ, List.set_cons_zero]
  refine takeH (i := 8) (some 40) (.pointer (some ⟨s.p, 0, none⟩)) rfl rfl (by kernel_rfl) (by kernel_rfl) (by kernel_rfl) (fun _ _ _ h => h) (by rfl) S0.out ?_ ?_
  · intro w hSw
    have h1 := hSw.1; go_simp
  simp only [Act.put, List.setIfInBounds_toArray, List.set_cons_succ, List.set_cons_zero]
  refine takeH (i := 9) (some 41) (.agg #[.int .i64 k.1, .int .i64 k.2.1, .int .i64 k.2.2]) rfl rfl (by kernel_rfl) (by kernel_rfl) (by kernel_rfl) (fun _ _ _ h => h) (by rfl) S0.out ?_ ?_
  · intro w hSw
    exact exec_load rfl rfl (loadTr hSw.2.2)
  simp only [Act.put, List.setIfInBounds_toArray, List.set_cons_succ, List.set_cons_zero]
  refine wpAnyH_all (rs := [10]) (by kernel_rfl) (by decide) (forall_one ?_)
  refine wpOp_of rfl rfl (lit_wp (some 42) rfl (v := .map (some w1.drew.heap.size)) (w' := w1.drew.alloc (.map #[] 0)) (by simp [execOp, run_makeMap]) ⟨S1.out, ?_⟩)
  simp only [Act.put, List.setIfInBounds_toArray, List.set_cons_succ, List.set_cons_zero]
  refine takeH (i := 11) (some 43) (.agg #[.int .i64 k.1, .int .i64 k.2.1, .int .i64 k.2.2, .map (some w1.drew.heap.size)]) rfl rfl (by kernel_rfl) (by kernel_rfl) (by kernel_rfl) (fun _ _ _ h => h) (by rfl) S1.out ?_ ?_
  · intro w hSw
    go_simp
  simp only [Act.put, List.setIfInBounds_toArray, List.set_cons_succ, List.set_cons_zero]
  generalize w1.drew = wd at *
  obtain ⟨mb, hmb⟩ : ∃ mb, wd.heap.size = mb := ⟨_, rfl⟩
  simp only [hmb] at CP HM HMB ⊢
  generalize wd.alloc (.map #[] 0) = wm at *
  refine wpAnyH_all (rs := [12]) (by kernel_rfl) (by decide) (forall_one ?_)
  refine wpOp_of rfl rfl (call_wp (some 44) rfl 84 #[.tmp 40, .tmp 43] #[149, 153] rfl (by simp [go_sem]) #[.pointer (some ⟨s.p, 0, none⟩), .agg #[.int .i64 k.1, .int .i64 k.2.1, .int .i64 k.2.2, .map (some mb)]] (by go_simp) CP.out ?_)
  rintro e w4 ⟨rfl, m4, g4, hL4, hm4, k4⟩
  have Hm := H1.out.keptN KM.out
  have hd4 : MapF K3 (.int .i64 0) w4 s.bh R (fun x => .int .i64 (s.H x : Nat)) := Hm.hd.kept k4 (fun e => (Hm.fo_ne e).2.1 rfl)
  obtain ⟨w5, hrun, hd5, hg5⟩ := hd4.add (tM := 154) (k := k) (f' := fun x => .int .i64 (updF s.H k N x : Nat)) (val := .int .i64 (N : Int)) Try.underlying154 (by
    have h1 := congrArg List.length H1.out.rowR
    have h2 : s.row.length ≤ s.vals.length := by
      have h3 := nodup_le (ks := s.row) (l := List.range (s.vals.length + 1)) H1.out.lst.nodup (fun x hx => by have := H1.out.lst.range x hx; exact List.mem_range.2 (by omega))
      have h4 : s.row.length ≤ (List.range (s.vals.length + 1)).length := h3
      simp at h4
      have h5 : 0 ∉ s.row := fun e => by have := (H1.out.lst.range 0 e).1; omega
      have h6 := nodup_le (ks := 0 :: s.row) (l := List.range (s.vals.length + 1)) (List.nodup_cons.2 ⟨h5, H1.out.lst.nodup⟩) (fun x hx => by
        rcases List.mem_cons.1 hx with rfl | hx
        · exact List.mem_range.2 (by omega)
        · have := H1.out.lst.range x hx; exact List.mem_range.2 (by omega))
      simp at h6
      exact h6
    have := H1.out.lv
    simp at h1
    omega) HO.out HX.out (fun x hx => by
    have hne : x ≠ k := fun e => HX.out (by rw [← e]; exact hx)
    rw [updF_other hne]) (by rw [updF_same]; rfl)
  have HF := Lib.hid (H1.out.opened HX.out (mb := mb) HN.out KM.out HB1.out HMB.out HM.out hL4 hm4 k4 hd5 hg5)
  have hBm := HB3.out.kept KM.out (fun e => e)
  refine ⟨_, rfl, ⟨by
    have hb4 := Hm.here.kept k4 (fun e => (Hm.fo_ne e).1 rfl)
    exact ⟨by have := hb4.cell 0; simpa using this, by have := hb4.cell 1; simpa using this, (hBm.kept k4 (fun e => FBQ.other hBm (by decide) (by decide) (by decide) (FBQ.of_fo Hm e)))⟩, ?_⟩⟩
  simp only [Act.put, List.setIfInBounds_toArray, List.set_cons_succ, List.set_cons_zero]
  clear hd4 hd5 hg5 hL4 hm4 k4 Hm
  refine wpAnyH_all (rs := [13]) (by kernel_rfl) (by decide) (forall_one ?_)
  refine wpOp_of rfl rfl (upd_wp _ _ _ _ rfl rfl rfl rfl hrun ⟨?_, wpAnyH_done (by kernel_rfl) ?_ _⟩)
  · have hb5 := HF.out.1.here
    exact ⟨by have := hb5.cell 0; simpa using this, by have := hb5.cell 1; simpa using this, (HB3.out.kept HF.out.2 (FBQ.other HB3.out (by decide) (by decide) (by decide)))⟩
  go_wp2_with fail
  go_ret
  exact ⟨rfl, ⟨_, HF.out.1⟩, FBQ.after K1.out HF.out.2⟩
end
end Go.Proofs.Ytodghgeghpbdlaa
