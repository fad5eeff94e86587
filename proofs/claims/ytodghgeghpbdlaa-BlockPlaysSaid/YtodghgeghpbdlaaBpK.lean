/- Blocks (block.Blocks[string,int]): Open. -/
import Derived.Test.YtodghgeghpbdlaaBpJ
namespace Go.Proofs.Ytodghgeghpbdlaa
open Go.RowKit Go.Maps Go.WideMaps
set_option maxRecDepth 100000

/-- What Open's region reads. -/
def SOP (pb p bh b3 : Nat) (k : ByteArray) (W : World) : Prop := W.cell? ⟨pb, 0, none⟩ = some (.pointer (some ⟨p, 0, none⟩)) ∧ W.cell? ⟨pb, 1, none⟩ = some (.map (some bh)) ∧ (b3 = 0 ∧ k = k)
section
variable {w w' : World} {B pb n : Nat} {R : List ByteArray} {Ps : List (ByteArray × Int)} {s : SP}
set_option maxHeartbeats 1000000 in
theorem open_had_p (h : BSP w B pb R Ps n s) (hn : n ≤ 5000) {k : ByteArray} (hk : k ∈ R) :
    Calls Try.prog 30 #[.pointer (some ⟨pb, 0, none⟩), .string k] w fun e w' => e = .returned (.bool false) ∧ Kept Nil w w' := by
  have HH := Lib.hid h
  have HX := Lib.hid hk
  have hlv := h.lv
  have hpos := h.Hpos hk
  have hne : (((s.H k : Nat) : Int) != 0) = true := bne_iff_ne.2 (by omega)
  have hx1 : ((s.H k : Nat) : Int) ≤ 5000 := by omega
  clear h hk hpos
  have HK := Lib.hid (Kept.refl Nil w)
  obtain ⟨w0, hw0⟩ : ∃ w0, w0 = w := ⟨_, rfl⟩
  rw [← hw0] at HK ⊢
  have H0 := Lib.hid (show BSP w0 B pb R Ps n s from hw0 ▸ HH.out)
  go_enter Try.func30, Try.ntmps30
  have c1 := H0.out.here.cell 1
  simp only [List.getElem?_toArray, List.getElem?_cons_zero, List.getElem?_cons_succ] at c1
  have CL := Lib.hid (fun W (kW : Kept Nil w0 W) => (H0.out.keptN kW).look_in HX.out)
  obtain ⟨x, hx⟩ : ∃ x, s.H k = x := ⟨_, rfl⟩
  simp only [hx] at CL hne hx1
  clear hx
  clear hw0
  go_wp2_with fail
  refine (CL.out w0 (Kept.refl _ _)).mono ?_
  rintro e w1 ⟨rfl, k1⟩
  have K1 := Lib.hid (HK.out.trans k1 (fun _ _ e => e))
  clear k1
  go_wp2_with fail
  go_ret
  exact ⟨rfl, K1.out⟩
set_option maxHeartbeats 2000000 in
theorem open_new_p (h : BSP w B pb R Ps n s) (hn : n ≤ 5000) (hB : B ≤ w.heap.size) {k : ByteArray} (hok : KS.ok k) (hk : k ∉ R) :
    Calls Try.prog 30 #[.pointer (some ⟨pb, 0, none⟩), .string k] w fun e w' => e = .returned (.bool true) ∧ GBP w w' B pb (R ++ [k]) Ps (n + 1) := by
  have HH := Lib.hid h
  have HX := Lib.hid hk
  have HO := Lib.hid hok
  clear h hk hok
  have HK := Lib.hid (Kept.refl Nil w)
  obtain ⟨w0, hw0⟩ : ∃ w0, w0 = w := ⟨_, rfl⟩
  rw [← hw0] at HK ⊢
  have H0 := Lib.hid (show BSP w0 B pb R Ps n s from hw0 ▸ HH.out)
  have HB0 := Lib.hid (show B ≤ w0.heap.size from hw0 ▸ hB)
  obtain ⟨b3, hb3⟩ : ∃ b3 : Nat, b3 = 0 := ⟨_, rfl⟩
  go_enter Try.func30, Try.ntmps30
  have c1 := H0.out.here.cell 1
  simp only [List.getElem?_toArray, List.getElem?_cons_zero, List.getElem?_cons_succ] at c1
  have CL := Lib.hid (fun W (kW : Kept Nil w0 W) => (H0.out.keptN kW).look_out HO.out HX.out)
  clear hw0 hB
  go_wp2_with fail
  refine (CL.out w0 (Kept.refl _ _)).mono ?_
  rintro e w1 ⟨rfl, k1⟩
  have hp1 := (H0.out.keptN k1).here
  have d0 := hp1.cell 0
  simp only [List.getElem?_toArray, List.getElem?_cons_zero] at d0
  have K1 := Lib.hid (HK.out.trans k1 (fun _ _ e => e))
  have H1 := Lib.hid (H0.out.keptN k1)
  have HB1 := Lib.hid (Nat.le_trans HB0.out k1.size)
  have S0 : Hid (SOP pb s.p s.bh b3 k w1.drew) := Lib.hid ⟨by have := hp1.drew.cell 0; simpa using this, by have := hp1.drew.cell 1; simpa using this, hb3, rfl⟩
  have kM : Kept Nil w1 (w1.drew.alloc (.map #[] 0)) := ((Kept.refl Nil w1).drew).alloc _
  have S1 : Hid (SOP pb s.p s.bh b3 k (w1.drew.alloc (.map #[] 0))) := Lib.hid ⟨by have := (hp1.kept kM (fun e => e)).cell 0; simpa using this, by have := (hp1.kept kM (fun e => e)).cell 1; simpa using this, hb3, rfl⟩
  have KM := Lib.hid kM
  have HM := Lib.hid (MapF.made KI (.bool false) (fun _ => .bool true) w1.drew)
  have hlv := H1.out.lv
  have CP := Lib.hid (push_p (H1.out.keptN kM).lst (by omega) (k, some w1.drew.heap.size))
  obtain ⟨N, hN⟩ : ∃ N, N = s.vals.length + 1 := ⟨_, rfl⟩
  have HN := Lib.hid hN
  have hNi : ((s.vals.length : Nat) : Int) + 1 = (N : Int) := by omega
  rw [hNi, ← hN] at CP
  have HMB := Lib.hid (show w1.heap.size ≤ w1.drew.heap.size from Nat.le_refl _)
  clear k1 hp1 kM hN hNi c1
  clear hb3
  go_wp2_with fail
  refine wp_region_held (SOP pb s.p s.bh b3 k) (by kernel_rfl) ?_
  refine takeH (i := 0) (some 32) (.pointer (some ⟨pb, 0, none⟩)) rfl rfl (by kernel_rfl) (by kernel_rfl) (by kernel_rfl) (fun _ _ _ h => h) (by rfl) S0.out ?_ ?_
  · intro w hSw
    go_simp
  simp only [Act.put, List.setIfInBounds_toArray, List.set_cons_succ, List.set_cons_zero]
  refine takeH (i := 1) (some 33) (.pointer (some ⟨pb, 0, none⟩)) rfl rfl (by kernel_rfl) (by kernel_rfl) (by kernel_rfl) (fun _ _ _ h => h) (by rfl) S0.out ?_ ?_
  · intro w hSw
    go_simp
  simp only [Act.put, List.setIfInBounds_toArray, List.set_cons_succ, List.set_cons_zero]
  refine takeH (i := 2) (some 34) (.pointer (some ⟨pb, 1, none⟩)) rfl rfl (by kernel_rfl) (by kernel_rfl) (by kernel_rfl) (fun _ _ _ h => h) (by rfl) S0.out ?_ ?_
  · intro w hSw
    go_simp
  simp only [Act.put, List.setIfInBounds_toArray, List.set_cons_succ, List.set_cons_zero]
  refine takeH (i := 3) (some 35) (.map (some s.bh)) rfl rfl (by kernel_rfl) (by kernel_rfl) (by kernel_rfl) (fun _ _ _ h => h) (by rfl) S0.out ?_ ?_
  · intro w hSw
    have h1 := hSw.2.1; go_simp
  simp only [Act.put, List.setIfInBounds_toArray, List.set_cons_succ, List.set_cons_zero]
  refine takeH (i := 4) (some 36) (.string k) rfl rfl (by kernel_rfl) (by kernel_rfl) (by kernel_rfl) (fun _ _ _ h => h) (by rfl) S0.out ?_ ?_
  · intro w hSw
    go_simp
  simp only [Act.put, List.setIfInBounds_toArray, List.set_cons_succ, List.set_cons_zero]
  refine takeH (i := 5) (some 37) (.pointer (some ⟨pb, 0, none⟩)) rfl rfl (by kernel_rfl) (by kernel_rfl) (by kernel_rfl) (fun _ _ _ h => h) (by rfl) S0.out ?_ ?_
  · intro w hSw
    go_simp
  simp only [Act.put, List.setIfInBounds_toArray, List.set_cons_succ, List.set_cons_zero]
  refine takeH (i := 6) (some 38) (.pointer (some ⟨pb, 0, none⟩)) rfl rfl (by kernel_rfl) (by kernel_rfl) (by kernel_rfl) (fun _ _ _ h => h) (by rfl) S0.out ?_ ?_
  · intro w hSw
    go_simp
  simp only [Act.put, List.setIfInBounds_toArray, List.set_cons_succ, List.set_cons_zero]
  refine takeH (i := 7) (some 39) (.pointer (some ⟨pb, 0, none⟩)) rfl rfl (by kernel_rfl) (by kernel_rfl) (by kernel_rfl) (fun _ _ _ h => h) (by rfl) S0.out ?_ ?_
  · intro w hSw
    go_simp
  simp only [Act.put, List.setIfInBounds_toArray, List.set_cons_succ, List.set_cons_zero]
  refine takeH (i := 8) (some 40) (.pointer (some ⟨s.p, 0, none⟩)) rfl rfl (by kernel_rfl) (by kernel_rfl) (by kernel_rfl) (fun _ _ _ h => h) (by rfl) S0.out ?_ ?_
  · intro w hSw
    have h1 := hSw.1; go_simp
  simp only [Act.put, List.setIfInBounds_toArray, List.set_cons_succ, List.set_cons_zero]
  refine takeH (i := 9) (some 41) (.string k) rfl rfl (by kernel_rfl) (by kernel_rfl) (by kernel_rfl) (fun _ _ _ h => h) (by rfl) S0.out ?_ ?_
  · intro w hSw
    go_simp
  simp only [Act.put, List.setIfInBounds_toArray, List.set_cons_succ, List.set_cons_zero]
  refine wpAnyH_all (rs := [10]) (by kernel_rfl) (by decide) (forall_one ?_)
  refine wpOp_of rfl rfl (lit_wp (some 42) rfl (v := .map (some w1.drew.heap.size)) (w' := w1.drew.alloc (.map #[] 0)) (by simp [execOp, run_makeMap]) ⟨S1.out, ?_⟩)
  simp only [Act.put, List.setIfInBounds_toArray, List.set_cons_succ, List.set_cons_zero]
  refine takeH (i := 11) (some 43) (.agg #[.string k, .map (some w1.drew.heap.size)]) rfl rfl (by kernel_rfl) (by kernel_rfl) (by kernel_rfl) (fun _ _ _ h => h) (by rfl) S1.out ?_ ?_
  · intro w hSw
    go_simp
  simp only [Act.put, List.setIfInBounds_toArray, List.set_cons_succ, List.set_cons_zero]
  generalize w1.drew = wd at *
  obtain ⟨mb, hmb⟩ : ∃ mb, wd.heap.size = mb := ⟨_, rfl⟩
  simp only [hmb] at CP HM HMB ⊢
  generalize wd.alloc (.map #[] 0) = wm at *
  refine wpAnyH_all (rs := [12]) (by kernel_rfl) (by decide) (forall_one ?_)
  refine wpOp_of rfl rfl (call_wp (some 44) rfl 75 #[.tmp 40, .tmp 43] #[132, 136] rfl (by simp [go_sem]) #[.pointer (some ⟨s.p, 0, none⟩), .agg #[.string k, .map (some mb)]] (by go_simp) CP.out ?_)
  rintro e w4 ⟨rfl, m4, g4, hL4, hm4, k4⟩
  have Hm := H1.out.keptN KM.out
  have hd4 : MapF KS (.int .i64 0) w4 s.bh R (fun x => .int .i64 (s.H x : Nat)) := Hm.hd.kept k4 (fun e => (Hm.fo_ne e).2.1 rfl)
  obtain ⟨w5, hrun, hd5, hg5⟩ := hd4.add (tM := 137) (k := k) (f' := fun x => .int .i64 (updF s.H k N x : Nat)) (val := .int .i64 (N : Int)) Try.underlying137 (by
    have h1 := congrArg List.length H1.out.rowR
    have h2 : s.row.length ≤ s.vals.length := by
      have h3 := nodup_le (ks := s.row) (l := List.range (s.vals.length + 1)) H1.out.lst.nodup (fun x hx => by have := H1.out.lst.range x hx; exact List.mem_range.2 (by omega))
      have h4 : s.row.length ≤ (List.range (s.vals.length + 1)).length := h3
      simp at h4
      have h5 : 0 ∉ s.row := fun e => by have := (H1.out.lst.range 0 e).1; omega
      have h6 := nodup_le (ks := 0 :: s.row) (l := List.range (s.vals.length + 1)) (List.nodup_cons.2 ⟨h5, H1.out.lst.nodup⟩) (fun x hx => by
        rcases List.mem_cons.1 hx with rfl | hx
        · exact List.mem_range.2 (by omega)
        · have := H1.out.lst.range x hx; exact List.mem_range.2 (by omega))
      simp at h6
      exact h6
    have := H1.out.lv
    simp at h1
    omega) HO.out HX.out (fun x hx => by
    have hne : x ≠ k := fun e => HX.out (by rw [← e]; exact hx)
    rw [updF_other hne]) (by rw [updF_same]; rfl)
  have HF := Lib.hid (H1.out.opened HX.out (mb := mb) HN.out KM.out HB1.out HMB.out HM.out hL4 hm4 k4 hd5 hg5)
  refine ⟨_, rfl, ⟨by
    have hb4 := Hm.here.kept k4 (fun e => (Hm.fo_ne e).1 rfl)
    exact ⟨by have := hb4.cell 0; simpa using this, by have := hb4.cell 1; simpa using this, S1.out.2.2⟩, ?_⟩⟩
  simp only [Act.put, List.setIfInBounds_toArray, List.set_cons_succ, List.set_cons_zero]
  clear hd4 hd5 hg5 hL4 hm4 k4 Hm
  refine wpAnyH_all (rs := [13]) (by kernel_rfl) (by decide) (forall_one ?_)
  refine wpOp_of rfl rfl (upd_wp _ _ _ _ rfl rfl rfl rfl hrun ⟨?_, wpAnyH_done (by kernel_rfl) ?_ _⟩)
  · have hb5 := HF.out.1.here
    exact ⟨by have := hb5.cell 0; simpa using this, by have := hb5.cell 1; simpa using this, S1.out.2.2⟩
  go_wp2_with fail
  go_ret
  exact ⟨rfl, ⟨_, HF.out.1⟩, FBP.after K1.out HF.out.2⟩
end
end Go.Proofs.Ytodghgeghpbdlaa
