/- Blocks (block.Blocks[string,int]): those: owners that are wanted, in their order (ow). -/
import Derived.Test.YtodghgeghpbdlaaBpN
import Derived.Test.YtodghgeghpbdlaaBTold
import Derived.BigRegionIn
import Derived.Sort.CutIn
namespace Go.Proofs.Ytodghgeghpbdlaa
open Go.RowKit Go.Maps Go.WideMaps
attribute [local go_sem] Oper.semAt_some
set_option maxRecDepth 100000

section
variable {w : World} {B pb n : Nat} {R : List ByteArray} {Ps : List (ByteArray × Int)} {s : SP} {f : ByteArray → Bool}
set_option maxHeartbeats 4000000 in
theorem those_ow_p (h : BSP w B pb R Ps n s) (hn : n ≤ 5000)  (hW : ∀ V, Kept Nil w V → ∀ k ∈ R, Calls Try.prog 81 (#[.agg #[.string k, .map (some (s.Mb k))]]) V fun e V' => e = .returned (.bool (f k)) ∧ Kept Nil V V') :
    Calls Try.prog 79 #[.pointer (some ⟨pb, 0, none⟩), .func (.func 81) #[] #[]] w fun e w' => ∃ a cap, e = .returned (.slice a (R.filter f).length cap) ∧ In cKP 1 w' a (R.filter f).length (R.filter f) ∧ Kept Nil w w' ∧ (R.filter f).length ≤ cap ∧ (∀ b, (Value.slice a (R.filter f).length cap).ownBlock = some b → w.heap.size ≤ b) := by
  by_cases hR1 : R = []
  · subst hR1
    have CL0 := Lib.hid (len_p (⟨s, h.keptN ((Kept.refl _ _).alloc (.cells #[.func (.func 81) #[] #[]] 148))⟩ : BTP _ B pb [] Ps n))
    have HK00 := Lib.hid ((Kept.refl Nil w).alloc (.cells #[.func (.func 81) #[] #[]] 148))
    clear h hW
    go_enter Try.func79, Try.ntmps79
    go_wp2_with fail
    refine CL0.out.mono ?_
    rintro e w1 ⟨rfl, rfl⟩
    have hz : ((([] : List ByteArray).length : Int) == 0) = true := rfl
    go_wp2_with fail
    go_ret
    exact ⟨none, 0, rfl, ⟨rfl, .inl rfl⟩, HK00.out, Nat.le_refl _, fun b e => by cases e⟩
  have hR0 : ¬ R.length = 0 := fun e => hR1 (List.length_eq_zero_iff.1 e)
  clear hR1
  have HH := Lib.hid h
  have HW := Lib.hid hW
  obtain ⟨b3, hb3⟩ : ∃ b3, w.heap.size = b3 := ⟨_, rfl⟩
  have k0 : Kept Nil w (w.alloc (.cells #[.func (.func 81) #[] #[]] 148)) := (Kept.refl _ _).alloc _
  have B3 : Blk (w.alloc (.cells #[.func (.func 81) #[] #[]] 148)) b3 148 #[.func (.func 81) #[] #[]] := by rw [← hb3]; exact Blk.new _ _ _
  have hz0 : (w.alloc (.cells #[.func (.func 81) #[] #[]] 148)).heap.size = b3 + 1 := by simp [hb3]
  have CL := Lib.hid (len_p (⟨s, h.keptN k0⟩ : BTP _ B pb R Ps n))
  have HK0 := Lib.hid k0
  have HB3 := Lib.hid B3
  have HZ0 := Lib.hid hz0
  have HE3 := Lib.hid hb3
  clear h hW k0 B3 hz0
  refine (callsIn_wide (n := 9)).1 ?_
  refine callsIn_of_wp_marks Try.func79 rfl trivial ?_ rfl
  simp only [Try.ntmps79, List.size_toArray, List.length_cons, List.length_nil, Nat.reduceAdd, Nat.reduceSub, Array.replicate_succ, Array.replicate_zero, List.push_toArray, List.append_toArray, List.nil_append, List.cons_append]
  rw [hb3]
  clear hb3
  gi_wp2
  refine ⟨trivial, (callsIn_wide.2 CL.out).mono ?_⟩
  rintro e w1 ⟨rfl, rfl⟩
  · have hz : ((R.length : Int) == 0) = false := beq_eq_false_iff_ne.2 (by omega)
    generalize w.alloc (.cells #[.func (.func 81) #[] #[]] 148) = w1 at *
    have k2 : Kept Nil w1 (w1.alloc (.cells #[.slice none 0 0] 62)) := (Kept.refl _ _).alloc _
    have H2 := (HH.out.keptN HK0.out).keptN k2
    have c0 := H2.here.cell 0
    simp only [List.getElem?_toArray, List.getElem?_cons_zero] at c0
    have HK2 := Lib.hid (HK0.out.trans k2 (fun _ _ e => e))
    have HB32 := Lib.hid (HB3.out.kept k2 (fun e => e))
    have HB5 := Lib.hid (Blk.new w1 62 #[.slice none 0 0])
    have HZ2 := Lib.hid (show (w1.alloc (.cells #[.slice none 0 0] 62)).heap.size = b3 + 1 + 1 by simp [HZ0.out])
    clear k2 H2 CL
    gi_wp2
    refine ⟨trivial, (callsIn_wide.2 (all_p s.p)).mono ?_⟩
    rintro e w5 ⟨rfl, hw5⟩
    generalize w1.alloc (.cells #[.slice none 0 0] 62) = w2 at *
    have K5 := Lib.hid (show Kept Nil w2 w5 from hw5 ▸ (Kept.refl Nil w2).alloc _)
    have BS5 := Lib.hid (show Blk w5 w2.heap.size 132 #[.pointer (some ⟨s.p, 0, none⟩)] from hw5 ▸ Blk.new _ _ _)
    have HS5 := Lib.hid (show w5.heap.size = w2.heap.size + 1 by rw [hw5, World.size_alloc])
    rw [HZ2.out] at BS5 HS5 ⊢
    rw [HZ0.out] at HB5 ⊢
    have HI := Lib.hid (show ThP w b3 (b3 + 1) (b3 + 1 + 1) s.p (.func (.func 81) #[] #[]) R f [] w5 from
      ⟨HK2.out.trans K5.out (fun _ _ e => e), Nat.zero_le _, by have := HE3.out; omega, HB32.out.kept K5.out (fun e => e), ⟨none, 0, 0, HB5.out.kept K5.out (fun e => e), by simpa using Row.nil _ _⟩, BS5.out⟩)
    clear hw5 c0
    gi_wp2
    rw [HE3.out]
    have HZ5 := Lib.hid (show w5.heap.size = b3 + 1 + 1 + 1 from HS5.out)
    have he3 := HE3.out
    have h5s := HS5.out
    refine wpIn_rangeFunc_toldA (a₁ := ?a1) (w₁ := fun x W => W.alloc (.cells #[.string x.2.1, .map x.2.2] 136)) rfl (by decide) (gf := 132) (lb := #[.pointer (some ⟨b3 + 1 + 1, 0, none⟩)]) rfl trivial (enters_of Try.func132 (by kernel_rfl) rfl)
      (all_told_p B s.p (b3 + 1 + 1) s.m s.g s.row s.vals HH.out.rise (by have := HH.out.lv; omega) 8 w5) (Below.refl _ _) (fun _ => rfl)
      (ThP w b3 (b3 + 1) (b3 + 1 + 1) s.p (.func (.func 81) #[] #[]) R f) (fun _ _ _ => False) (ThP.own (by omega)) (fun _ _ _ _ _ h => h.elim)
      (fun pre V h => ⟨(HH.out.keptN h.k).lst, h.box⟩) HI.out (fun x W => (Kept.refl Nil W).alloc _) ?assign ?body ?done ?stop
    case assign =>
      intro l x W K hK
      dsimp only [encO]
      gi_wp2
      exact hK
    case body =>
      rintro l2 pre ⟨h, k, mb⟩ W W' hI hok hI' kW hlo
      obtain ⟨hj, hv⟩ := hok
      obtain ⟨k0, hk0, rfl⟩ : ∃ k0, R[pre.length]? = some k0 ∧ h = s.H k0 := by
        rw [HH.out.rowR, List.getElem?_map] at hj
        obtain ⟨k0, e1, e2⟩ := Option.map_eq_some_iff.1 hj
        exact ⟨k0, e1, e2.symm⟩
      have hkR := List.mem_of_getElem? hk0
      have hv2 := HH.out.hv k0 hkR
      rw [hv2] at hv
      obtain ⟨e1, e2⟩ := Prod.mk.inj (Option.some.inj hv)
      subst e1 e2
      have hbx : Blk W' W.heap.size 136 #[.string k0, .map (some (s.Mb k0))] := (Blk.new W _ _).kept kW (fun e => by
        obtain ⟨lo, hlo⟩ := hlo
        have hb := Blk.new W 136 #[.string k0, .map (some (s.Mb k0))]
        unfold Blk at hb
        rw [e] at hb
        rw [hb] at hlo; cases hlo)
      have CW0 := Lib.hid (HW.out W' hI'.k k0 hkR)
      have c3 := hI'.fn.cell 0
      simp only [List.getElem?_toArray, List.getElem?_cons_zero] at c3
      have x0 := hbx.cell 0
      have x1 := hbx.cell 1
      have HBX := Lib.hid hbx
      have HI' := Lib.hid hI'
      have HK0' := Lib.hid hk0
      have HKR := Lib.hid hkR
      obtain ⟨bo, hbo⟩ : ∃ bo, W.heap.size = bo := ⟨_, rfl⟩
      rw [hbo] at x0 x1 HBX
      rw [hbo]
      clear hI hI' hk0 hkR hv2 hbx hlo kW hj hbo he3 h5s hz hR0
      gi_wp2
      refine ⟨trivial, (CallsIn.inRound l2 (callsIn_wide.2 CW0.out)).mono ?_⟩
      rintro e W1 ⟨rfl, k1⟩
      have HI1 := Lib.hid (HI'.out.keptN k1)
      by_cases hf : f k0 = true
      · rw [hf]
        have hbx1 := HBX.out.kept k1 (fun e => e)
        have y0 := hbx1.cell 0
        obtain ⟨a, m, cp, h5, hr⟩ := HI'.out.out
        have h51 := h5.kept k1 (fun e => e)
        have hr1 := hr.keptN k1
        have z0 := h51.cell 0
        simp only [List.getElem?_toArray, List.getElem?_cons_zero] at z0
        have hlR : R.length ≤ 5000 := by
          have h1 := congrArg List.length HH.out.rowR
          have h2 := row_le_p HH.out.lst
          have := HH.out.lv
          simp at h1; omega
        have hle1 : ((R.take pre.length).filter f).length ≤ 5000 := Nat.le_trans (List.length_filter_le _ _) (by simp; omega)
        obtain ⟨a9, c9, W2, hrun, hR9, k9, ho9⟩ := hr1.push2 elsP cKP_len cKP_one 62 HI1.out.k.size hle1 k0 #[.string k0] rfl
        have hn5 := hr1.notOwn h51 (by decide)
        have h52 := h51.kept k9 hn5
        have z1 := h52.cell 0
        have f1 := h52.frozen 0
        simp only [List.getElem?_toArray, List.getElem?_cons_zero] at z1
        have hF := Lib.hid (ThP.put HI'.out HK0'.out hf k1 h5 hr hR9 k9 (x := (s.H k0, k0, some (s.Mb k0))) (B0 := w5.heap.size))
        simp only [List.getElem?_toArray, List.getElem?_cons_zero] at y0
        clear ho9 hv h5 hr h51 hr1 hR9 k9 hn5 h52 hlR hle1 hbx1 x0 x1 c3 k1
        gi_wp2_with (refine wpListIn_append_runB rfl (.tmp 21) (.tmp 24) 62 rfl (.slice a m cp) (.slice (some ⟨W1.heap.size, 0, none⟩) 1 1) rfl rfl (v' := .slice a9 (m + 1) c9) (w' := W2) (by with_reducible exact hrun) ?_)
        exact ⟨hF.out.1, trivial, hF.out.2⟩
      · have hf : f k0 = false := by simpa using hf
        rw [hf]
        have hF := Lib.hid (HI1.out.skip (x := (s.H k0, k0, some (s.Mb k0))) HK0'.out hf)
        have HKK := Lib.hid (k1.keepsN (B := w5.heap.size))
        gi_wp2
        exact ⟨HKK.out, trivial, hF.out⟩
    case done =>
      rintro D xs W hD hS hI hK
      have hlt : D < W.heap.size := (Array.getElem?_eq_some_iff.1 hK).1
      have hxs : xs.length = R.length := by
        have h1 : xs.length = s.row.length := hS
        rw [h1, HH.out.rowR, List.length_map]
      obtain ⟨a, m, cp, h5, hr⟩ := hI.out
      rw [hxs, List.take_length] at hr
      have z0 := h5.cell 0
      simp only [List.getElem?_toArray, List.getElem?_cons_zero] at z0
      have hm := hr.caps
      obtain ⟨hm1, hm2, _⟩ := hm
      subst hm1
      have HR := Lib.hid hr
      have HKW := Lib.hid hI.k
      have HKD := Lib.hid hK
      have HM := Lib.hid hm2
      clear hI hK hS h5 hr hm2
      gi_wp2
      refine ⟨by simp, .inl ⟨_, _, rfl, run_takeDeferred HKD.out, ?_⟩⟩
      have hg := grownBy_putObj' W D (.deferred none)
      have kk := kept_of_row hg
      refine ⟨_, ?_, a, cp, rfl, ?_, HKW.out.grown hg (fun j e => by cases e; exact .inr (by omega)), HM.out, fun b e => ?_⟩
      · simp [results, Try.f79, go_sem]
      · refine (HR.out.keptF kk (fun x e f => ?_)).toIn cKP_len (by decide)
        obtain ⟨cur, hc⟩ := HR.out.block e
        cases f
        rw [HKD.out] at hc; cases hc
      · rcases HR.out.2 with ⟨e2, _⟩ | ⟨g, c, cur, e2, hb, _⟩
        · rw [e2] at e; cases e
        · rw [e2] at e; cases e; rw [← HE3.out]; exact hb
    case stop => exact fun _ _ _ _ _ h => h.elim
end
end Go.Proofs.Ytodghgeghpbdlaa
