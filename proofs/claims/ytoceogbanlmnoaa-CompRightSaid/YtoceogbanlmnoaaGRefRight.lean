/- Layer comp: the reference's Right of steps. -/
import Derived.Test.YtoceogbanlmnoaaGB
namespace Go.Proofs.Ytoceogbanlmnoaa
open Go.RowKit
set_option maxRecDepth 100000

abbrev RAt (hd : SH) (sb : List St) : Prop := ∀ ok ta tc a cap (d : Int) w, TsAt w ok (.slice ta hd.ts.length tc) hd.ts → SHolds w ok (.slice a sb.length cap) sb → 0 ≤ d → d ≤ 4 →
  Calls Try.prog 23 #[vS hd (.slice ta hd.ts.length tc) (.slice a sb.length cap), .int .i64 d] w fun e w' => e = .returned (.bool ((St.mk hd sb).rAt d)) ∧ Kept Nil w w'
abbrev RAtIH (subs : List St) : Prop := ∀ hd sb, St.mk hd sb ∈ subs → RAt hd sb
theorem tOK_bad {t0 t1 t2 : Int} (h : t0 < 0 ∨ 2 < t0 ∨ t1 < -1 ∨ 15 < t1 ∨ t2 < 0 ∨ 2 < t2 ∨ (t1 = -1 ∧ t0 ≤ t2)) : tOK (t0, t1, t2) = false := by
  unfold tOK
  refine decide_eq_false (fun hh => ?_)
  have h0 : (0 ≤ t0 ∧ t0 ≤ 2) ∧ (-1 ≤ t1 ∧ t1 ≤ 15) ∧ (0 ≤ t2 ∧ t2 ≤ 2) ∧ (t1 = -1 → t2 < t0) := hh
  omega
theorem tOK_good {t0 t1 t2 : Int} (h : 0 ≤ t0 ∧ t0 ≤ 2 ∧ -1 ≤ t1 ∧ t1 ≤ 15 ∧ 0 ≤ t2 ∧ t2 ≤ 2 ∧ (t1 = -1 → t2 < t0)) : tOK (t0, t1, t2) = true := by
  unfold tOK
  exact decide_eq_true ⟨⟨h.1, h.2.1⟩, ⟨h.2.2.1, h.2.2.2.1⟩, ⟨h.2.2.2.2.1, h.2.2.2.2.2.1⟩, h.2.2.2.2.2.2⟩
theorem tsOK_bad {ts : List Tst} {f : Int} {t : Tst} {r : List Tst} (h : tsOK (-1) ts = (decide (f < t.1) && tOK t && tsOK t.1 r)) (hb : tOK t = false ∨ t.1 ≤ f) : tsOK (-1) ts = false := by
  rw [h]
  rcases hb with hb | hb
  · rw [hb]; simp
  · rw [decide_eq_false (by omega)]; rfl
set_option maxHeartbeats 4000000 in
theorem refRightS_step (k k0 k1 k2 : Int) (ts : List Tst) (subs : List St) (IH : Hid (RAtIH subs)) (hl : subs.length ≤ 5000) (htl : ts.length ≤ 5000) (hcn : (St.mk ⟨k, k0, k1, k2, ts⟩ subs).cnt ≤ 5000) (ok : Nat → Nat → Prop) (ta : Option Addr) (tc : Nat) (a : Option Addr) (cap : Nat) (d : Int) (w : World) (ht : TsAt w ok (.slice ta ts.length tc) ts) (h : SHolds w ok (.slice a subs.length cap) subs) (hd0 : 0 ≤ d) (hd1 : d ≤ 4) :
    Calls Try.prog 23 #[vS ⟨k, k0, k1, k2, ts⟩ (.slice ta ts.length tc) (.slice a subs.length cap), .int .i64 d] w fun e w' => e = .returned (.bool ((St.mk ⟨k, k0, k1, k2, ts⟩ subs).rAt d)) ∧ Kept Nil w w' := by
  have HV : Hid ((St.mk ⟨k, k0, k1, k2, ts⟩ subs).rAt d = if 3 < d ∨ k < 1 ∨ 3 < k ∨ 16 < (St.mk ⟨k, k0, k1, k2, ts⟩ subs).cnt then false else if k = 3 then z3 k0 k1 k2 && (decide (ts.length = 0) && (decide (subs.length ≠ 0) && rLAt subs (d + 1))) else okK3 k0 k1 k2 && (decide (subs.length = 0) && tsOK (-1) ts)) := Lib.hid (by rw [St.rAt])
  have CZ : Hid (∀ W, Kept Nil w W → Calls Try.prog 40 #[vS ⟨k, k0, k1, k2, ts⟩ (.slice ta ts.length tc) (.slice a subs.length cap)] W fun e w' => e = .returned (.int .i64 ((St.mk ⟨k, k0, k1, k2, ts⟩ subs).cnt : Int)) ∧ Kept Nil W w') := Lib.hid fun W kW => refStSize_any (.mk ⟨k, k0, k1, k2, ts⟩ subs) hcn ok ta _ tc a cap W (h.keptN kW)
  have CK := Lib.hid (fun W => refKeyRight_any k0 k1 k2 W)
  have hq : ∀ W, (Op.equalIn 10000 38 (.agg #[.int .i64 k0, .int .i64 k1, .int .i64 k2]) (.agg #[.int .i64 0, .int .i64 0, .int .i64 0])).run Try.prog W = .ok (z3 k0 k1 k2) W := fun W => eqArr k0 k1 k2 0 0 0 W
  have HT := Lib.hid ht
  have HS := Lib.hid h
  generalize (St.mk ⟨k, k0, k1, k2, ts⟩ subs).cnt = c at HV CZ hcn
  generalize z3 k0 k1 k2 = z at HV hq
  generalize okK3 k0 k1 k2 = q at HV CK
  generalize (St.mk ⟨k, k0, k1, k2, ts⟩ subs).rAt d = v at HV ⊢
  clear ht h
  obtain ⟨tn, hn1⟩ : ∃ n, ts.length = n := ⟨_, rfl⟩
  obtain ⟨len, hl1⟩ : ∃ n, subs.length = n := ⟨_, rfl⟩
  rw [hn1] at HT htl HV CZ ⊢
  rw [hl1] at HS hl HV CZ ⊢
  have HN1 := Lib.hid hn1
  have HL1 := Lib.hid hl1
  clear hn1 hl1
  have K0 := Lib.hid ((Kept.refl Nil w).alloc (.cells (arrS ⟨k, k0, k1, k2, ts⟩ (.slice ta tn tc) (.slice a len cap)) 48))
  have B0 := Lib.hid (Blk.new w 48 (arrS ⟨k, k0, k1, k2, ts⟩ (.slice ta tn tc) (.slice a len cap)))
  by_cases h3 : 3 < d
  · have HE : Hid (v = false) := Lib.hid (by rw [HV.out, if_pos (.inl h3)])
    go_enter Try.func23, Try.ntmps23
    go_wp2_with fail
    go_ret
    exact ⟨ret_bool HE.out.symm, K0.out⟩
  have h3' : decide (3 < d) = false := decide_eq_false h3
  by_cases hk1 : k < 1
  · have HE : Hid (v = false) := Lib.hid (by rw [HV.out, if_pos (.inr (.inl hk1))])
    go_enter Try.func23, Try.ntmps23
    go_wp2_with fail
    go_ret
    exact ⟨ret_bool HE.out.symm, K0.out⟩
  have hk1' : decide (k < 1) = false := decide_eq_false hk1
  by_cases hk3 : 3 < k
  · have HE : Hid (v = false) := Lib.hid (by rw [HV.out, if_pos (.inr (.inr (.inl hk3)))])
    go_enter Try.func23, Try.ntmps23
    go_wp2_with fail
    go_ret
    exact ⟨ret_bool HE.out.symm, K0.out⟩
  have hk3' : decide (3 < k) = false := decide_eq_false hk3
  by_cases hc : 16 < c
  · have HE : Hid (v = false) := Lib.hid (by rw [HV.out, if_pos (.inr (.inr (.inr hc)))])
    have hc' : decide ((16 : Int) < (c : Int)) = true := decide_eq_true (by omega)
    go_enter Try.func23, Try.ntmps23
    go_wp2_with fail
    refine (CZ.out _ K0.out).mono ?_
    rintro e w2 ⟨rfl, k2'⟩
    go_wp2_with fail
    go_ret
    exact ⟨ret_bool HE.out.symm, K0.out.trans k2' (fun _ _ g => g)⟩
  have hc' : decide ((16 : Int) < (c : Int)) = false := decide_eq_false (by omega)
  by_cases hkk : k = 3
  · have HV1 : Hid (v = (z && (decide (tn = 0) && (decide (len ≠ 0) && rLAt subs (d + 1))))) := Lib.hid (by rw [HV.out, if_neg (by omega), if_pos hkk])
    subst hkk
    clear HV hk3 hk1
    go_enter Try.func23, Try.ntmps23
    go_wp2_with fail
    refine (CZ.out _ K0.out).mono ?_
    rintro e w2 ⟨rfl, k2'⟩
    have K2 := Lib.hid (K0.out.trans k2' (fun _ _ g => g))
    have B2 := Lib.hid (B0.out.kept k2' id)
    clear k2' K0 B0
    have z0 := B2.out.cell 0
    have z1 := B2.out.cell 1
    have z2 := B2.out.cell 2
    have z3 := B2.out.cell 3
    have z4 := B2.out.cell 4
    have z5 := B2.out.cell 5
    simp at z0 z1 z2 z3 z4 z5
    cases z
    · go_wp2_with fail
      go_ret
      exact ⟨ret_bool (by rw [HV1.out]; rfl), K2.out⟩
    · by_cases ht0 : 0 < tn
      · have HE : Hid (v = false) := Lib.hid (by rw [HV1.out, decide_eq_false (by omega : ¬ tn = 0)]; rfl)
        have ht0' : decide ((0 : Int) < (tn : Int)) = true := decide_eq_true (by omega)
        go_wp2_with fail
        go_ret
        exact ⟨ret_bool HE.out.symm, K2.out⟩
      · obtain rfl : tn = 0 := by omega
        by_cases hl0 : len = 0
        · subst hl0
          go_wp2_with fail
          go_ret
          exact ⟨ret_bool (by rw [HV1.out]; rfl), K2.out⟩
        · have hl0' : ((len : Int) == 0) = false := by rw [beq_eq_false_iff_ne]; omega
          have HV2 : Hid (v = rLAt subs (d + 1)) := Lib.hid (by rw [HV1.out, decide_eq_true hl0]; rfl)
          clear HV1
          go_wp2_with fail
          go_loopw [48] (fun i wr => ∃ j : Nat, j ≤ len ∧ i = .int .i64 j ∧ rLAt subs (d + 1) = rLAt (subs.drop j) (d + 1) ∧ Kept Nil w wr) (fun i _ => len - (intOf i).toNat)
          case atStart => exact ⟨0, by omega, rfl, rfl, K2.out⟩
          case round =>
            obtain ⟨j, hj, rfl, hch, hK⟩ := hrel
            have HK := Lib.hid hK
            have HCh := Lib.hid hch
            clear hK hch z0 z1 z2 z3 z4 z5
            by_cases hlt : j < len
            · obtain ⟨⟨⟨k', k0', k1', k2', ts'⟩, sb⟩, hx⟩ : ∃ x, subs[j]? = some x := ⟨_, List.getElem?_eq_getElem (by have := HL1.out; omega)⟩
              obtain ⟨b, o, ta', tc', a', cap', rfl, hok, hr, ht, hs⟩ := (HS.out.keptN HK.out).at_ hx
              have CX : Hid (∀ W, Kept Nil wr W → Calls Try.prog 23 #[vS ⟨k', k0', k1', k2', ts'⟩ (.slice ta' ts'.length tc') (.slice a' sb.length cap'), .int .i64 (d + 1)] W fun e w' => e = .returned (.bool ((St.mk ⟨k', k0', k1', k2', ts'⟩ sb).rAt (d + 1))) ∧ Kept Nil W w') := Lib.hid fun W kW => IH.out _ _ (List.mem_of_getElem? hx) ok ta' tc' a' cap' (d + 1) W (ht.keptN kW) (hs.keptN kW) (by omega) (by omega)
              have HR : Hid (wr.rangeAt b (o + j * 6) (cS ⟨k', k0', k1', k2', ts'⟩ (.slice ta' ts'.length tc') (.slice a' sb.length cap'))) := Lib.hid hr
              have HN := Lib.hid (rLAt_drop (d := d + 1) hx)
              generalize (St.mk ⟨k', k0', k1', k2', ts'⟩ sb).rAt (d + 1) = r at CX HN
              generalize ts'.length = tn' at CX HR
              generalize sb.length = len' at CX HR
              clear hx hr ht hs hok
              go_wp2_with ((with_reducible refine wpList_load_Q rfl (.tmp 50) rfl _ _ rfl ⟨k', k0', k1', k2', ts'⟩ (.slice ta' tn' tc') (.slice a' len' cap') ?_ ?_)
                           · exact HR.out)
              refine (CX.out _ ((Kept.refl Nil wr).alloc _)).mono ?_
              rintro e w3 ⟨rfl, k3⟩
              have K3 := Lib.hid ((HK.out.alloc _).trans k3 (fun _ _ g => g))
              clear k3
              cases r
              · go_wp2_with fail
                go_ret
                exact ⟨ret_bool (by rw [HV2.out, HCh.out, HN.out]; rfl), K3.out⟩
              · go_wp2_with fail
                go_roundw
                case rel => exact ⟨j + 1, by omega, by go_num, by rw [HCh.out, HN.out]; rfl, K3.out⟩
                case measure => simp [intOf]; omega
            · obtain rfl : len = j := by omega
              have HE : Hid (rLAt (subs.drop len) (d + 1) = true) := Lib.hid (by rw [List.drop_eq_nil_of_le (by have := HL1.out; omega)]; rfl)
              go_wp2_with fail
              go_ret
              exact ⟨ret_bool (by rw [HV2.out, HCh.out, HE.out]), HK.out⟩
  · have hkk' : (k == 3) = false := by simpa using hkk
    have HV1 : Hid (v = (q && (decide (len = 0) && tsOK (-1) ts))) := Lib.hid (by rw [HV.out, if_neg (by omega), if_neg hkk])
    clear HV
    go_enter Try.func23, Try.ntmps23
    go_wp2_with fail
    refine (CZ.out _ K0.out).mono ?_
    rintro e w2 ⟨rfl, k2'⟩
    have K2 := Lib.hid (K0.out.trans k2' (fun _ _ g => g))
    have B2 := Lib.hid (B0.out.kept k2' id)
    clear k2' K0 B0
    have z0 := B2.out.cell 0
    have z1 := B2.out.cell 1
    have z2 := B2.out.cell 2
    have z3 := B2.out.cell 3
    simp at z0 z1 z2 z3
    go_wp2_with fail
    refine (CK.out _).mono ?_
    rintro e w3 ⟨rfl, k3⟩
    have K3 := Lib.hid (K2.out.trans k3 (fun _ _ g => g))
    have B3 := Lib.hid (B2.out.kept k3 id)
    have z4 := B3.out.cell 4
    have z5 := B3.out.cell 5
    simp at z4 z5
    clear k3 z0 z1 z2 z3 K2 B2
    cases q
    · go_wp2_with fail
      go_ret
      exact ⟨ret_bool (by rw [HV1.out]; rfl), K3.out⟩
    · by_cases hl0 : 0 < len
      · have HE : Hid (v = false) := Lib.hid (by rw [HV1.out, decide_eq_false (by omega : ¬ len = 0)]; rfl)
        have hl0' : decide ((0 : Int) < (len : Int)) = true := decide_eq_true (by omega)
        go_wp2_with fail
        go_ret
        exact ⟨ret_bool HE.out.symm, K3.out⟩
      · obtain rfl : len = 0 := by omega
        have HV2 : Hid (v = tsOK (-1) ts) := Lib.hid (by rw [HV1.out]; rfl)
        clear HV1
        go_wp2_with fail
        go_loopw [7, 71] (fun _ i wr => ∃ j : Nat, j ≤ tn ∧ i = .int .i64 j ∧ tsOK (-1) ts = tsOK (lastF ts j) (ts.drop j) ∧ Blk wr w.heap.size 48 (arrS ⟨k, k0, k1, k2, ts⟩ (.slice ta tn tc) (.slice a 0 cap)) ∧ Kept Nil w wr) (fun _ i _ => tn - (intOf i).toNat)
        case atStart => exact ⟨0, by omega, rfl, rfl, B3.out, K3.out⟩
        case round =>
          obtain ⟨j, hj, rfl, hch, hB, hK⟩ := hrel
          have HK := Lib.hid hK
          have HB := Lib.hid hB
          have HCh := Lib.hid hch
          have y4 := hB.cell 4
          have hs1 : w.heap.size < wr.heap.size := hB.lt
          simp at y4
          clear hK hB hch z4 z5 K3 B3
          by_cases hlt : j < tn
          · obtain ⟨⟨t0, t1, t2⟩, hx⟩ : ∃ x, ts[j]? = some x := ⟨_, List.getElem?_eq_getElem (by have := HN1.out; omega)⟩
            obtain ⟨b, o, rfl, hok, hr⟩ := (HT.out.keptN HK.out).at_ hx
            have HR := Lib.hid hr
            have HN := Lib.hid (HCh.out.trans (tsOK_drop hx))
            have HF : Hid (lastF ts (j + 1) = t0) := Lib.hid (lastF_succ hx)
            rw [HF.out] at HN
            have HP : Hid (∀ m, j = m + 1 → wr.cell? ⟨b, o + m * 3, none⟩ = some (.int .i64 (lastF ts j))) := Lib.hid fun m hm => by
              obtain ⟨⟨p0, p1, p2⟩, hp⟩ : ∃ x, ts[m]? = some x := ⟨_, List.getElem?_eq_getElem (by have := HN1.out; omega)⟩
              obtain ⟨b', o', e', _, hr'⟩ := (HT.out.keptN HK.out).at_ hp
              cases e'
              rw [hm, lastF_succ hp]
              exact hr' 0 _ rfl
            have HF0 : Hid (j = 0 → lastF ts j = -1) := Lib.hid fun e => by rw [e]; rfl
            generalize lastF ts j = f0 at *
            have KA := Lib.hid (HK.out.alloc (.cells #[.int .i64 t0, .int .i64 t1, .int .i64 t2] 79))
            have HBad : Hid (t0 < 0 ∨ 2 < t0 ∨ t1 < -1 ∨ 15 < t1 ∨ t2 < 0 ∨ 2 < t2 ∨ (t1 = -1 ∧ t0 ≤ t2) → v = false) := Lib.hid fun hb => by rw [HV2.out]; exact tsOK_bad (t := (t0, t1, t2)) HN.out (.inl (tOK_bad hb))
            clear hx hr hok
            have hj0 : (0 : Int) ≤ (j : Int) := by omega
            have hjl : (j : Int) < (tn : Int) := by omega
            by_cases c0 : t0 < 0
            · have hd' : decide (t0 < 0) = true := decide_eq_true c0
              have HE := Lib.hid (HBad.out (by omega))
              go_wp2_with ((with_reducible refine wpList_load_U rfl (.tmp 74) rfl _ _ rfl t0 t1 t2 ?_ ?_)
                           · exact HR.out)
              go_ret
              exact ⟨ret_bool HE.out.symm, KA.out⟩
            have c0' : decide (t0 < 0) = false := decide_eq_false c0
            by_cases c1 : 2 < t0
            · have hd' : decide (2 < t0) = true := decide_eq_true c1
              have HE := Lib.hid (HBad.out (by omega))
              go_wp2_with ((with_reducible refine wpList_load_U rfl (.tmp 74) rfl _ _ rfl t0 t1 t2 ?_ ?_)
                           · exact HR.out)
              go_ret
              exact ⟨ret_bool HE.out.symm, KA.out⟩
            have c1' : decide (2 < t0) = false := decide_eq_false c1
            by_cases c2 : t1 < -1
            · have hd' : decide (t1 < -1) = true := decide_eq_true c2
              have HE := Lib.hid (HBad.out (by omega))
              go_wp2_with ((with_reducible refine wpList_load_U rfl (.tmp 74) rfl _ _ rfl t0 t1 t2 ?_ ?_)
                           · exact HR.out)
              go_ret
              exact ⟨ret_bool HE.out.symm, KA.out⟩
            have c2' : decide (t1 < -1) = false := decide_eq_false c2
            by_cases c3 : 15 < t1
            · have hd' : decide (15 < t1) = true := decide_eq_true c3
              have HE := Lib.hid (HBad.out (by omega))
              go_wp2_with ((with_reducible refine wpList_load_U rfl (.tmp 74) rfl _ _ rfl t0 t1 t2 ?_ ?_)
                           · exact HR.out)
              go_ret
              exact ⟨ret_bool HE.out.symm, KA.out⟩
            have c3' : decide (15 < t1) = false := decide_eq_false c3
            by_cases c4 : t2 < 0
            · have hd' : decide (t2 < 0) = true := decide_eq_true c4
              have HE := Lib.hid (HBad.out (by omega))
              go_wp2_with ((with_reducible refine wpList_load_U rfl (.tmp 74) rfl _ _ rfl t0 t1 t2 ?_ ?_)
                           · exact HR.out)
              go_ret
              exact ⟨ret_bool HE.out.symm, KA.out⟩
            have c4' : decide (t2 < 0) = false := decide_eq_false c4
            by_cases c5 : 2 < t2
            · have hd' : decide (2 < t2) = true := decide_eq_true c5
              have HE := Lib.hid (HBad.out (by omega))
              go_wp2_with ((with_reducible refine wpList_load_U rfl (.tmp 74) rfl _ _ rfl t0 t1 t2 ?_ ?_)
                           · exact HR.out)
              go_ret
              exact ⟨ret_bool HE.out.symm, KA.out⟩
            have c5' : decide (2 < t2) = false := decide_eq_false c5
            have BB := Lib.hid (HB.out.alloc (.cells #[.int .i64 t0, .int .i64 t1, .int .i64 t2] 79))
            by_cases e1 : t1 = -1
            · subst e1
              by_cases e2 : t0 ≤ t2
              · have e2' : decide (t0 ≤ t2) = true := decide_eq_true e2
                have HE := Lib.hid (HBad.out (by omega))
                go_wp2_with ((with_reducible refine wpList_load_U rfl (.tmp 74) rfl _ _ rfl t0 (-1) t2 ?_ ?_)
                             · exact HR.out)
                go_quiet (fail)
                go_wp2_with fail
                go_ret
                exact ⟨ret_bool HE.out.symm, KA.out.drewN _⟩
              · have e2' : decide (t0 ≤ t2) = false := decide_eq_false e2
                have HOK : Hid (tOK (t0, (-1), t2) = true) := Lib.hid (tOK_good (by omega))
                by_cases hj1 : j = 0
                · have hjd : decide (0 < j) = false := decide_eq_false (by omega)
                  have hjd2 : decide ((0 : Int) < (j : Int)) = false := decide_eq_false (by omega)
                  have hf : f0 = -1 := HF0.out hj1
                  have HN3 : Hid (tsOK (-1) ts = tsOK t0 (ts.drop (j + 1))) := Lib.hid (by rw [HN.out, HOK.out, decide_eq_true (by omega : f0 < t0)]; rfl)
                  clear hj1
                  go_wp2_with ((with_reducible refine wpList_load_U rfl (.tmp 74) rfl _ _ rfl t0 (-1) t2 ?_ ?_)
                               · exact HR.out)
                  go_quiet (fail)
                  go_wp2_with fail
                  go_roundw
                  case rel => exact ⟨j + 1, by omega, by go_num, by rw [HF.out]; exact HN3.out, BB.out.kept ((Kept.refl Nil _).drewN _) id, KA.out.drewN _⟩
                  case measure => simp [intOf]; omega
                · obtain ⟨m, hm⟩ : ∃ m, j = m + 1 := ⟨j - 1, by omega⟩
                  have hjd : decide (0 < j) = true := decide_eq_true (by omega)
                  have hjd2 : decide ((0 : Int) < (j : Int)) = true := decide_eq_true (by omega)
                  have zp := HP.out m hm
                  have hbl : b < wr.heap.size := World.block_lt_of_cell? wr _ zp
                  have hmj : (j : Int) - 1 = (m : Int) := by omega
                  have hmw : IntKind.i64.wrap ((j : Int) - 1) = (m : Int) := by rw [IntKind.wrap_i64]; omega
                  have hm0 : (0 : Int) ≤ (m : Int) := by omega
                  have hml : (m : Int) < (tn : Int) := by omega
                  clear hm hj1
                  by_cases hf : t0 ≤ f0
                  · have hf' : decide (t0 ≤ f0) = true := decide_eq_true hf
                    have HE : Hid (v = false) := Lib.hid (by rw [HV2.out]; exact tsOK_bad (t := (t0, (-1), t2)) HN.out (.inr hf))
                    go_wp2_with ((with_reducible refine wpList_load_U rfl (.tmp 74) rfl _ _ rfl t0 (-1) t2 ?_ ?_)
                                 · exact HR.out)
                    go_quiet (fail)
                    go_wp2_with fail
                    go_ret
                    exact ⟨ret_bool HE.out.symm, KA.out.drewN _⟩
                  · have hf' : decide (t0 ≤ f0) = false := decide_eq_false hf
                    have HN3 : Hid (tsOK (-1) ts = tsOK t0 (ts.drop (j + 1))) := Lib.hid (by rw [HN.out, HOK.out, decide_eq_true (by omega : f0 < t0)]; rfl)
                    go_wp2_with ((with_reducible refine wpList_load_U rfl (.tmp 74) rfl _ _ rfl t0 (-1) t2 ?_ ?_)
                                 · exact HR.out)
                    go_quiet (fail)
                    go_wp2_with fail
                    go_roundw
                    case rel => exact ⟨j + 1, by omega, by go_num, by rw [HF.out]; exact HN3.out, BB.out.kept ((Kept.refl Nil _).drewN _) id, KA.out.drewN _⟩
                    case measure => simp [intOf]; omega
            · have e1' : (t1 == -1) = false := by simpa using e1
              have HOK : Hid (tOK (t0, t1, t2) = true) := Lib.hid (tOK_good (by omega))
              by_cases hj1 : j = 0
              · have hjd : decide (0 < j) = false := decide_eq_false (by omega)
                have hjd2 : decide ((0 : Int) < (j : Int)) = false := decide_eq_false (by omega)
                have hf : f0 = -1 := HF0.out hj1
                have HN3 : Hid (tsOK (-1) ts = tsOK t0 (ts.drop (j + 1))) := Lib.hid (by rw [HN.out, HOK.out, decide_eq_true (by omega : f0 < t0)]; rfl)
                clear hj1
                go_wp2_with ((with_reducible refine wpList_load_U rfl (.tmp 74) rfl _ _ rfl t0 t1 t2 ?_ ?_)
                             · exact HR.out)
                go_quiet (fail)
                go_wp2_with fail
                go_roundw
                case rel => exact ⟨j + 1, by omega, by go_num, by rw [HF.out]; exact HN3.out, BB.out.kept ((Kept.refl Nil _).drewN _) id, KA.out.drewN _⟩
                case measure => simp [intOf]; omega
              · obtain ⟨m, hm⟩ : ∃ m, j = m + 1 := ⟨j - 1, by omega⟩
                have hjd : decide (0 < j) = true := decide_eq_true (by omega)
                have hjd2 : decide ((0 : Int) < (j : Int)) = true := decide_eq_true (by omega)
                have zp := HP.out m hm
                have hbl : b < wr.heap.size := World.block_lt_of_cell? wr _ zp
                have hmj : (j : Int) - 1 = (m : Int) := by omega
                have hmw : IntKind.i64.wrap ((j : Int) - 1) = (m : Int) := by rw [IntKind.wrap_i64]; omega
                have hm0 : (0 : Int) ≤ (m : Int) := by omega
                have hml : (m : Int) < (tn : Int) := by omega
                clear hm hj1
                by_cases hf : t0 ≤ f0
                · have hf' : decide (t0 ≤ f0) = true := decide_eq_true hf
                  have HE : Hid (v = false) := Lib.hid (by rw [HV2.out]; exact tsOK_bad (t := (t0, t1, t2)) HN.out (.inr hf))
                  go_wp2_with ((with_reducible refine wpList_load_U rfl (.tmp 74) rfl _ _ rfl t0 t1 t2 ?_ ?_)
                               · exact HR.out)
                  go_quiet (fail)
                  go_wp2_with fail
                  go_ret
                  exact ⟨ret_bool HE.out.symm, KA.out.drewN _⟩
                · have hf' : decide (t0 ≤ f0) = false := decide_eq_false hf
                  have HN3 : Hid (tsOK (-1) ts = tsOK t0 (ts.drop (j + 1))) := Lib.hid (by rw [HN.out, HOK.out, decide_eq_true (by omega : f0 < t0)]; rfl)
                  go_wp2_with ((with_reducible refine wpList_load_U rfl (.tmp 74) rfl _ _ rfl t0 t1 t2 ?_ ?_)
                               · exact HR.out)
                  go_quiet (fail)
                  go_wp2_with fail
                  go_roundw
                  case rel => exact ⟨j + 1, by omega, by go_num, by rw [HF.out]; exact HN3.out, BB.out.kept ((Kept.refl Nil _).drewN _) id, KA.out.drewN _⟩
                  case measure => simp [intOf]; omega
          · obtain rfl : tn = j := by omega
            have HE : Hid (tsOK (lastF ts tn) (ts.drop tn) = true) := Lib.hid (by rw [List.drop_eq_nil_of_le (by have := HN1.out; omega)]; rfl)
            go_wp2_with fail
            go_ret
            exact ⟨ret_bool (by rw [HV2.out, HCh.out, HE.out]), HK.out⟩
theorem refRightS_any : ∀ s : St, s.mass ≤ 5000 → RAt s.hd s.subs := by
  refine St.ind fun hd subs ih hc ok ta tc a cap d w ht h hd0 hd1 => ?_
  have hc' : 1 + hd.ts.length + massL subs ≤ 5000 := by simpa [St.mass] using hc
  have hl := length_massL subs
  exact refRightS_step hd.k hd.k0 hd.k1 hd.k2 hd.ts subs (Lib.hid fun hd' sb hx => ih _ hx (by have := mass_mem hx; omega)) (by omega) (by omega) (Nat.le_trans (cnt_le_mass.1 _) hc) ok ta tc a cap d w ht h hd0 hd1
end Go.Proofs.Ytoceogbanlmnoaa
