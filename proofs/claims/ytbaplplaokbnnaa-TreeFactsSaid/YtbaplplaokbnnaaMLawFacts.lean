/- TreeFacts: the walk over the law's own code. -/
import Derived.Test.YtbaplplaokbnnaaMStep
namespace Go.Proofs.Ytbaplplaokbnnaa
open Go.RowKit Go.Maps Go.WideMaps
set_option maxRecDepth 100000

theorem emptyS_ok : KS.ok (⟨#[]⟩ : ByteArray) := by show (⟨#[]⟩ : ByteArray).size ≤ maxLen; unfold maxLen; decide
theorem contains_take {y : List Int} {r : Nat} {z v : Int} (hz : y[r]? = some z) : (y.take (r + 1)).contains v = ((y.take r).contains v || (z == v)) := by
  rw [List.take_add_one, hz, Bool.eq_iff_iff]
  rw [List.contains_iff_mem, Bool.or_eq_true, List.contains_iff_mem, List.mem_append, beq_iff_eq]
  show _ ∨ v ∈ [z] ↔ _
  rw [List.mem_singleton]
  exact or_congr Iff.rfl ⟨Eq.symm, Eq.symm⟩
set_option maxHeartbeats 8000000 in
theorem treeFacts_any (a : Option Addr) (n cap : Nat) (l : List Opn) (w : World) (h : In cO 4 w a n l) (hg : ∀ x ∈ l, x.good) (hm : n ≤ maxLen) :
    Calls Try.prog 6 #[.slice a n cap] w fun e w' => e = .returned (.bool true) ∧ Kept Nil w w' := by
  have HI := Lib.hid h
  have HGd := Lib.hid hg
  have HL := Lib.hid h.1
  have hm1 := hm
  unfold maxLen at hm1
  clear h hg hm
  go_enter Try.func6, Try.ntmps6
  go_wp2_with fail
  refine (new_s w (k := ⟨#[]⟩) emptyS_ok).mono ?_
  rintro e w1 ⟨p, c, rfl, t, lo, k⟩
  have T1 := Lib.hid (show TWs w w1 p (runL ⟨#[]⟩ []) from ⟨c, t, lo, k⟩)
  clear t lo k
  by_cases hn : 60 < n
  · have hb : decide ((60 : Int) < (n : Int)) = true := decide_eq_true (by omega)
    go_wp2_with fail
    refine (awake_any w1).mono ?_
    rintro e w2 ⟨rfl, k2⟩
    go_wp2_with fail
    go_ret
    exact ⟨rfl, T1.out.kept.trans k2 (fun _ _ e => e)⟩
  have hb : decide ((60 : Int) < (n : Int)) = false := decide_eq_false (by omega)
  have hn60 : n ≤ 60 := by omega
  go_wp2_with fail
  go_loopw [29] (fun i wr => ∃ j : Nat, j ≤ n ∧ i = .int .i64 j ∧ TWs w wr p (runL ⟨#[]⟩ (l.take j))) (fun i _ => n - (intOf i).toNat)
  case atStart => exact ⟨0, Nat.zero_le _, rfl, T1.out⟩
  case round =>
    obtain ⟨j, hj, rfl, hT⟩ := hrel
    have HT := Lib.hid hT
    clear hT
    by_cases hlt : j < n
    · obtain ⟨⟨og, oi, oa, of⟩, hx⟩ : ∃ x, l[j]? = some x := ⟨_, List.getElem?_eq_getElem (by rw [HL.out]; exact hlt)⟩
      obtain ⟨b, o, rfl, hbl, hc⟩ := (HI.out.kept HT.out.kept).at_ hx
      have z0 := hc 0 _ rfl
      have z1 := hc 1 _ rfl
      have z2 := hc 2 _ rfl
      have z3 := hc 3 _ rfl
      simp only [Nat.add_zero] at z0 z1 z2 z3
      obtain ⟨g1, g2, g3⟩ := HGd.out _ (List.mem_of_getElem? hx)
      simp only at g1 g2 g3
      have HS := Lib.hid (runL_take ⟨#[]⟩ hx)
      have HLn : Hid ((runL ⟨#[]⟩ (l.take j)).length ≤ 1000) := Lib.hid (by have := runL_len ⟨#[]⟩ (l.take j); rw [List.length_take] at this; omega)
      have HWf := Lib.hid (runL_wf ⟨#[]⟩ (l.take j))
      generalize runL ⟨#[]⟩ (l.take j) = L at *
      have kA := (Kept.refl Nil wr).alloc (.cells #[.bool og, .int .i64 oi, .string oa, .int .i64 of] 29)
      have BA := Blk.new wr 29 #[.bool og, .int .i64 oi, .string oa, .int .i64 of]
      have y0 := BA.cell 0
      have y1 := BA.cell 1
      have y2 := BA.cell 2
      have y3 := BA.cell 3
      simp at y0 y1 y2 y3
      have CD := Lib.hid (del_step (HT.out.keptN kA) HWf.out HLn.out g1)
      have CA := Lib.hid (add_step (HT.out.keptN kA) HLn.out g1 g2 g3)
      clear hx hc kA BA g1 g2 g3
      cases og
      · go_wp2_with fail
        refine CA.out.mono ?_
        rintro e w2 ⟨r, er, rfl, hT2, _⟩
        have T2 : Hid (TWs w w2 p (runL ⟨#[]⟩ (l.take (j + 1)))) := Lib.hid (by rw [HS.out]; exact hT2)
        clear hT2 CA CD
        go_wp2_with fail
        go_roundw
        case rel => exact ⟨j + 1, by omega, by go_num, T2.out⟩
        case measure => simp [intOf]; omega
      · go_wp2_with fail
        refine CD.out.mono ?_
        rintro e w2 ⟨ag, ng, cg, er, rfl, hT2, _⟩
        have T2 : Hid (TWs w w2 p (runL ⟨#[]⟩ (l.take (j + 1)))) := Lib.hid (by rw [HS.out]; exact hT2)
        clear hT2 CA CD
        go_wp2_with fail
        go_roundw
        case rel => exact ⟨j + 1, by omega, by go_num, T2.out⟩
        case measure => simp [intOf]; omega
    · obtain rfl : j = n := by omega
      have HWf := Lib.hid (runL_wf ⟨#[]⟩ (l.take j))
      have HLn : Hid ((runL ⟨#[]⟩ (l.take j)).length ≤ 1000) := Lib.hid (by have := runL_len ⟨#[]⟩ (l.take j); rw [List.length_take] at this; omega)
      generalize runL ⟨#[]⟩ (l.take j) = L at *
      go_wp2_with fail
      go_loopw [6] (fun i wr => ∃ q : Nat, 2 ≤ q ∧ q ≤ 62 ∧ i = .int .i64 q ∧ TWs w wr p L) (fun i _ => 62 - (intOf i).toNat)
      case atStart => exact ⟨2, Nat.le_refl _, by decide, rfl, HT.out⟩
      case round =>
        obtain ⟨q, hq2, hq62, rfl, hT⟩ := hrel
        clear HT
        have HT := Lib.hid hT
        clear hT
        by_cases hq : q ≤ 61
        rotate_left
        · have hb1 : decide ((q : Int) ≤ 61) = false := decide_eq_false (by omega)
          have hb2 : decide (q ≤ 61) = false := decide_eq_false (by omega)
          go_wp2_with fail
          refine (awake_any _).mono ?_
          rintro e w2 ⟨rfl, k2⟩
          go_wp2_with fail
          go_ret
          exact ⟨rfl, HT.out.kept.trans k2 (fun _ _ e => e)⟩
        have hb1 : decide ((q : Int) ≤ 61) = true := decide_eq_true (by omega)
        have hb2 : decide (q ≤ 61) = true := decide_eq_true (by omega)
        have hwq : (Lit.int .i64 (q : Int)).wf = true := WalkArith.wf_i64 (by omega)
        obtain ⟨c', t', lo', k'⟩ := HT.out
        have CP := Lib.hid (place_s t' hwq)
        clear t' lo' k'
        cases ht : tok L (q : Int) with
        | none =>
          rw [ht] at CP
          clear ht
          go_wp2_with fail
          refine CP.out.mono ?_
          rintro e w2 ⟨rfl, k2⟩
          have T2 := Lib.hid (HT.out.keptN k2)
          clear k2 CP HT
          go_wp2_with fail
          go_roundw
          case rel => exact ⟨q + 1, by omega, by omega, by go_num, T2.out⟩
          case measure => simp [intOf]; omega
        | some z =>
          rw [ht] at CP
          have hbd := HWf.out _ z ht
          have HP := Lib.hid (parI_some ht)
          have HF := Lib.hid (factI_some ht)
          have HFs := Lib.hid (factsI_some HWf.out ht)
          obtain ⟨pa, k, f, xo⟩ := z
          simp only at HP HF HFs hbd
          have hwp : (Lit.int .i64 pa).wf = true := by have := tok_bound ht; have := HLn.out; exact WalkArith.wf_i64 (by omega)
          have HZ := Lib.hid ht
          clear ht hbd
          go_wp2_with fail
          refine CP.out.mono ?_
          rintro e w2 ⟨rfl, k2⟩
          have T2 := Lib.hid (HT.out.keptN k2)
          obtain ⟨c', t', lo', k'⟩ := T2.out
          have CPa := Lib.hid (parent_s t' hwq)
          have CFs := Lib.hid (facts_s t' HWf.out HLn.out hwp)
          rw [HP.out] at CPa
          have HW2 : Hid (w.heap.size ≤ w2.heap.size) := Lib.hid k'.size
          clear k2 CP HT t' lo' k'
          go_wp2_with fail
          refine CPa.out.mono ?_
          rintro e w3 ⟨rfl, rfl⟩
          have HFl := Lib.hid (factsI_length HWf.out pa)
          have HFl2 := Lib.hid (factsI_length HWf.out (q : Int))
          obtain ⟨m, hm⟩ : ∃ m, (factsI L pa).length = m := ⟨_, rfl⟩
          rw [hm] at CFs HFl
          have HM := Lib.hid hm
          clear hm
          go_wp2_with fail
          refine CFs.out.mono ?_
          rintro e w4 ⟨aw, cw, rfl, r4, k4⟩
          have R4 := Lib.hid r4
          have T4 := Lib.hid (T2.out.keptN k4)
          have HC : Hid (∃ c', Tre KS 78 w4 c' p L ∧ (∀ b, c' b ≠ 0 → w.heap.size ≤ b) ∧ Kept Nil w w4 ∧ w.heap.size ≤ w3.heap.size ∧ w3.heap.size ≤ w4.heap.size ∧ ∀ b, w3.heap.size ≤ b → c' b = 0) := Lib.hid (by
            obtain ⟨c', t', lo', k'⟩ := T2.out
            refine ⟨c', t'.keptN k4, lo', k'.trans k4 (fun _ _ e => e), k'.size, k4.size, fun b hb => ?_⟩
            rcases Nat.eq_zero_or_pos (c' b) with e | e
            · exact e
            · have := t'.low (b := b) (by omega); omega)
          obtain ⟨c', t', lo', k'⟩ := T4.out
          have CF := Lib.hid (fact_s t' hwq)
          rw [HF.out] at CF
          have HKF := Lib.hid ((okToks.at_ t'.1 HZ.out).2.2)
          clear r4 k4 CPa CFs T2 t' lo' k'
          go_wp2_with fail
          refine CF.out.mono ?_
          rintro e w5 ⟨rfl, rfl⟩
          by_cases hf : f = 0
          · have hfb : (f != 0) = false := by simpa using hf
            have HE : Hid (factsI L (q : Int) = factsI L pa) := Lib.hid (by rw [HFs.out, if_neg (by simpa using hf)])
            have hwq2 := hwq
            obtain ⟨c', t', lo', k'⟩ := T4.out
            have CG := Lib.hid (facts_s t' HWf.out HLn.out hwq)
            rw [HE.out, HM.out] at CG
            have HKF2 := HKF
            clear t' lo' k' hf
            go_wp2_with fail
            refine CG.out.mono ?_
            rintro e w6 ⟨ag, cg, rfl, r6, k6⟩
            have T6 := Lib.hid (T4.out.keptN k6)
            have CI := Lib.hid (ints_any (c := cg) (c' := cw) (r6.toIn cN_len (by decide)) ((R4.out.keptN k6).toIn cN_len (by decide)) (by have := HFl.out; have := HLn.out; omega) (by have := HFl.out; have := HLn.out; omega))
            rw [decide_eq_true rfl] at CI
            clear r6 k6 CG CF T4
            go_wp2_with fail
            refine CI.out.mono ?_
            rintro e w7 ⟨rfl, k7⟩
            have T7 := Lib.hid (T6.out.keptN k7)
            clear k7 CI T6 R4
            go_wp2_with fail
            go_roundw
            case rel => exact ⟨q + 1, by omega, by omega, by go_num, T7.out⟩
            case measure => simp [intOf]; omega
          · have hfb : (f != 0) = true := bne_iff_ne.2 hf
            have HE : Hid (factsI L (q : Int) = factsI L pa ++ [f]) := Lib.hid (by rw [HFs.out, if_pos hf])
            have HMem : Hid ((q : Int) ∈ withL L f) := Lib.hid (by
              unfold withL
              exact mem_ids.2 ⟨_, HZ.out, by simp [hf]⟩)
            obtain ⟨a5, c5, W5, r5, o5, k5, own5⟩ := R4.out.push2 elsI1 cN_len cN_one 38 (by obtain ⟨_, _, _, _, _, h5, _⟩ := HC.out; exact h5) (by rw [HM.out]; have := HFl.out; have := HLn.out; omega) f #[.int .i64 f] rfl
            have R5 := Lib.hid r5
            have O5 := Lib.hid o5
            have K5 : Hid (TWs w W5 p L) := Lib.hid (by
              obtain ⟨c', t', lo', k', h4, h5, hz⟩ := HC.out
              exact ⟨c', t'.kept k5 (fun b hb e => hb (hz b (R4.out.lt b e).1)), lo', k'.trans k5 (fun b hb e => by have := (R4.out.lt b e).1; omega)⟩)
            clear r5 o5 k5 own5 hf
            go_wp2_with (at_builtin; refine wpList_append_run rfl (.tmp 70) (.tmp 72) 38 rfl _ _ rfl rfl R5.out ?_)
            obtain ⟨c', t', lo', k'⟩ := K5.out
            have CWi := Lib.hid (with_s t' (by have := HLn.out; omega) (k := f) HKF.out)
            have HWl := Lib.hid (ids_length L (fun x => decide (x.fact = f ∧ f ≠ 0)))
            have HWb : Hid (∀ y ∈ withL L f, (Lit.int .i64 y).wf = true) := Lib.hid fun y hy => by
              have := ids_bound hy
              have := HLn.out
              exact WalkArith.wf_i64 (by omega)
            change Hid ((withL L f).length ≤ L.length) at HWl
            generalize withL L f = wl at *
            obtain ⟨nw, hnw⟩ : ∃ nw, wl.length = nw := ⟨_, rfl⟩
            rw [hnw] at CWi HWl
            have HNW := Lib.hid hnw
            have hnw1 : nw ≤ 1000 := by have := HWl.out; have := HLn.out; omega
            clear t' lo' k' hnw CF HC T4 R4 R5
            refine CWi.out.mono ?_
            rintro e w6 ⟨ax, cx, rfl, r6, k6⟩
            have R6 := Lib.hid (r6.toIn cN_len (by decide))
            have T6 := Lib.hid (K5.out.keptN k6)
            have O6 := Lib.hid ((O5.out.keptN k6).toIn cN_len (by decide))
            clear r6 k6 CWi O5 K5
            go_wp2_with fail
            go_loopw [11, 78] (fun hv i wr => ∃ r : Nat, r ≤ nw ∧ i = .int .i64 r ∧ hv = .bool ((wl.take r).contains (q : Int)) ∧ wr = w6) (fun _ i _ => nw - (intOf i).toNat)
            case atStart => exact ⟨0, by omega, rfl, rfl, rfl⟩
            case round =>
              obtain ⟨r, hr, rfl, rfl, rfl⟩ := hrel
              by_cases hrl : r < nw
              · obtain ⟨y, hy⟩ : ∃ y, wl[r]? = some y := ⟨_, List.getElem?_eq_getElem (by rw [HNW.out]; exact hrl)⟩
                obtain ⟨by_, oy, rfl, hby, hcy⟩ := R6.out.at_ hy
                have d0 := hcy 0 _ rfl
                simp only [Nat.add_zero, Nat.mul_one] at d0
                have HTk : Hid ((wl.take (r + 1)).contains (q : Int) = ((wl.take r).contains (q : Int) || (y == (q : Int)))) := Lib.hid (contains_take hy)
                generalize (wl.take r).contains (q : Int) = pp at *
                clear hy hcy
                cases pp
                · go_wp2_with fail
                  go_roundw
                  case rel => exact ⟨r + 1, by omega, by go_num, by rw [HTk.out, Bool.false_or], trivial⟩
                  case measure => simp [intOf]; omega
                · go_wp2_with fail
                  go_roundw
                  case rel => exact ⟨r + 1, by omega, by go_num, by rw [HTk.out, Bool.true_or], trivial⟩
                  case measure => simp [intOf]; omega
              · obtain rfl : r = nw := by omega
                have hct : (wl.take r).contains (q : Int) = true := by
                  rw [List.take_of_length_le (by rw [HNW.out]; exact Nat.le_refl _), List.contains_iff_mem]
                  exact HMem.out
                rw [hct]
                obtain ⟨c', t', lo', k'⟩ := T6.out
                have CG := Lib.hid (facts_s t' HWf.out HLn.out hwq)
                have hlq : (factsI L (q : Int)).length = m + 1 := by rw [HE.out, List.length_append, HM.out]; rfl
                rw [hlq, HE.out] at CG
                clear t' lo' k' hct hlq
                go_wp2_with fail
                refine CG.out.mono ?_
                rintro e w8 ⟨ag, cg, rfl, r8, k8⟩
                have T8 := Lib.hid (T6.out.keptN k8)
                have CI := Lib.hid (ints_any (c := cg) (c' := c5) (r8.toIn cN_len (by decide)) (O6.out.kept k8) (by have := HFl.out; have := HLn.out; omega) (by have := HFl.out; have := HLn.out; omega))
                rw [decide_eq_true rfl] at CI
                clear r8 k8 CG T6 O6
                go_wp2_with fail
                refine CI.out.mono ?_
                rintro e w9 ⟨rfl, k9⟩
                have T9 := Lib.hid (T8.out.keptN k9)
                clear k9 CI T8
                go_wp2_with fail
                go_roundw
                case rel => exact ⟨q + 1, by omega, by omega, by go_num, T9.out⟩
                case measure => simp [intOf]; omega
end Go.Proofs.Ytbaplplaokbnnaa
