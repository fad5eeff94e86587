/- TreeBelow: the walk over the law's own code. -/
import Derived.Test.YtbaplplaokbnnaaMMark
namespace Go.Proofs.Ytbaplplaokbnnaa
open Go.RowKit Go.Maps Go.WideMaps
set_option maxRecDepth 100000

set_option maxHeartbeats 8000000 in
theorem treeBelow_any (a : Option Addr) (n cap : Nat) (l : List Opn) (x0 : Int) (w : World) (h : In cO 4 w a n l) (hg : ∀ x ∈ l, x.good) (hm : n ≤ maxLen) :
    Calls Try.prog 5 #[.slice a n cap, .int .i64 x0] w fun e w' => e = .returned (.bool true) ∧ Kept Nil w w' := by
  have HI := Lib.hid h
  have HGd := Lib.hid hg
  have HL := Lib.hid h.1
  have hm1 := hm
  unfold maxLen at hm1
  clear h hg hm
  go_enter Try.func5, Try.ntmps5
  go_wp2_with fail
  refine (new_s w (k := ⟨#[]⟩) emptyS_ok).mono ?_
  rintro e w1 ⟨p, c, rfl, t, lo, k⟩
  have T1 := Lib.hid (show TWs w w1 p (runL ⟨#[]⟩ []) from ⟨c, t, lo, k⟩)
  clear t lo k
  by_cases hn : 60 < n
  · have hb : decide ((60 : Int) < (n : Int)) = true := decide_eq_true (by omega)
    go_wp2_with fail
    refine (awake_any w1).mono ?_
    rintro e w2 ⟨rfl, k2⟩
    go_wp2_with fail
    go_ret
    exact ⟨rfl, T1.out.kept.trans k2 (fun _ _ e => e)⟩
  have hb : decide ((60 : Int) < (n : Int)) = false := decide_eq_false (by omega)
  have hn60 : n ≤ 60 := by omega
  go_wp2_with fail
  go_loopw [6, 39] (fun lv i wr => ∃ j : Nat, j ≤ n ∧ i = .int .i64 j ∧ lv = .int .i64 (runL ⟨#[]⟩ (l.take j)).length ∧ TWs w wr p (runL ⟨#[]⟩ (l.take j))) (fun _ i _ => n - (intOf i).toNat)
  case atStart => exact ⟨0, Nat.zero_le _, rfl, rfl, T1.out⟩
  case round =>
    obtain ⟨j, hj, rfl, rfl, hT⟩ := hrel
    have HT := Lib.hid hT
    clear hT
    by_cases hlt : j < n
    · obtain ⟨⟨og, oi, oa, of⟩, hx⟩ : ∃ x, l[j]? = some x := ⟨_, List.getElem?_eq_getElem (by rw [HL.out]; exact hlt)⟩
      obtain ⟨b, o, rfl, hbl, hc⟩ := (HI.out.kept HT.out.kept).at_ hx
      have z0 := hc 0 _ rfl
      have z1 := hc 1 _ rfl
      have z2 := hc 2 _ rfl
      have z3 := hc 3 _ rfl
      simp only [Nat.add_zero] at z0 z1 z2 z3
      obtain ⟨g1, g2, g3⟩ := HGd.out _ (List.mem_of_getElem? hx)
      simp only at g1 g2 g3
      have HS := Lib.hid (runL_take ⟨#[]⟩ hx)
      have HLn : Hid ((runL ⟨#[]⟩ (l.take j)).length ≤ 1000) := Lib.hid (by have := runL_len ⟨#[]⟩ (l.take j); rw [List.length_take] at this; omega)
      have HWf := Lib.hid (runL_wf ⟨#[]⟩ (l.take j))
      generalize runL ⟨#[]⟩ (l.take j) = L at *
      have kA := (Kept.refl Nil wr).alloc (.cells #[.bool og, .int .i64 oi, .string oa, .int .i64 of] 29)
      have BA := Blk.new wr 29 #[.bool og, .int .i64 oi, .string oa, .int .i64 of]
      have y0 := BA.cell 0
      have y1 := BA.cell 1
      have y2 := BA.cell 2
      have y3 := BA.cell 3
      simp at y0 y1 y2 y3
      have CD := Lib.hid (del_step (HT.out.keptN kA) HWf.out HLn.out g1)
      have CA := Lib.hid (add_step (HT.out.keptN kA) HLn.out g1 g2 g3)
      obtain ⟨m, hm⟩ : ∃ m, L.length = m := ⟨_, rfl⟩
      rw [hm] at CA ⊢
      have HM := Lib.hid hm
      have hm3 : m ≤ 1000 := by rw [← hm]; exact HLn.out
      clear hx hc kA BA g1 g2 g3 hm
      cases og
      · go_wp2_with fail
        refine CA.out.mono ?_
        rintro e w2 ⟨r, er, rfl, hT2, hr⟩
        have T2 : Hid (TWs w w2 p (runL ⟨#[]⟩ (l.take (j + 1)))) := Lib.hid (by rw [HS.out]; exact hT2)
        have HS2 : Hid (runL ⟨#[]⟩ (l.take (j + 1)) = addL L oi oa of) := Lib.hid HS.out
        clear hT2 CA CD
        rcases hr with ⟨h0, rfl, rfl⟩ | ⟨h0, rfl, rfl⟩
        · have HLl : Hid ((runL ⟨#[]⟩ (l.take (j + 1))).length = m) := Lib.hid (by rw [HS2.out]; unfold addL; rw [if_pos h0]; exact HM.out)
          clear h0
          go_wp2_with fail
          go_roundw
          case rel => exact ⟨j + 1, by omega, by go_num, by rw [HLl.out], T2.out⟩
          case measure => simp [intOf]; omega
        · have HLl : Hid ((runL ⟨#[]⟩ (l.take (j + 1))).length = m + 1) := Lib.hid (by rw [HS2.out]; unfold addL; rw [if_neg h0, List.length_append, HM.out]; rfl)
          obtain ⟨m1, hm1'⟩ : ∃ m1 : Int, (m : Int) + 1 = m1 := ⟨_, rfl⟩
          have s1 : IntKind.i64.wrap ((m : Int) + 1) = m1 := by rw [IntKind.wrap_i64]; omega
          rw [hm1']
          have HM1 := Lib.hid hm1'
          clear h0 hm1'
          go_wp2_with fail
          go_roundw
          case rel => exact ⟨j + 1, by omega, by go_num, by rw [HLl.out, ← HM1.out]; rfl, T2.out⟩
          case measure => simp [intOf]; omega
      · have HLl : Hid ((runL ⟨#[]⟩ (l.take (j + 1))).length = m) := Lib.hid (by rw [HS.out]; show (delL L oi).length = m; rw [delL_len]; exact HM.out)
        go_wp2_with fail
        refine CD.out.mono ?_
        rintro e w2 ⟨ag, ng, cg, er, rfl, hT2, _⟩
        have T2 : Hid (TWs w w2 p (runL ⟨#[]⟩ (l.take (j + 1)))) := Lib.hid (by rw [HS.out]; exact hT2)
        clear hT2 CA CD
        go_wp2_with fail
        go_roundw
        case rel => exact ⟨j + 1, by omega, by go_num, by rw [HLl.out], T2.out⟩
        case measure => simp [intOf]; omega
    · obtain rfl : j = n := by omega
      have HWf := Lib.hid (runL_wf ⟨#[]⟩ (l.take j))
      have HLn : Hid ((runL ⟨#[]⟩ (l.take j)).length ≤ 61) := Lib.hid (by have := runL_len ⟨#[]⟩ (l.take j); rw [List.length_take] at this; omega)
      have HL1 : Hid (1 ≤ (runL ⟨#[]⟩ (l.take j)).length) := Lib.hid (runL_pos _ _)
      generalize runL ⟨#[]⟩ (l.take j) = L at *
      obtain ⟨m, hm⟩ : ∃ m, L.length = m := ⟨_, rfl⟩
      rw [hm]
      have HM := Lib.hid hm
      have hm61 : m ≤ 61 := by rw [← hm]; exact HLn.out
      have hm0 : 1 ≤ m := by rw [← hm]; exact HL1.out
      clear hm
      -- the token that is asked for
      obtain ⟨r1, hr1, hr1a, hr1b⟩ : ∃ r1 : Int, x0.tmod 60 = r1 ∧ -59 ≤ r1 ∧ r1 ≤ 59 := by
        have h1 := Int.tmod_lt_of_pos x0 (show (0 : Int) < 60 by decide)
        have h2 := Int.lt_tmod_of_pos x0 (show (0 : Int) < 60 by decide)
        exact ⟨_, rfl, by omega, by omega⟩
      obtain ⟨r2, hr2⟩ : ∃ r2 : Int, r1 + 60 = r2 := ⟨_, rfl⟩
      have s1 : IntKind.i64.wrap (r1 + 60) = r2 := by rw [IntKind.wrap_i64]; omega
      have hr2a : 0 ≤ r2 := by omega
      obtain ⟨r3, hr3, hr3a, hr3b⟩ : ∃ r3 : Int, r2 % 60 = r3 ∧ 0 ≤ r3 ∧ r3 ≤ 59 := ⟨_, rfl, by omega, by omega⟩
      have hr3c : r2.tmod 60 = r3 := by rw [Int.tmod_eq_emod_of_nonneg hr2a]; exact hr3
      obtain ⟨id, hid⟩ : ∃ id : Int, 2 + r3 = id := ⟨_, rfl⟩
      have s2 : IntKind.i64.wrap (2 + r3) = id := by rw [IntKind.wrap_i64]; omega
      have hid2 : 2 ≤ id ∧ id ≤ 61 := by omega
      have HID := Lib.hid hid2
      have hwid : (Lit.int .i64 id).wf = true := WalkArith.wf_i64 (by omega)
      obtain ⟨c', t', lo', k'⟩ := HT.out
      have CP := Lib.hid (place_s t' hwid)
      clear t' lo' k' hr2 hr2a hr3a hr3b hid hid2 hr1a hr1b
      cases ht : tok L id with
      | none =>
        rw [ht] at CP
        clear ht
        go_wp2_with fail
        refine CP.out.mono ?_
        rintro e w2 ⟨rfl, k2⟩
        have T2 := Lib.hid (HT.out.keptN k2)
        clear k2 CP HT
        go_wp2_with fail
        refine (awake_any _).mono ?_
        rintro e w3 ⟨rfl, k3⟩
        go_wp2_with fail
        go_ret
        exact ⟨rfl, T2.out.kept.trans k3 (fun _ _ e => e)⟩
      | some z =>
        rw [ht] at CP
        have HTh : Hid (tok L id ≠ none) := Lib.hid (by rw [ht]; simp)
        clear ht
        go_wp2_with fail
        refine CP.out.mono ?_
        rintro e w2 ⟨rfl, k2⟩
        obtain ⟨c', t', lo', k'⟩ := HT.out
        have hmm := @run_makeMap Try.prog
        have kM : Kept Nil wr (w2.alloc (.map #[] 0)) := k2.alloc _
        have HLo := Lib.hid lo'
        have hcb : Hid (c' w2.heap.size = 0 ∧ w.heap.size ≤ w2.heap.size) := Lib.hid (by
          refine ⟨?_, Nat.le_trans k'.size k2.size⟩
          rcases Nat.eq_zero_or_pos (c' w2.heap.size) with e | e
          · exact e
          · have := t'.low (b := w2.heap.size) (by omega); have := k2.size; omega)
        have HT3 := Lib.hid (t'.keptN kM)
        have HK3 := Lib.hid (k'.trans kM (fun _ _ e => e))
        have HM3 := Lib.hid (MarkM.new w2)
        obtain ⟨bm, hbm⟩ : ∃ bm, w2.heap.size = bm := ⟨_, rfl⟩
        rw [hbm] at hcb HM3
        clear t' lo' k' k2 kM CP HT hr1 s1 hr3 hr3c s2
        go_wp2_with fail
        clear hbm
        generalize w2.alloc (.map #[] 0) = w3 at *
        have HL61 := HLn
        go_loopw [15] (fun kv wr => ∃ q : Nat, q + 1 ≤ m ∧ kv = .int .i64 ((q : Int) + 2) ∧ Tre KS 78 wr c' p L ∧ Kept Nil w wr ∧ MarkM wr bm (marks L id q)) (fun kv _ => 64 - (intOf kv).toNat)
        case atStart => exact ⟨0, by omega, rfl, HT3.out, HK3.out, HM3.out⟩
        case round =>
          obtain ⟨q, hq, rfl, hT, hK, hMk⟩ := hrel
          clear HT3 HK3 HM3
          have HT := Lib.hid hT
          have HK := Lib.hid hK
          have HMk := Lib.hid hMk
          clear hT hK hMk
          obtain ⟨kq, hkq⟩ : ∃ kq : Int, (q : Int) + 2 = kq := ⟨_, rfl⟩
          rw [hkq]
          have HKQ := Lib.hid hkq
          have hkb : 2 ≤ kq ∧ kq ≤ 64 := by omega
          have hwk : (Lit.int .i64 kq).wf = true := WalkArith.wf_i64 (by omega)
          have sk : IntKind.i64.wrap (kq + 1) = kq + 1 := by rw [IntKind.wrap_i64]; omega
          have HQ := Lib.hid hq
          clear hkq hq
          by_cases hle : kq ≤ m
          · have hb1 : decide (kq ≤ (m : Int)) = true := decide_eq_true hle
            have HLe := Lib.hid hle
            clear hle
            go_wp2_with fail
            go_loopw [16] (fun yv wr => ∃ (y : Int) (d : Bool), yv = .int .i64 y ∧ 0 ≤ y ∧ (Lit.int .i64 y).wf = true ∧ (id ∈ line L kq ↔ d = true ∨ id ∈ line L y) ∧ (d = true → id ∉ line L y) ∧ Tre KS 78 wr c' p L ∧ Kept Nil w wr ∧ MarkM wr bm (marks L id q ++ if d = true then [kq] else [])) (fun yv _ => (intOf yv).toNat)
            case atStart => exact ⟨kq, false, rfl, by omega, hwk, by simp, by simp, HT.out, HK.out, by simpa using HMk.out⟩
            case round =>
              obtain ⟨y, d, rfl, hy0, hwy, hiff, hnd, hT, hK, hMk⟩ := hrel
              clear HT HK HMk
              have HT := Lib.hid hT
              have HK := Lib.hid hK
              have HMk := Lib.hid hMk
              have HIf := Lib.hid (And.intro hiff hnd)
              clear hT hK hMk hiff hnd
              by_cases hyp : 0 < y
              · have hb2 : decide ((0 : Int) < y) = true := decide_eq_true hyp
                -- the next one up
                obtain ⟨z2, hz2, hz0, hzl, hwz, hln⟩ : ∃ z2 : Int, parI L y = z2 ∧ 0 ≤ z2 ∧ z2 < y ∧ (Lit.int .i64 z2).wf = true ∧ (y ≠ id → (id ∈ line L y ↔ id ∈ line L z2)) ∧ True := by
                  cases ht : tok L y with
                  | none =>
                    refine ⟨0, parI_none ht, Int.le_refl _, hyp, by decide, fun _ => ?_, trivial⟩
                    rw [line_none ht, line_none (tok_low (by omega))]
                  | some z =>
                    have hbd := HWf.out y z ht
                    have hb3 := tok_bound ht
                    have := HLn.out
                    refine ⟨z.par, parI_some ht, hbd.1, hbd.2, WalkArith.wf_i64 (by omega), fun hne => ?_, trivial⟩
                    rw [line_some HWf.out ht, List.mem_cons]
                    exact ⟨fun e => e.resolve_left (fun e => hne e.symm), .inr⟩
                have HZl := Lib.hid hzl
                have HLn2 := Lib.hid hln
                clear hln
                have CPa := fun W (t : Tre KS 78 W c' p L) => Lib.hid (parent_s t hwy)
                simp only [hz2] at CPa
                have HZ2 := Lib.hid hz2
                clear hz2 hzl
                by_cases hyi : y = id
                · subst hyi
                  have hself : Hid (y ∈ line L y) := Lib.hid ((line_self HWf.out).2 HTh.out)
                  have hd : d = false := by
                    cases d
                    · rfl
                    · exact absurd hself.out (HIf.out.2 rfl)
                  subst hd
                  have hnk : kq ∉ marks L y q := fun e => by have := (mem_marks.1 e).1.2; have := HKQ.out; omega
                  obtain ⟨W4, r4, m4, k4⟩ := (show MarkM wr bm (marks L y q) by simpa using HMk.out).put (by have := marks_le (L := L) (id := y) q; have := HQ.out; omega) hwk hnk
                  have M4 := Lib.hid m4
                  have T4 := Lib.hid (HT.out.kept k4 (fun b hb e => hb (by rw [e]; exact hcb.out.1)))
                  have K4 := Lib.hid (HK.out.trans k4 (fun b hb e => by have := hcb.out.2; omega))
                  have HNo : Hid (y ∉ line L z2) := Lib.hid fun e => by have := (line_le HWf.out z2 y e).1; have := HZl.out; omega
                  have CP4 := CPa W4 T4.out
                  clear m4 k4 hnk CPa HMk HT HK
                  go_wp2_with fail
                  refine CP4.out.mono ?_
                  rintro e w5 ⟨rfl, rfl⟩
                  clear CP4
                  go_wp2_with fail
                  go_roundw
                  case rel => exact ⟨z2, true, rfl, hz0, hwz, ⟨fun _ => .inl rfl, fun _ => HIf.out.1.2 (.inr hself.out)⟩, fun _ => HNo.out, T4.out, K4.out, by simpa using M4.out⟩
                  case measure => have := HZl.out; simp [intOf]; omega
                · have hyb : (y == id) = false := by simpa using hyi
                  have HLq := Lib.hid (HLn2.out.1 hyi)
                  have CP4 := CPa _ HT.out
                  clear CPa HLn2 hyi
                  go_wp2_with fail
                  refine CP4.out.mono ?_
                  rintro e w5 ⟨rfl, rfl⟩
                  clear CP4
                  go_wp2_with fail
                  go_roundw
                  case rel => exact ⟨z2, d, rfl, hz0, hwz, by rw [HIf.out.1, HLq.out], fun e => by rw [← HLq.out]; exact HIf.out.2 e, HT.out, HK.out, HMk.out⟩
                  case measure => have := HZl.out; simp [intOf]; omega
              · have hb2 : decide ((0 : Int) < y) = false := decide_eq_false hyp
                have hmk : Hid (MarkM wr bm (marks L id (q + 1))) := Lib.hid (by
                  have h0 : line L y = [] := line_none (tok_low (by omega))
                  have hi := HIf.out.1
                  rw [h0] at hi
                  rw [marks_succ, HKQ.out]
                  have := HMk.out
                  cases d
                  · rw [if_neg (by rw [hi]; simp)]; simpa using this
                  · rw [if_pos (hi.2 (.inl rfl))]; simpa using this)
                go_wp2_with fail
                go_roundw
                case rel => exact ⟨q + 1, by have := HLe.out; have := HKQ.out; omega, by have := HKQ.out; congr 1; push_cast; omega, HT.out, HK.out, hmk.out⟩
                case measure => have := HLe.out; have := HKQ.out; simp [intOf]; omega
          · have hb1 : decide (kq ≤ (m : Int)) = false := decide_eq_false hle
            have hqm : q = L.length - 1 := by have := HKQ.out; have := HQ.out; rw [HM.out]; omega
            rw [hqm] at HMk
            obtain ⟨hml, hmb⟩ := marks_below HWf.out HTh.out HID.out.1
            have HMb := Lib.hid hmb
            have hnd : Hid ((marks L id (L.length - 1)).Nodup) := Lib.hid (marks_nodup _)
            have CL := Lib.hid (len_s HT.out)
            have CD := Lib.hid (delete_yes_s HT.out HWf.out (by have := HLn.out; omega) (id := id) (by have := HID.out; omega) HTh.out)
            have HLk := Lib.hid (live_kills (below_nodup HWf.out id HTh.out) (fun x hx => below_there HWf.out HTh.out hx))
            have HLv := Lib.hid (liveN_le L)
            have HBt : Hid (∀ x ∈ below L id, tok L x ≠ none) := Lib.hid (fun x hx => below_there HWf.out HTh.out hx)
            obtain ⟨mks, hmks⟩ : ∃ mks, marks L id (L.length - 1) = mks := ⟨_, rfl⟩
            rw [hmks] at HMk HMb hml hnd
            obtain ⟨bl, hbl⟩ : ∃ bl, below L id = bl := ⟨_, rfl⟩
            rw [hbl] at HMb hml CD HLk HBt
            obtain ⟨nb, hnb⟩ : ∃ nb, bl.length = nb := ⟨_, rfl⟩
            rw [hnb] at HLk hml
            have HNB := Lib.hid hnb
            have HML := Lib.hid hml
            obtain ⟨n1, hn1⟩ : ∃ n1, liveN L = n1 := ⟨_, rfl⟩
            rw [hn1] at CL HLk HLv
            obtain ⟨n2, hn2⟩ : ∃ n2, liveN (kills L bl) = n2 := ⟨_, rfl⟩
            rw [hn2] at HLk
            have hsum : n2 + nb = n1 := HLk.out
            have hn1b : n1 ≤ 61 := by have := HLv.out; have := HLn.out; omega
            have HN2 := Lib.hid hn2
            have s3 : IntKind.i64.wrap ((n1 : Int) - (nb : Int)) = (n2 : Int) := by rw [IntKind.wrap_i64]; omega
            clear hqm hml hmb hmks hbl hnb hn1 hn2 hle hwk sk hkb
            go_wp2_with fail
            refine CL.out.mono ?_
            rintro e w4 ⟨rfl, rfl⟩
            go_wp2_with fail
            refine CD.out.mono ?_
            rintro e w5 ⟨ag, ng, cg, rfl, hG, hTG⟩
            have hng : ng = nb := by
              have := hG.1
              unfold goneL_s at this
              rw [List.length_map, HNB.out] at this
              exact this.symm
            subst hng
            obtain ⟨c2, t2, s2', k2⟩ := hTG
            have T5 := Lib.hid t2
            have K5 := Lib.hid (HK.out.trans k2 (fun b hb e => by have := HLo.out b e; omega))
            have M5 := Lib.hid (HMk.out.kept k2 (fun e => e hcb.out.1))
            have G5 := Lib.hid hG
            have hln := M5.out.len hnd.out 3
            rw [HML.out] at hln
            have CL2 := Lib.hid (len_s T5.out)
            rw [HN2.out] at CL2
            clear hG t2 s2' k2 CL CD HT HK HMk
            go_wp2_with fail
            refine CL2.out.mono ?_
            rintro e w6 ⟨rfl, rfl⟩
            clear CL2
            go_wp2_with fail
            go_loopw [127] (fun i wr => ∃ j : Nat, j ≤ ng ∧ i = .int .i64 j ∧ Kept Nil w6 wr) (fun i _ => ng - (intOf i).toNat)
            case atStart => exact ⟨0, Nat.zero_le _, rfl, Kept.refl _ _⟩
            case round =>
              obtain ⟨i, hi, rfl, hK⟩ := hrel
              have HK := Lib.hid hK
              clear hK
              by_cases hlt : i < ng
              · obtain ⟨x, hx⟩ : ∃ x, bl[i]? = some x := ⟨_, List.getElem?_eq_getElem (by rw [HNB.out]; exact hlt)⟩
                have hxm : x ∈ bl := List.mem_of_getElem? hx
                obtain ⟨bg, og, rfl, hbg, hc⟩ := (G5.out.kept HK.out).at_ (j := i) (x := (x, locI_s L x, factI L x)) (by unfold goneL_s; rw [List.getElem?_map, hx]; rfl)
                have z0 := hc 0 _ rfl
                have z1 := hc 1 _ rfl
                have z2 := hc 2 _ rfl
                simp only [Nat.add_zero] at z0 z1 z2
                have kA := (Kept.refl Nil wr).alloc (.cells #[.int .i64 x, .string (locI_s L x), .int .i64 (factI L x)] 41)
                have BA := Blk.new wr 41 #[.int .i64 x, .string (locI_s L x), .int .i64 (factI L x)]
                have y0 := BA.cell 0
                simp at y0
                have KA := Lib.hid (HK.out.trans kA (fun _ _ e => e))
                have hlk := (M5.out.kept KA.out (fun e => e)).look hnd.out (HMb.out x hxm)
                have hwx : (Lit.int .i64 x).wf = true := by
                  cases e : tok L x with
                  | none => exact absurd e (HBt.out x hxm)
                  | some z => have := tok_bound e; have := HLn.out; exact WalkArith.wf_i64 (by omega)
                have CPl := Lib.hid (place_s (T5.out.keptN KA.out) hwx)
                rw [tok_kills_in hxm] at CPl
                generalize locI_s L x = lx at *
                generalize factI L x = fx at *
                generalize locI_s (kills L bl) x = lx2 at *
                clear hx hxm hc kA BA hwx
                go_wp2_with fail
                refine CPl.out.mono ?_
                rintro e w7 ⟨rfl, k7⟩
                have K7 := Lib.hid (KA.out.trans k7 (fun _ _ e => e))
                clear k7 CPl
                go_wp2_with fail
                go_roundw
                case rel => exact ⟨i + 1, by omega, by go_num, K7.out⟩
                case measure => simp [intOf]; omega
              · obtain rfl : i = ng := by omega
                go_wp2_with fail
                refine (awake_any _).mono ?_
                rintro e w8 ⟨rfl, k8⟩
                go_wp2_with fail
                go_ret
                exact ⟨rfl, (K5.out.trans HK.out (fun _ _ e => e)).trans k8 (fun _ _ e => e)⟩
end Go.Proofs.Ytbaplplaokbnnaa
