/- TreePlays: the walk over the law's own code. -/
import Derived.Test.YtbaplplaokbnnaaMPair
namespace Go.Proofs.Ytbaplplaokbnnaa
open Go.RowKit Go.Maps Go.WideMaps
set_option maxRecDepth 100000

set_option maxHeartbeats 16000000 in
theorem treePlays_any (top : ByteArray) (a : Option Addr) (n cap : Nat) (l : List Opn) (w : World) (htop : top.size ≤ maxLen) (h : In cO 4 w a n l) (hg : ∀ x ∈ l, x.good) (hm : n ≤ maxLen) :
    Calls Try.prog 3 #[.string top, .slice a n cap] w fun e w' => e = .returned (.bool true) ∧ Kept Nil w w' := by
  have HI := Lib.hid h
  have HGd := Lib.hid hg
  have HL := Lib.hid h.1
  have hm1 := hm
  unfold maxLen at hm1
  have CN := Lib.hid (new_s w (k := top) htop)
  clear h hg hm htop
  go_enter Try.func3, Try.ntmps3
  go_wp2_with fail
  refine CN.out.mono ?_
  rintro e w1 ⟨p, c, rfl, t, lo, k⟩
  have T1 := Lib.hid (show ∃ c, Tre KS 78 w1 c p (runL top []) ∧ (∀ b, c b ≠ 0 → w.heap.size ≤ b) ∧ Kept Nil w w1 from ⟨c, t, lo, k⟩)
  have K1 := Lib.hid k
  clear t lo k CN
  by_cases hn : 60 < n
  · have hb : decide ((60 : Int) < (n : Int)) = true := decide_eq_true (by omega)
    go_wp2_with fail
    refine (awake_any w1).mono ?_
    rintro e w2 ⟨rfl, k2⟩
    go_wp2_with fail
    go_ret
    exact ⟨rfl, K1.out.trans k2 (fun _ _ e => e)⟩
  have hb : decide ((60 : Int) < (n : Int)) = false := decide_eq_false (by omega)
  have hn60 : n ≤ 60 := by omega
  go_wp2_with fail
  refine (refNew_any w1 top).mono ?_
  rintro e w2 ⟨q, ar, cr, rfl, hR, k2⟩
  have P2 : Hid (PS w w2 p q (runL top []) (runL top [])) := Lib.hid (by
    obtain ⟨c, t, lo, k⟩ := T1.out
    refine ⟨c, ar, cr, t.keptN k2, ⟨hR.here, Nat.le_trans k.size hR.low, hR.row.down k.size⟩, lo, fun b hb => ?_, k.trans k2 (fun _ _ e => e)⟩
    have := (hR.foot hb).1
    rcases Nat.eq_zero_or_pos (c b) with e | e
    · exact e
    · have := t.low (b := b) (by omega); omega)
  clear hR k2 T1 K1
  go_wp2_with fail
  go_loopw [35] (fun i wr => ∃ j : Nat, j ≤ n ∧ i = .int .i64 j ∧ PS w wr p q (runL top (l.take j)) (runL top (l.take j))) (fun i _ => n - (intOf i).toNat)
  case atStart => exact ⟨0, Nat.zero_le _, rfl, P2.out⟩
  case round =>
    obtain ⟨j, hj, rfl, hT⟩ := hrel
    clear P2
    have HT := Lib.hid hT
    clear hT
    by_cases hlt : j < n
    · obtain ⟨⟨og, oi, oa, of⟩, hx⟩ : ∃ x, l[j]? = some x := ⟨_, List.getElem?_eq_getElem (by rw [HL.out]; exact hlt)⟩
      obtain ⟨b, o, rfl, hbl, hc⟩ := (HI.out.kept HT.out.kept).at_ hx
      have z0 := hc 0 _ rfl
      have z1 := hc 1 _ rfl
      have z2 := hc 2 _ rfl
      have z3 := hc 3 _ rfl
      simp only [Nat.add_zero] at z0 z1 z2 z3
      obtain ⟨g1, g2, g3⟩ := HGd.out _ (List.mem_of_getElem? hx)
      simp only at g1 g2 g3
      have HS := Lib.hid (runL_take top hx)
      have hl61 : (runL top (l.take j)).length ≤ 61 := by have := runL_len top (l.take j); rw [List.length_take] at this; omega
      have HWf := Lib.hid (runL_wf top (l.take j))
      have HG := Lib.hid (And.intro g1 (And.intro g2 g3))
      generalize runL top (l.take j) = L at *
      obtain ⟨c, a2, cap2, t, r, lo, ap, k⟩ := HT.out
      have hne : Hid (c wr.heap.size = 0 ∧ ¬ RF q a2 L.length cap2 wr.heap.size) := Lib.hid ⟨by
        rcases Nat.eq_zero_or_pos (c wr.heap.size) with e | e
        · exact e
        · have := t.low (b := wr.heap.size) (by omega); omega, fun e => by have := (r.foot e).2; omega⟩
      have kA := (Kept.refl Nil wr).alloc (.cells #[.bool og, .int .i64 oi, .string oa, .int .i64 of] 29)
      have HTr := Lib.hid (t.keptN kA)
      have HR := Lib.hid (r.keptN kA)
      have HO := Lib.hid (And.intro lo (And.intro ap (k.trans kA (fun _ _ e => e))))
      clear t r lo ap k kA
      have BA := Lib.hid (Blk.new wr 29 #[.bool og, .int .i64 oi, .string oa, .int .i64 of])
      obtain ⟨m, hm⟩ : ∃ m, L.length = m := ⟨_, rfl⟩
      have HM := Lib.hid hm
      rw [hm] at hl61
      clear hx hc g1 g2 g3 hm HT
      go_upto_region 8 with fail
      clear z0 z1 z2 z3
      have HBlt : Hid (wr.heap.size < (wr.alloc (.cells #[.bool og, .int .i64 oi, .string oa, .int .i64 of] 29)).heap.size) := Lib.hid (by simp)
      generalize wr.alloc (.cells #[.bool og, .int .i64 oi, .string oa, .int .i64 of] 29) = W0 at *
      generalize wr.heap.size = g at *
      have y0 := BA.out.cell 0
      have y1 := BA.out.cell 1
      have y2 := BA.out.cell 2
      have y3 := BA.out.cell 3
      simp at y0 y1 y2 y3
      rw [HM.out] at hne
      have PSt : Hid (∀ W, TreG KS 78 W0 W c p (stepL L ⟨og, oi, oa, of⟩) → PS w W p q (stepL L ⟨og, oi, oa, of⟩) L) := Lib.hid fun W h => PS.prog HR.out HO.out.1 HO.out.2.1 HO.out.2.2 h
      cases og
      · -- a token more
        cases ht : tok L oi with
        | none =>
          have CA := Lib.hid (add_no_s HTr.out HG.out.1 ht oa of)
          have CR := fun W (k : Kept Nil W0 W) => Lib.hid (refAdd_any (HR.out.keptN k) (Nat.le_trans HO.out.2.2.size k.size) (by rw [HM.out]; omega) oi oa of)
          simp only [ht, if_pos] at CR
          have hs : stepL L ⟨false, oi, oa, of⟩ = L := by
            show addL L oi oa of = L
            unfold addL; rw [if_pos ht]
          have hs2 : addL L oi oa of = L := hs
          rw [hs] at HS
          simp only [hs2] at CR
          clear ht hs hs2 PSt
          go_wp2_with fail
          refine CA.out.mono ?_
          rintro e w3 ⟨rfl, k3⟩
          have CR3 := CR w3 k3
          have BA3 := Lib.hid (BA.out.kept k3 (fun e => e))
          have K3 := Lib.hid k3
          have x1 := BA3.out.cell 1
          have x2 := BA3.out.cell 2
          have x3 := BA3.out.cell 3
          simp at x1 x2 x3
          clear k3 CA CR y0 y1 y2 y3
          go_wp2_with fail
          refine CR3.out.mono ?_
          rintro e w4 ⟨rfl, hG⟩
          have P4 : Hid (PS w w4 p q (runL top (l.take (j + 1))) (runL top (l.take (j + 1)))) := Lib.hid (by
            rw [HS.out]
            exact PS.ref (HTr.out.keptN K3.out) (HR.out.keptN K3.out) HO.out.1 HO.out.2.1 (HO.out.2.2.trans K3.out (fun _ _ e => e)) hG)
          clear hG CR3
          go_wp2_with fail
          go_roundw
          case rel => exact ⟨j + 1, by omega, by go_num, P4.out⟩
          case measure => simp [intOf]; omega
        | some z =>
          have hyes : tok L oi ≠ none := by rw [ht]; simp
          have CA := Lib.hid (add_yes_s HTr.out (by rw [HM.out]; omega) HG.out.1 hyes HG.out.2.1 HG.out.2.2)
          have hs : stepL L ⟨false, oi, oa, of⟩ = L ++ [⟨oi, oa, of, false⟩] := by
            show addL L oi oa of = _
            unfold addL; rw [if_neg hyes]
          have hs2 : addL L oi oa of = L ++ [⟨oi, oa, of, false⟩] := hs
          rw [hs] at HS PSt
          rw [HM.out] at CA
          obtain ⟨m1, hm1'⟩ : ∃ m1 : Int, (m : Int) + 1 = m1 := ⟨_, rfl⟩
          have CR : Hid (∀ W a' cap' , RTx W w.heap.size q a' cap' L → w.heap.size ≤ W.heap.size → Calls Try.prog 11 #[.pointer (some ⟨q, 0, none⟩), .int .i64 oi, .string oa, .int .i64 of] W fun e w' => e = .returned (.int .i64 m1) ∧ RG W w' w.heap.size q a' L.length cap' (L ++ [⟨oi, oa, of, false⟩])) := Lib.hid fun W a' cap' hr hz => by
            have := refAdd_any hr hz (by rw [HM.out]; omega) oi oa of
            rw [if_neg hyes, hs2, HM.out, hm1'] at this
            rw [HM.out]; exact this
          rw [hm1'] at CA
          have g1 : decide ((0 : Int) < m1) = true := decide_eq_true (by omega)
          have g2 : (m1 == 0) = false := by simp; omega
          clear ht hs hs2 hyes hm1'
          go_wp2_with fail
          refine CA.out.mono ?_
          rintro e w3 ⟨rfl, hG⟩
          have BA3 := Lib.hid (BA.out.kept (F := fun b => c b ≠ 0) (by obtain ⟨_, _, _, k3⟩ := hG; exact k3) (fun e => e hne.out.1))
          have P3 := Lib.hid (PSt.out w3 hG)
          have x1 := BA3.out.cell 1
          have x2 := BA3.out.cell 2
          have x3 := BA3.out.cell 3
          simp at x1 x2 x3
          obtain ⟨c3, a3, cap3, t3, r3, lo3, ap3, k3⟩ := P3.out
          have CR3 := Lib.hid (CR.out w3 a3 cap3 r3 k3.size)
          have H3 := Lib.hid (And.intro t3 (And.intro r3 (And.intro lo3 (And.intro ap3 k3))))
          clear hG CA CR y0 y1 y2 y3 t3 r3 lo3 ap3 k3
          go_wp2_with fail
          refine CR3.out.mono ?_
          rintro e w4 ⟨rfl, hG⟩
          have P4 : Hid (PS w w4 p q (runL top (l.take (j + 1))) (runL top (l.take (j + 1)))) := Lib.hid (by
            rw [HS.out]
            exact PS.ref H3.out.1 H3.out.2.1 H3.out.2.2.1 H3.out.2.2.2.1 H3.out.2.2.2.2 hG)
          clear hG CR3
          go_wp2_with fail
          go_roundw
          case rel => exact ⟨j + 1, by omega, by go_num, P4.out⟩
          case measure => simp [intOf]; omega
      · -- tokens out
        by_cases h1 : oi = 1
        · subst h1
          have hs : stepL L ⟨true, 1, oa, of⟩ = L := by
            show delL L 1 = L
            unfold delL; rw [if_pos (.inl rfl)]
          rw [hs] at HS
          have P0 : Hid (PS w W0 p q (runL top (l.take (j + 1))) (runL top (l.take (j + 1)))) := Lib.hid (by rw [HS.out]; exact ⟨c, a2, cap2, HTr.out, HR.out, HO.out.1, HO.out.2.1, HO.out.2.2⟩)
          clear hs PSt
          go_wp2_with fail
          refine (delete_top_s W0 p).mono ?_
          rintro e w3 ⟨rfl, rfl⟩
          go_wp2_with fail
          go_roundw
          case rel => exact ⟨j + 1, by omega, by go_num, P0.out⟩
          case measure => simp [intOf]; omega
        have h1b : (oi == 1) = false := by simpa using h1
        have h1n : (oi != 1) = true := bne_iff_ne.2 h1
        cases ht : tok L oi with
        | none =>
          have hs : stepL L ⟨true, oi, oa, of⟩ = L := by
            show delL L oi = L
            unfold delL; rw [if_pos (.inr ht)]
          rw [hs] at HS
          have CD := Lib.hid (delete_no_s HTr.out HG.out.1 h1 ht)
          have CT := fun W (k : Kept Nil W0 W) => Lib.hid (refThere_any (HR.out.keptN k) (by rw [HM.out]; omega) oi)
          simp only [ht] at CT
          clear ht hs PSt h1
          go_wp2_with fail
          refine CD.out.mono ?_
          rintro e w3 ⟨rfl, k3⟩
          have CT3 := CT w3 k3
          have P3 : Hid (PS w w3 p q (runL top (l.take (j + 1))) (runL top (l.take (j + 1)))) := Lib.hid (by
            rw [HS.out]
            exact PS.keptN ⟨c, a2, cap2, HTr.out, HR.out, HO.out.1, HO.out.2.1, HO.out.2.2⟩ k3)
          have BA3 := Lib.hid (BA.out.kept k3 (fun e => e))
          have x1 := BA3.out.cell 1
          simp at x1
          clear k3 CD CT y0 y1 y2 y3
          go_wp2_with fail
          refine CT3.out.mono ?_
          rintro e w4 ⟨rfl, rfl⟩
          clear CT3
          go_wp2_with fail
          go_roundw
          case rel => exact ⟨j + 1, by omega, by go_num, P3.out⟩
          case measure => simp [intOf]; omega
        | some z =>
          have hyes : tok L oi ≠ none := by rw [ht]; simp
          have hs : stepL L ⟨true, oi, oa, of⟩ = kills L (below L oi) := by
            show delL L oi = _
            unfold delL; rw [if_neg (by simp [h1, hyes])]
          rw [hs] at HS PSt
          have CD := Lib.hid (delete_yes_s HTr.out HWf.out (by rw [HM.out]; omega) h1 hyes)
          have CB : Hid (∀ W a' cap', RTx W w.heap.size q a' cap' L → Calls Try.prog 14 #[.pointer (some ⟨q, 0, none⟩), .int .i64 oi] W fun e w' => ∃ a' n' c', e = .returned (.slice a' n' c') ∧ Row cN 3 1 w' W.heap.size (.slice a' n' c') (below L oi) ∧ Kept Nil W w') := Lib.hid fun W a' cap' hr => refBelow_any HWf.out (by rw [HM.out]; omega) oi hyes W hr
          have CT : Hid (∀ W a' cap', RTx W w.heap.size q a' cap' L → Calls Try.prog 13 #[.pointer (some ⟨q, 0, none⟩), .int .i64 oi] W fun e w' => e = .returned (.bool true) ∧ w' = W) := Lib.hid fun W a' cap' hr => by
            have := refThere_any hr (by rw [HM.out]; omega) oi
            rw [ht] at this; exact this
          have HBt : Hid (∀ x ∈ below L oi, tok L x ≠ none) := Lib.hid (fun x hx => below_there HWf.out hyes hx)
          have HBl := Lib.hid (below_length HWf.out hyes)
          obtain ⟨bl, hbl⟩ : ∃ bl, below L oi = bl := ⟨_, rfl⟩
          rw [hbl] at CD CB HS PSt HBt HBl
          obtain ⟨nb, hnb⟩ : ∃ nb, bl.length = nb := ⟨_, rfl⟩
          have HNB := Lib.hid hnb
          have hnb61 : nb ≤ 61 := by rw [← hnb]; have := HBl.out; rw [HM.out] at this; omega
          clear ht hs hyes h1 hbl hnb
          go_wp2_with fail
          refine CD.out.mono ?_
          rintro e w3 ⟨ag, ng, cg, rfl, hGn, hG⟩
          have hng : ng = nb := by
            have := hGn.1
            unfold goneL_s at this
            rw [List.length_map, HNB.out] at this
            exact this.symm
          subst hng
          have BA3 := Lib.hid (BA.out.kept (F := fun b => c b ≠ 0) (by obtain ⟨_, _, _, k3⟩ := hG; exact k3) (fun e => e hne.out.1))
          have P3 := Lib.hid (PSt.out w3 hG)
          have x1 := BA3.out.cell 1
          simp at x1
          obtain ⟨c3, a3, cap3, t3, r3, lo3, ap3, k3⟩ := P3.out
          have CT3 := Lib.hid (CT.out w3 a3 cap3 r3)
          have CB3 := Lib.hid (CB.out w3 a3 cap3 r3)
          have H3 := Lib.hid (And.intro t3 (And.intro r3 (And.intro lo3 (And.intro ap3 k3))))
          have GN3 := Lib.hid hGn
          clear hG CD CT CB y0 y1 y2 y3 t3 r3 lo3 ap3 k3 hGn
          go_wp2_with fail
          refine CT3.out.mono ?_
          rintro e w4 ⟨rfl, rfl⟩
          clear CT3
          go_wp2_with fail
          refine CB3.out.mono ?_
          rintro e w5 ⟨aw, nw, cw, rfl, rW, k5⟩
          have hnw : nw = ng := by have := rW.caps.1; rw [HNB.out] at this; exact this
          subst hnw
          have RW := Lib.hid rW
          have K5 := Lib.hid k5
          clear rW k5 CB3
          go_wp2_with fail
          have HBd := Lib.hid (show ∀ x ∈ bl, 1 ≤ x ∧ x ≤ (L.length : Int) from fun x hx => by
            have := HBt.out x hx
            cases e : tok L x with
            | none => exact absurd e this
            | some z => exact tok_bound e)
          go_loopw [132] (fun i wr => ∃ r : Nat, r ≤ nw ∧ i = .int .i64 r ∧ Kept Nil w5 wr) (fun i _ => nw - (intOf i).toNat)
          case atStart => exact ⟨0, Nat.zero_le _, rfl, Kept.refl _ _⟩
          case round =>
            obtain ⟨r, hr, rfl, hK⟩ := hrel
            have HK := Lib.hid hK
            clear hK
            have K4r := Lib.hid (K5.out.trans HK.out (fun _ _ e => e))
            by_cases hlt : r < nw
            · obtain ⟨x, hx⟩ : ∃ x, bl[r]? = some x := ⟨_, List.getElem?_eq_getElem (by rw [HNB.out]; exact hlt)⟩
              obtain ⟨bw, ow, hbw, _, hcw⟩ := ((RW.out.toIn cN_len (by decide)).kept HK.out).at_ hx
              have v0 := hcw 0 _ rfl
              subst hbw
              have hgx : (goneL_s L bl)[r]? = some (x, locI_s L x, factI L x) := by unfold goneL_s; rw [List.getElem?_map, hx]; rfl
              obtain ⟨bg, og, hbg, _, hcg⟩ := (GN3.out.kept K4r.out).at_ hgx
              have g0 := hcg 0 _ rfl
              have g1 := hcg 1 _ rfl
              have g2 := hcg 2 _ rfl
              subst hbg
              have HXb := HBd.out x (List.mem_of_getElem? hx)
              have HXt := HBt.out x (List.mem_of_getElem? hx)
              cases ht : tok L x with
              | none => exact absurd ht HXt
              | some z =>
                obtain ⟨_, hz, hzo⟩ := tok_some.1 ht
                have hloc : locI_s L x = z.loc := by unfold locI_s; rw [ht]; rfl
                have hfact : factI L x = z.fact := factI_some ht
                obtain ⟨zp, zl, zf, zo⟩ := z
                simp only at hloc hfact
                rw [hloc] at g1
                rw [hfact] at g2
                obtain ⟨jx, hjx⟩ : ∃ jx, (x - 1).toNat = jx := ⟨_, rfl⟩
                rw [hjx] at hz
                have c5 := (H3.out.2.1.keptN K4r.out).cell
                rw [HM.out] at c5 HXb
                obtain ⟨bq, oq, hbq, z0, z1, z2, z3⟩ := (H3.out.2.1.keptN K4r.out).at_ hz
                subst hbq
                simp only [Nat.add_zero, Nat.mul_one] at v0 g0 g1 g2 z0 z1 z2 z3
                have s1 : IntKind.i64.wrap (x - 1) = (jx : Int) := by rw [IntKind.wrap_i64]; omega
                have q1 : (0 : Int) ≤ (jx : Int) := by omega
                have q2 : (jx : Int) < (m : Int) := by omega
                have heq := fun W => eqG_self x zl zf W
                clear hx hcw hgx hcg HXb HXt ht hz hzo hloc hfact hjx z0 z3
                go_wp2_with fail
                go_quiet (fail)
                go_wp2_with fail
                go_roundw
                case rel => exact ⟨r + 1, by omega, by go_num, HK.out.drewN _⟩
                case measure => simp [intOf]; omega
            · obtain rfl : r = nw := by omega
              have CDl := Lib.hid (refDelete_any (cl := cw) (H3.out.2.1.keptN K4r.out) (by rw [HM.out]; omega) ((RW.out.toIn cN_len (by decide)).kept HK.out) HBd.out (fun b hb hf => by
                have h1 := (RW.out.lt b hb).1
                have h2 := (H3.out.2.1.foot hf).2
                omega) (by omega))
              go_wp2_with fail
              refine CDl.out.mono ?_
              rintro e w6 ⟨rfl, hR, hKK⟩
              have P6 : Hid (PS w w6 p q (runL top (l.take (j + 1))) (runL top (l.take (j + 1)))) := Lib.hid (by
                rw [HS.out]
                exact PS.ref (H3.out.1.keptN K4r.out) (H3.out.2.1.keptN K4r.out) H3.out.2.2.1 H3.out.2.2.2.1 (H3.out.2.2.2.2.trans K4r.out (fun _ _ e => e)) ⟨_, _, hR, fun b e => .inl (by rw [kills_length] at e; exact e), hKK⟩)
              clear hR hKK CDl
              go_wp2_with fail
              go_roundw
              case rel => exact ⟨j + 1, by omega, by go_num, P6.out⟩
              case measure => simp [intOf]; omega
    · obtain rfl : j = n := by omega
      have HTk : Hid (l.take j = l) := Lib.hid (List.take_of_length_le (by rw [HL.out]; exact Nat.le_refl _))
      rw [HTk.out] at HT
      obtain ⟨c, a2, cap2, t, r, lo, ap, k⟩ := HT.out
      have CS := Lib.hid (same_any t r (runL_wf top l) (runL_lp top l) (by have := runL_len top l; have := HL.out; omega))
      clear t r lo ap k
      go_wp2_with fail
      refine CS.out.mono ?_
      rintro e w3 ⟨rfl, k3⟩
      have K3 := Lib.hid (HT.out.kept.trans k3 (fun _ _ e => e))
      clear k3 CS
      go_wp2_with fail
      refine (awake_any _).mono ?_
      rintro e w4 ⟨rfl, k4⟩
      go_wp2_with fail
      go_ret
      exact ⟨rfl, K3.out.trans k4 (fun _ _ e => e)⟩
end Go.Proofs.Ytbaplplaokbnnaa
