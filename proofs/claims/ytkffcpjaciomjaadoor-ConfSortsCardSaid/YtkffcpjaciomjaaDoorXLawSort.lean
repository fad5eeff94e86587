/- Any matches are sorted, and of two lists it is told what is gone and what came: ConfSorts returns true, and writes nothing that was there. No condition but Go's own variables. -/
import Derived.Test.YtkffcpjaciomjaaDoorXLawCopy
namespace Go.Proofs.YtkffcpjaciomjaaDoor
open Go.RowKit Go.Shelf Go.Sort
set_option maxRecDepth 100000

set_option maxHeartbeats 4000000 in
theorem rWithout_any {w : World} {a b : Option Addr} {n m c d : Nat} {l k : List MC} (hl : Ms w a n l) (hk : Ms w b m k) (hn : n ≤ 2000) (hm : m ≤ 5000) :
    Calls Tryd.prog 16 #[.slice a n c, .slice b m d] w fun e w' => ∃ a' n' c' l', e = .returned (.slice a' n' c') ∧ Ms w' a' n' l' ∧ l'.map MC.val = withoutM (l.map MC.val) (k.map MC.val) ∧ Kept Nil w w' := by
  have CS := Lib.hid (rSort_any (c := c) hl hn)
  have HB := Lib.hid hk
  have HNB : Hid ((sortM (l.map MC.val)).length ≤ 2000) := Lib.hid (by have := sortM_len (l.map MC.val); rw [List.length_map, hl.row.1] at this; omega)
  clear hl hk
  go_enter Tryd.func16, Tryd.ntmps16
  go_wp2_with fail
  refine CS.out.mono ?_
  rintro e w1 ⟨av, ns, cs, ls, rfl, hs, hv, k1⟩
  have HS := Lib.hid hs
  have HV := Lib.hid hv
  have K1 := Lib.hid k1
  have HL := Lib.hid hs.row.1
  have hns : ns ≤ 2000 := by rw [← hs.row.1, ← List.length_map (f := MC.val), hv]; exact HNB.out
  clear hs hv k1 CS
  go_wp2_with fail
  go_loopw [5, 7, 11] (fun r _ i wr => ∃ (j : Nat) (a2 : Option Addr) (n2 c2 : Nat), j ≤ ns ∧ i = .int .i64 j ∧ r = .slice a2 n2 c2 ∧ n2 ≤ j ∧ Hid (Row cM 39 2 wr w1.heap.size (.slice a2 n2 c2) ((ls.take j).filter fun m => decide (m.val ∉ k.map MC.val))) ∧ Hid (Kept Nil w1 wr)) (fun _ _ i _ => ns - (intOf i).toNat)
  case atStart => exact ⟨0, none, 0, 0, Nat.zero_le _, rfl, rfl, Nat.le_refl _, Row.nil _ _, Kept.refl _ _⟩
  case round =>
    obtain ⟨j, a2, n2, c2, hj, rfl, rfl, hn2, HR, HK⟩ := hrel
    by_cases hlt : j < ns
    · obtain ⟨x, hx⟩ : ∃ x, ls[j]? = some x := ⟨_, List.getElem?_eq_getElem (by have := HL.out; omega)⟩
      obtain ⟨b0, o0, rfl, hb0, hc0⟩ := (HS.out.row.kept HK.out).at_ hx
      have q0 := hc0 0 _ rfl
      have q1 := hc0 1 _ rfl
      rw [Nat.add_zero] at q0
      have htk := take_succ' hx
      have KA := Lib.hid ((Kept.refl Nil wr).alloc (.cells #[.string x.r, .slice x.a x.n x.c] 39))
      have KWA := Lib.hid (HK.out.trans KA.out (fun _ _ e => e))
      have CM : Hid (Calls Tryd.prog 29 #[.slice b m d, .agg #[.string x.r, .slice x.a x.n x.c]] (wr.alloc (.cells #[.string x.r, .slice x.a x.n x.c] 39)) fun e w' => e = .returned (.bool (decide (x.val ∈ k.map MC.val))) ∧ Kept Nil (wr.alloc (.cells #[.string x.r, .slice x.a x.n x.c] 39)) w') := Lib.hid (has_any (HB.out.kept (K1.out.trans KWA.out (fun _ _ e => e))) hm ((HS.out.ok x (List.mem_of_getElem? hx)).kept KWA.out))
      have HT : Hid ((ls.take (j + 1)).filter (fun m => decide (m.val ∉ k.map MC.val)) = (ls.take j).filter (fun m => decide (m.val ∉ k.map MC.val)) ++ if decide (x.val ∈ k.map MC.val) then [] else [x]) := Lib.hid (by
        rw [htk, List.filter_append]
        by_cases hpm : x.val ∈ k.map MC.val
        · rw [decide_eq_true hpm, if_pos rfl, List.filter_cons_of_neg (by simpa using hpm)]; rfl
        · rw [decide_eq_false hpm, if_neg (by simp), List.filter_cons_of_pos (by simpa using hpm)]; rfl)
      have hbx := Blk.new wr 39 #[.string x.r, .slice x.a x.n x.c]
      have HBX : Hid (∀ W, Kept Nil (wr.alloc (.cells #[.string x.r, .slice x.a x.n x.c] 39)) W → W.cell? ⟨wr.heap.size, 0, none⟩ = some (.string x.r) ∧ W.cell? ⟨wr.heap.size, 1, none⟩ = some (.slice x.a x.n x.c)) := Lib.hid fun W kW => ⟨(hbx.kept kW (fun e => e)).cell 0, (hbx.kept kW (fun e => e)).cell 1⟩
      generalize decide (x.val ∈ k.map MC.val) = pb at CM HT
      clear hc0 hx htk hbx
      go_wp2_with fail
      refine CM.out.mono ?_
      rintro e w2 ⟨rfl, k2⟩
      obtain ⟨y0, y1⟩ := HBX.out _ k2
      have HK1 := Lib.hid (KWA.out.trans k2 (fun _ _ e => e))
      have KW1 := Lib.hid (KA.out.trans k2 (fun _ _ e => e))
      clear k2 q0 q1
      cases pb with
      | true =>
        have HR2 : Hid (Row cM 39 2 w2 w1.heap.size (.slice a2 n2 c2) ((ls.take (j + 1)).filter fun m => decide (m.val ∉ k.map MC.val))) := Lib.hid (by rw [HT.out, if_pos rfl, List.append_nil]; exact HR.out.keptN KW1.out)
        go_wp2_with fail
        go_roundw
        case rel => exact ⟨j + 1, a2, n2, c2, hlt, by go_num, rfl, by omega, HR2, HK1⟩
        case measure => simp [intOf]; omega
      | false =>
        have hnl : n2 = ((ls.take j).filter fun m => decide (m.val ∉ k.map MC.val)).length := by
          obtain ⟨_, _, e⟩ := HR.out.shape
          exact (Value.slice.inj e).2.1
        obtain ⟨a3, c3, w3, r3, hr3, hk3, hk4⟩ := Row.push elsR cM_len cM_one 25 HK1.out (HR.out.keptN KW1.out) hnl (by omega) x #[.string x.r, .slice x.a x.n x.c] rfl
        have R3 := Lib.hid r3
        have HR3 : Hid (Row cM 39 2 w3 w1.heap.size (.slice a3 (n2 + 1) c3) ((ls.take (j + 1)).filter fun m => decide (m.val ∉ k.map MC.val))) := Lib.hid (by rw [HT.out, if_neg (by simp)]; exact hr3)
        have HK3 := Lib.hid hk3
        clear r3 hr3 hk3 hk4 hnl
        go_wp2_with (at_builtin; refine wpList_append_run rfl (.tmp 19) (.tmp 21) 25 rfl _ _ rfl rfl R3.out ?_)
        go_roundw
        case rel => exact ⟨j + 1, a3, n2 + 1, c3, hlt, by go_num, rfl, by omega, HR3, HK3⟩
        case measure => simp [intOf]; omega
    · have e : j = ns := by omega
      subst e
      have HR2 : Hid (Row cM 39 2 wr w1.heap.size (.slice a2 n2 c2) (ls.filter fun m => decide (m.val ∉ k.map MC.val))) := Lib.hid (by have := HR.out; rwa [List.take_of_length_le (by have := HL.out; omega)] at this)
      go_wp2_with fail
      go_ret
      refine ⟨a2, n2, c2, _, rfl, ⟨HR2.out.toIn cM_len (by decide), fun z hz => (HS.out.ok z (List.mem_filter.1 hz).1).kept HK.out⟩, ?_, K1.out.trans HK.out (fun _ _ e => e)⟩
      rw [filter_vals ls (fun v => decide (v ∉ k.map MC.val)), HV.out]
      rfl

set_option maxHeartbeats 8000000 in
theorem lawSort_any {w : World} {a b : Option Addr} {n m c d : Nat} {l k : List MC} (h : LIn w a n l) (g : LIn w b m k) (E : TabW w) :
    Calls Tryd.prog 3 #[.slice a n c, .slice b m d] w fun e w' => e = .returned (.bool true) ∧ Kept Nil w w' := by
  have HE := Lib.hid E
  have HH := Lib.hid h
  have HG := Lib.hid g
  have CA : Hid (∀ W, Kept Nil w W → Calls Tryd.prog 10 #[] W fun e w' => e = .returned (.bool true) ∧ Kept Nil W w') := Lib.hid fun W k => awake_any W (HE.out.kept k)
  have CS := Lib.hid (smallIn_any (c := c) h)
  have CT : Hid (∀ W, Kept Nil w W → Calls Tryd.prog 9 #[.slice b m d] W fun e w' => e = .returned (.bool (smL k)) ∧ Kept Nil W w') := Lib.hid fun W kW => smallIn_any (HG.out.kept kW)
  cases hsm : smL l with
  | false =>
    rw [hsm] at CS
    clear h g E hsm
    go_enter Tryd.func3, Tryd.ntmps3
    go_wp2_with fail
    refine CS.out.mono ?_
    rintro e w1 ⟨rfl, k1⟩
    go_wp2_with fail
    refine (CA.out _ k1).mono ?_
    rintro e w2 ⟨rfl, k2⟩
    go_wp2_with fail
    go_ret
    exact ⟨rfl, k1.trans k2 (fun _ _ e => e)⟩
  | true =>
  rw [hsm] at CS
  cases hsk : smL k with
  | false =>
    rw [hsk] at CT
    clear h g E hsm hsk
    go_enter Tryd.func3, Tryd.ntmps3
    go_wp2_with fail
    refine CS.out.mono ?_
    rintro e w1 ⟨rfl, k1⟩
    go_wp2_with fail
    refine (CT.out _ k1).mono ?_
    rintro e w2 ⟨rfl, k2⟩
    have K2 := Lib.hid (k1.trans k2 (fun _ _ e => e))
    go_wp2_with fail
    refine (CA.out _ K2.out).mono ?_
    rintro e w3 ⟨rfl, k3⟩
    go_wp2_with fail
    go_ret
    exact ⟨rfl, K2.out.trans k3 (fun _ _ e => e)⟩
  | true =>
    rw [hsk] at CT
    have hn := h.le hsm
    have hm := g.le hsk
    have HA := Lib.hid (h.ms hsm)
    have HB := Lib.hid (g.ms hsk)
    obtain ⟨vx, hvx⟩ : ∃ v, l.map MC.val = v := ⟨_, rfl⟩
    obtain ⟨vy, hvy⟩ : ∃ v, k.map MC.val = v := ⟨_, rfl⟩
    have HVX := Lib.hid hvx
    have HVY := Lib.hid hvy
    have HLX : Hid (vx.length = n) := Lib.hid (by rw [← hvx, List.length_map]; exact HA.out.row.1)
    have HLY : Hid (vy.length = m) := Lib.hid (by rw [← hvy, List.length_map]; exact HB.out.row.1)
    have CRA : Hid (∀ W, Kept Nil w W → Calls Tryd.prog 11 #[.slice a n c] W fun e w' => ∃ a' c' l', e = .returned (.slice a' n c') ∧ Ms w' a' n l' ∧ l'.map MC.val = vx ∧ Kept Nil W w') := Lib.hid fun W k => by rw [← hvx]; exact refL_any (HA.out.kept k) (by omega)
    have CRB : Hid (∀ W, Kept Nil w W → Calls Tryd.prog 11 #[.slice b m d] W fun e w' => ∃ a' c' l', e = .returned (.slice a' m c') ∧ Ms w' a' m l' ∧ l'.map MC.val = vy ∧ Kept Nil W w') := Lib.hid fun W k => by rw [← hvy]; exact refL_any (HB.out.kept k) (by omega)
    have CPS : Hid (∀ W, Kept Nil w W → Calls Tryd.prog 12 #[.slice a n c] W (CopyEnd (sortM vx) W)) := Lib.hid fun W k => by rw [← hvx]; exact sortP_any (HA.out.kept k) (by omega)
    have CDF : Hid (∀ W, Kept Nil w W → Calls Tryd.prog 13 #[.slice a n c, .slice b m d] W (DiffEnd (withoutM vx vy) (withoutM vy vx) W)) := Lib.hid fun W k => by rw [← hvx, ← hvy]; exact diff_any (HA.out.kept k) (HB.out.kept k) (by omega) (by omega)
    have CSAB : Hid (∀ W, Kept Nil w W → Calls Tryd.prog 17 #[.slice a n c, .slice b m d] W fun e w' => e = .returned (.bool (decide (vx = vy))) ∧ Kept Nil W w') := Lib.hid fun W k => by rw [← hvx, ← hvy]; exact same_any (HA.out.kept k) (HB.out.kept k) (by omega)
    have HSL : Hid ((sortM vx).length ≤ 40) := Lib.hid (by have := sortM_len vx; rw [HLX.out] at this; omega)
    have HW1 : Hid ((withoutM vx vy).length ≤ 40) := Lib.hid (by have := withoutM_len vx vy; rw [HLX.out] at this; omega)
    have HW2 : Hid ((withoutM vy vx).length ≤ 40) := Lib.hid (by have := withoutM_len vy vx; rw [HLY.out] at this; omega)
    clear h g E hsm hsk hvx hvy
    go_enter Tryd.func3, Tryd.ntmps3
    go_wp2_with fail
    refine CS.out.mono ?_
    rintro e w1 ⟨rfl, k1⟩
    have K1 := Lib.hid k1
    clear k1
    go_wp2_with fail
    refine (CT.out _ K1.out).mono ?_
    rintro e w2 ⟨rfl, k2⟩
    have K2 := Lib.hid (K1.out.trans k2 (fun _ _ e => e))
    clear k2
    go_wp2_with fail
    refine (CRA.out _ K2.out).mono ?_
    rintro e w3 ⟨ax, cx, lx, rfl, hmx, hex, k3⟩
    have K3 := Lib.hid (K2.out.trans k3 (fun _ _ e => e))
    have HX := Lib.hid hmx
    have HEX := Lib.hid hex
    clear k3 hmx hex
    go_wp2_with fail
    refine (CRB.out _ K3.out).mono ?_
    rintro e w4 ⟨ay, cy, ly, rfl, hmy, hey, k4⟩
    have K4 := Lib.hid (K3.out.trans k4 (fun _ _ e => e))
    have HX4 := Lib.hid (HX.out.kept k4)
    have HY4 := Lib.hid hmy
    have HEY := Lib.hid hey
    clear k4 hmy hey HX
    go_wp2_with fail
    refine (CPS.out _ K4.out).mono ?_
    rintro e w5 ⟨ac, nc, cc, lc, rfl, hnc, hrc, hvc, hoc, k5⟩
    have HNC : Hid (nc ≤ 40) := Lib.hid (by rw [hnc]; exact HSL.out)
    have HRC := Lib.hid hrc
    have HOC := Lib.hid hoc
    have HVC := Lib.hid hvc
    have HMC := Lib.hid (show Ms w5 ac nc lc from ⟨hrc.toIn cM_len (by decide), fun m hm => (hoc m hm).1⟩)
    have S5 := Lib.hid k5
    have K5 := Lib.hid (K4.out.trans k5 (fun _ _ e => e))
    clear hnc hrc hvc hoc k5
    go_wp2_with fail
    refine (CDF.out _ K5.out).mono ?_
    rintro e w6 ⟨ag, ng, cg, lg, ae, ne, ce, le, rfl, hng, hne, hrg, hvg, hog, hre, hve, hoe, k6⟩
    have HNG : Hid (ng ≤ 40) := Lib.hid (by rw [hng]; exact HW1.out)
    have HNE : Hid (ne ≤ 40) := Lib.hid (by rw [hne]; exact HW2.out)
    have HMG := Lib.hid (show Ms w6 ag ng lg from ⟨hrg.toIn cM_len (by decide), fun m hm => (hog m hm).1⟩)
    have HME := Lib.hid (show Ms w6 ae ne le from ⟨hre.toIn cM_len (by decide), fun m hm => (hoe m hm).1⟩)
    have HVG := Lib.hid hvg
    have HVE := Lib.hid hve
    have S6 := Lib.hid (S5.out.trans k6 (fun _ _ e => e))
    have K6 := Lib.hid (K5.out.trans k6 (fun _ _ e => e))
    have HMC6 := Lib.hid (HMC.out.kept k6)
    have T6 := Lib.hid k6
    have C7 := Lib.hid (rSort_any (c := cx) (HX4.out.kept S6.out) (by omega))
    clear hng hne hrg hvg hog hre hve hoe k6
    go_wp2_with fail
    refine C7.out.mono ?_
    rintro e w7 ⟨at7, n7, c7, l7, rfl, hm7, hv7, k7⟩
    rw [HEX.out] at hv7
    have C8 := Lib.hid (lawSame_any (c := cc) (d := c7) (HMC6.out.kept k7) hm7 (by have := HNC.out; omega))
    rw [HVC.out, hv7, decide_eq_true rfl] at C8
    have S7 := Lib.hid (S6.out.trans k7 (fun _ _ e => e))
    have D7 := Lib.hid k7
    clear hm7 hv7 k7 C7
    go_wp2_with fail
    refine C8.out.mono ?_
    rintro e w8 ⟨rfl, k8⟩
    have S8 := Lib.hid (S7.out.trans k8 (fun _ _ e => e))
    have D8 := Lib.hid (D7.out.trans k8 (fun _ _ e => e))
    have C9 := Lib.hid (rWithout_any (c := cx) (d := cy) (HX4.out.kept S8.out) (HY4.out.kept S8.out) (by omega) (by omega))
    clear k8 C8
    go_wp2_with fail
    refine C9.out.mono ?_
    rintro e w9 ⟨a9, n9, c9, l9, rfl, hm9, hv9, k9⟩
    rw [HEX.out, HEY.out] at hv9
    have D9 := Lib.hid (D8.out.trans k9 (fun _ _ e => e))
    have C10 := Lib.hid (lawSame_any (c := cg) (d := c9) (HMG.out.kept D9.out) hm9 (by have := HNG.out; omega))
    rw [HVG.out, hv9, decide_eq_true rfl] at C10
    have S9 := Lib.hid (S8.out.trans k9 (fun _ _ e => e))
    clear hm9 hv9 k9 C9
    go_wp2_with fail
    refine C10.out.mono ?_
    rintro e w10 ⟨rfl, k10⟩
    have S10 := Lib.hid (S9.out.trans k10 (fun _ _ e => e))
    have D10 := Lib.hid (D9.out.trans k10 (fun _ _ e => e))
    have C11 := Lib.hid (rWithout_any (c := cy) (d := cx) (HY4.out.kept S10.out) (HX4.out.kept S10.out) (by omega) (by omega))
    clear k10 C10
    go_wp2_with fail
    refine C11.out.mono ?_
    rintro e w11 ⟨a11, n11, c11, l11, rfl, hm11, hv11, k11⟩
    rw [HEX.out, HEY.out] at hv11
    have D11 := Lib.hid (D10.out.trans k11 (fun _ _ e => e))
    have C12 := Lib.hid (lawSame_any (c := ce) (d := c11) (HME.out.kept D11.out) hm11 (by have := HNE.out; omega))
    rw [HVE.out, hv11, decide_eq_true rfl] at C12
    have S11 := Lib.hid (S10.out.trans k11 (fun _ _ e => e))
    clear hm11 hv11 k11 C11
    go_wp2_with fail
    refine C12.out.mono ?_
    rintro e w12 ⟨rfl, k12⟩
    have S12 := Lib.hid (S11.out.trans k12 (fun _ _ e => e))
    have D12 := Lib.hid (D11.out.trans k12 (fun _ _ e => e))
    have K12 := Lib.hid (K4.out.trans S12.out (fun _ _ e => e))
    clear k12 C12
    go_wp2_with fail
    refine (CSAB.out _ K12.out).mono ?_
    rintro e w13 ⟨rfl, k13⟩
    have S13 := Lib.hid (S12.out.trans k13 (fun _ _ e => e))
    have D13 := Lib.hid (D12.out.trans k13 (fun _ _ e => e))
    have C14 := Lib.hid (refSame_any (c := cx) (d := cy) (HX4.out.kept S13.out) (HY4.out.kept S13.out) (by omega))
    rw [HEX.out, HEY.out] at C14
    clear k13
    generalize decide (vx = vy) = sv at C14
    go_wp2_with fail
    refine C14.out.mono ?_
    rintro e w14 ⟨rfl, k14⟩
    have S14 := Lib.hid (S13.out.trans k14 (fun _ _ e => e))
    have hsv : (sv != sv) = false := by cases sv <;> rfl
    have P0 : Hid (Spo w14 w4.heap.size ac nc cc lc lc w14) := Lib.hid (Spo.start HRC.out HOC.out (T6.out.trans (D13.out.trans k14 (fun _ _ e => e)) (fun _ _ e => e)))
    have HCL : Hid (lc.length = nc) := Lib.hid HMC.out.row.1
    have HFEW : Hid (∀ m ∈ lc, m.n ≤ 1000) := Lib.hid fun m hm => (HOC.out m hm).1.few
    have hnc := HNC.out
    clear k14 C14
    go_wp2_with fail
    go_loopw [10, 11, 65, 73, 74] (fun _ _ i _ _ wr => ∃ (j : Nat), j ≤ nc ∧ i = .int .i64 j ∧ Hid (Spo w14 w4.heap.size ac nc cc lc lc wr)) (fun _ _ i _ _ _ => nc - (intOf i).toNat)
    case atStart => exact ⟨0, Nat.zero_le _, rfl, P0⟩
    case round =>
      obtain ⟨j, hj, rfl, HP⟩ := hrel
      by_cases hlt : j < nc
      · obtain ⟨x, hx⟩ : ∃ x, lc[j]? = some x := ⟨_, List.getElem?_eq_getElem (by have := HCL.out; omega)⟩
        have HXM := Lib.hid (List.mem_of_getElem? hx)
        have HX2 := Lib.hid hx
        obtain ⟨g, eg, _⟩ : ∃ g, ac = some ⟨g, 0, none⟩ ∧ True := by
          rcases HP.out.row.addr with ⟨_, e2⟩ | ⟨g, e, _⟩
          · rw [e2] at hx; cases hx
          · exact ⟨g, e, trivial⟩
        subst eg
        obtain ⟨q0, q1, q2, q3⟩ := HP.out.row.at_ hx
        have hfew := HFEW.out x HXM.out
        obtain ⟨mr, mids, mn, ma, mc⟩ := x
        simp only at q0 q1 hfew
        clear hx
        go_wp2_with fail
        go_loopw [11, 74] (fun _ k wt => ∃ k' : Nat, k' ≤ mn ∧ k = .int .i64 k' ∧ Hid (Spo w14 w4.heap.size (some ⟨g, 0, none⟩) nc cc lc lc wt)) (fun _ k _ => mn - (intOf k).toNat)
        case atStart => exact ⟨0, Nat.zero_le _, rfl, HP⟩
        case round =>
          obtain ⟨k', hk', rfl, HP2⟩ := hrel
          clear q0 q1 q2 q3
          obtain ⟨q0, q1, q2, q3⟩ := HP2.out.row.at_ HX2.out
          simp only at q0 q1
          by_cases hlt2 : k' < mn
          · obtain ⟨b, x, hb, p0, p1, hp⟩ := HP2.out.at_ HXM.out hlt2
            simp only at hb
            subst hb
            have HP3 := Lib.hid hp
            clear hp
            go_wp2_with fail
            go_roundw
            case rel => exact ⟨k' + 1, hlt2, by go_num, HP3⟩
            case measure => simp [intOf]; omega
          · have e : k' = mn := by omega
            subst e
            go_wp2_with fail
            go_roundw
            case rel => exact ⟨j + 1, hlt, by go_num, HP2⟩
            case measure => simp [intOf]; omega
      · have HK := Lib.hid (HP.out.kept)
        have HAR : Hid (Ms wr a n l) := Lib.hid ((HA.out.kept K4.out).low S14.out (Nat.le_refl _) HK.out)
        have HBR : Hid (Ms wr b m k) := Lib.hid ((HB.out.kept K4.out).low S14.out (Nat.le_refl _) HK.out)
        have HXR : Hid (Ms wr ax n lx) := Lib.hid (HX4.out.low S14.out (Nat.le_refl _) HK.out)
        have HYR : Hid (Ms wr ay m ly) := Lib.hid (HY4.out.low S14.out (Nat.le_refl _) HK.out)
        have KR : Hid (Kept Nil w wr) := Lib.hid (K4.out.trans (Kept.low S14.out (Nat.le_refl _) HK.out) (fun _ _ e => e))
        have C15 := Lib.hid (lawSame_any (c := c) (d := cx) HAR.out HXR.out (by omega))
        rw [HVX.out, HEX.out, decide_eq_true rfl] at C15
        go_wp2_with fail
        refine C15.out.mono ?_
        rintro e w15 ⟨rfl, k15⟩
        have C16 := Lib.hid (lawSame_any (c := d) (d := cy) (HBR.out.kept k15) (HYR.out.kept k15) (by omega))
        rw [HVY.out, HEY.out, decide_eq_true rfl] at C16
        have KR15 := Lib.hid (KR.out.trans k15 (fun _ _ e => e))
        clear k15 C15
        go_wp2_with fail
        refine C16.out.mono ?_
        rintro e w16 ⟨rfl, k16⟩
        have KR16 := Lib.hid (KR15.out.trans k16 (fun _ _ e => e))
        clear k16 C16
        go_wp2_with fail
        refine (CA.out _ KR16.out).mono ?_
        rintro e w17 ⟨rfl, k17⟩
        go_wp2_with fail
        go_ret
        exact ⟨rfl, KR16.out.trans k17 (fun _ _ e => e)⟩
end Go.Proofs.YtkffcpjaciomjaaDoor
