/- What is gone taken out of the first list, and what came put in, makes the second one: ConfSets returns true, and writes nothing that was there. No condition but Go's own variables. -/
import Derived.Test.YtkffcpjaciomjaaDoorXLawCmp
namespace Go.Proofs.YtkffcpjaciomjaaDoor
open Go.RowKit Go.Shelf Go.Sort
set_option maxRecDepth 100000

theorem sets_both (x y : List M) : sortM (withoutM x (withoutM x y) ++ withoutM y x) = sortM y := by
  refine srt_eq (sortM_srt _) (sortM_srt _) (fun z => ?_)
  rw [sortM_mem, sortM_mem, List.mem_append, withoutM_mem, withoutM_mem, withoutM_mem]
  constructor
  · rintro (⟨h1, h2⟩ | ⟨h1, _⟩)
    · by_cases hy : z ∈ y
      · exact hy
      · exact absurd ⟨h1, hy⟩ h2
    · exact h1
  · intro hy
    by_cases hx : z ∈ x
    · exact .inl ⟨hx, fun h => h.2 hy⟩
    · exact .inr ⟨hy, hx⟩
theorem sets_apart {x y : List M} {u v : M} (hu : u ∈ withoutM x y) (hv : v ∈ withoutM y x) : u ≠ v := by
  rintro rfl
  exact (withoutM_mem.1 hv).2 (withoutM_mem.1 hu).1
theorem sets_none (x : List M) : withoutM x (sortM x) = [] := by
  rw [List.eq_nil_iff_forall_not_mem]
  intro z hz
  obtain ⟨h1, h2⟩ := withoutM_mem.1 hz
  exact h2 (sortM_mem.2 h1)
theorem sets_none2 (x : List M) : withoutM (sortM x) x = [] := by
  rw [List.eq_nil_iff_forall_not_mem]
  intro z hz
  obtain ⟨h1, h2⟩ := withoutM_mem.1 hz
  exact h2 (sortM_mem.1 h1)
set_option maxHeartbeats 8000000 in
theorem lawSets_any {w : World} {a b : Option Addr} {n m c d : Nat} {l k : List MC} (h : LIn w a n l) (g : LIn w b m k) (E : TabW w) :
    Calls Tryd.prog 8 #[.slice a n c, .slice b m d] w fun e w' => e = .returned (.bool true) ∧ Kept Nil w w' := by
  have HE := Lib.hid E
  have HH := Lib.hid h
  have HG := Lib.hid g
  have CA : Hid (∀ W, Kept Nil w W → Calls Tryd.prog 10 #[] W fun e w' => e = .returned (.bool true) ∧ Kept Nil W w') := Lib.hid fun W k => awake_any W (HE.out.kept k)
  have CS := Lib.hid (smallIn_any (c := c) h)
  have CT : Hid (∀ W, Kept Nil w W → Calls Tryd.prog 9 #[.slice b m d] W fun e w' => e = .returned (.bool (smL k)) ∧ Kept Nil W w') := Lib.hid fun W kW => smallIn_any (HG.out.kept kW)
  cases hsm : smL l with
  | false =>
    rw [hsm] at CS
    clear h g E hsm
    go_enter Tryd.func8, Tryd.ntmps8
    go_wp2_with fail
    refine CS.out.mono ?_
    rintro e w1 ⟨rfl, k1⟩
    go_wp2_with fail
    refine (CA.out _ k1).mono ?_
    rintro e w2 ⟨rfl, k2⟩
    go_wp2_with fail
    go_ret
    exact ⟨rfl, k1.trans k2 (fun _ _ e => e)⟩
  | true =>
  rw [hsm] at CS
  cases hsk : smL k with
  | false =>
    rw [hsk] at CT
    clear h g E hsm hsk
    go_enter Tryd.func8, Tryd.ntmps8
    go_wp2_with fail
    refine CS.out.mono ?_
    rintro e w1 ⟨rfl, k1⟩
    go_wp2_with fail
    refine (CT.out _ k1).mono ?_
    rintro e w2 ⟨rfl, k2⟩
    have K2 := Lib.hid (k1.trans k2 (fun _ _ e => e))
    go_wp2_with fail
    refine (CA.out _ K2.out).mono ?_
    rintro e w3 ⟨rfl, k3⟩
    go_wp2_with fail
    go_ret
    exact ⟨rfl, K2.out.trans k3 (fun _ _ e => e)⟩
  | true =>
    rw [hsk] at CT
    have hn := h.le hsm
    have hm := g.le hsk
    have HA := Lib.hid (h.ms hsm)
    have HB := Lib.hid (g.ms hsk)
    obtain ⟨vx, hvx⟩ : ∃ v, l.map MC.val = v := ⟨_, rfl⟩
    obtain ⟨vy, hvy⟩ : ∃ v, k.map MC.val = v := ⟨_, rfl⟩
    have HLX : Hid (vx.length = n) := Lib.hid (by rw [← hvx, List.length_map]; exact HA.out.row.1)
    have HLY : Hid (vy.length = m) := Lib.hid (by rw [← hvy, List.length_map]; exact HB.out.row.1)
    have CDF : Hid (∀ W, Kept Nil w W → Calls Tryd.prog 13 #[.slice a n c, .slice b m d] W (DiffEnd (withoutM vx vy) (withoutM vy vx) W)) := Lib.hid fun W k => by rw [← hvx, ← hvy]; exact diff_any (HA.out.kept k) (HB.out.kept k) (by omega) (by omega)
    have CDA : Hid (∀ W a2 n2 c2 l2 v2, Kept Nil w W → Ms W a2 n2 l2 → l2.map MC.val = v2 → n2 ≤ 5000 → Calls Tryd.prog 13 #[.slice a n c, .slice a2 n2 c2] W (DiffEnd (withoutM vx v2) (withoutM v2 vx) W)) := Lib.hid fun W a2 n2 c2 l2 v2 k h2 e2 hn2 => by rw [← hvx, ← e2]; exact diff_any (HA.out.kept k) h2 (by omega) hn2
    have CPA : Hid (∀ W, Kept Nil w W → Calls Tryd.prog 12 #[.slice a n c] W (CopyEnd (sortM vx) W)) := Lib.hid fun W k => by rw [← hvx]; exact sortP_any (HA.out.kept k) (by omega)
    have CPB : Hid (∀ W, Kept Nil w W → Calls Tryd.prog 12 #[.slice b m d] W (CopyEnd (sortM vy) W)) := Lib.hid fun W k => by rw [← hvy]; exact sortP_any (HB.out.kept k) (by omega)
    have HW1 : Hid ((withoutM vx vy).length ≤ 40) := Lib.hid (by have := withoutM_len vx vy; rw [HLX.out] at this; omega)
    have HW2 : Hid ((withoutM vy vx).length ≤ 40) := Lib.hid (by have := withoutM_len vy vx; rw [HLY.out] at this; omega)
    have HW3 : Hid ((withoutM vx (withoutM vx vy)).length ≤ 40) := Lib.hid (by have := withoutM_len vx (withoutM vx vy); rw [HLX.out] at this; omega)
    have HSX : Hid ((sortM vx).length ≤ 40) := Lib.hid (by have := sortM_len vx; rw [HLX.out] at this; omega)
    clear h g E hsm hsk hvx hvy
    go_enter Tryd.func8, Tryd.ntmps8
    go_wp2_with fail
    refine CS.out.mono ?_
    rintro e w1 ⟨rfl, k1⟩
    have K1 := Lib.hid k1
    clear k1
    go_wp2_with fail
    refine (CT.out _ K1.out).mono ?_
    rintro e w2 ⟨rfl, k2⟩
    have K2 := Lib.hid (K1.out.trans k2 (fun _ _ e => e))
    clear k2
    go_wp2_with fail
    refine (CDF.out _ K2.out).mono ?_
    rintro e w3 ⟨ag, ng, cg, lg, ae, ne, ce, le, rfl, hng, hne, hrg, hvg, hog, hre, hve, hoe, k3⟩
    have hng40 : ng ≤ 40 := by rw [hng]; exact HW1.out
    have hne40 : ne ≤ 40 := by rw [hne]; exact HW2.out
    have HMG := Lib.hid (show Ms w3 ag ng lg from ⟨hrg.toIn cM_len (by decide), fun m hm => (hog m hm).1⟩)
    have HME := Lib.hid (show Ms w3 ae ne le from ⟨hre.toIn cM_len (by decide), fun m hm => (hoe m hm).1⟩)
    have HVG := Lib.hid hvg
    have HVE := Lib.hid hve
    have K3 := Lib.hid (K2.out.trans k3 (fun _ _ e => e))
    clear hng hne hrg hvg hog hre hve hoe k3
    go_wp2_with fail
    refine (CDA.out _ ag ng cg lg _ K3.out HMG.out HVG.out (by omega)).mono ?_
    rintro e w4 ⟨at4, nt, ct, lt, au, nu, cu, lu, rfl, hnt, _, hrt, hvt, hot, _, _, _, k4⟩
    have hnt40 : nt ≤ 40 := by rw [hnt]; exact HW3.out
    have HMT := Lib.hid (show Ms w4 at4 nt lt from ⟨hrt.toIn cM_len (by decide), fun m hm => (hot m hm).1⟩)
    have HVT := Lib.hid hvt
    have K4 := Lib.hid (K3.out.trans k4 (fun _ _ e => e))
    have D4 := Lib.hid k4
    have C5 := Lib.hid (copy2_any (c := ct) HMT.out (by omega))
    rw [HVT.out] at C5
    clear hnt hrt hvt hot k4
    go_wp2_with fail
    refine C5.out.mono ?_
    rintro e w5 ⟨ac, nc, cc, lc, rfl, hnc, hrc, hvc, hoc, k5⟩
    have hnc40 : nc ≤ 40 := by rw [hnc]; exact HW3.out
    have hlc : nc = lc.length := by rw [hnc, ← hvc, List.length_map]
    have D5 := Lib.hid (D4.out.trans k5 (fun _ _ e => e))
    obtain ⟨a6, c6, w6, r6, hr6, k6, k6'⟩ := Row.pushAll elsM cM_len cM_one (by decide) 22 (a2 := ae) (n2 := ne) (c2 := ce) (l2 := le) k5 hrc hlc (by omega) (HME.out.kept D5.out).row (by rw [HME.out.row.1]; omega)
    have HM6 : Hid (Ms w6 a6 (nc + ne) (lc ++ le)) := Lib.hid ⟨hr6.toIn cM_len (by decide), fun z hz => by
      rcases List.mem_append.1 hz with h | h
      · have h1 := (hoc z h).1
        obtain ⟨_, h3, _⟩ := hoc z h
        refine ⟨h1.ids.keptF (cap := z.c) k6' (fun q hq e => ?_), h1.fits, h1.few, h1.small⟩
        obtain ⟨cur, hb⟩ := h3.block hq
        obtain ⟨cur2, hb2⟩ := hrc.block e
        rw [hb] at hb2
        injection hb2 with e3
        injection e3 with _ e4
        exact absurd e4 (by decide)
      · exact ((HME.out.kept D4.out).kept k6).ok z h⟩
    have HV6 : Hid ((lc ++ le).map MC.val = withoutM vx (withoutM vx vy) ++ withoutM vy vx) := Lib.hid (by rw [List.map_append, hvc, HVE.out])
    have R6 := Lib.hid r6
    have K6 := Lib.hid (K4.out.trans k6 (fun _ _ e => e))
    have D6 := Lib.hid (D4.out.trans k6 (fun _ _ e => e))
    have C7 := Lib.hid (sortP_any (c := c6) HM6.out (by omega))
    rw [HV6.out, sets_both] at C7
    have HSY : Hid ((sortM vy).length ≤ 40) := Lib.hid (by have := sortM_len vy; rw [HLY.out] at this; omega)
    clear hnc hrc hvc hoc hlc k5 r6 hr6 k6 k6' C5
    go_wp2_with (at_builtin; refine wpList_append_run rfl (.tmp 38) (.tmp 39) 22 rfl _ _ rfl rfl R6.out ?_)
    refine C7.out.mono ?_
    rintro e w7 ⟨a7, n7, c7, l7, rfl, hn7, hr7, hv7, ho7, k7⟩
    have HM7 := Lib.hid (show Ms w7 a7 n7 l7 from ⟨hr7.toIn cM_len (by decide), fun m hm => (ho7 m hm).1⟩)
    have HV7 := Lib.hid hv7
    have hn740 : n7 ≤ 40 := by rw [hn7]; exact HSY.out
    have K7 := Lib.hid (K6.out.trans k7 (fun _ _ e => e))
    have D7 := Lib.hid (D6.out.trans k7 (fun _ _ e => e))
    clear hn7 hr7 hv7 ho7 k7 C7
    go_wp2_with fail
    refine (CPB.out _ K7.out).mono ?_
    rintro e w8 ⟨a8, n8, c8, l8, rfl, hn8, hr8, hv8, ho8, k8⟩
    have HM8 := Lib.hid (show Ms w8 a8 n8 l8 from ⟨hr8.toIn cM_len (by decide), fun m hm => (ho8 m hm).1⟩)
    have K8 := Lib.hid (K7.out.trans k8 (fun _ _ e => e))
    have D8 := Lib.hid (D7.out.trans k8 (fun _ _ e => e))
    have C9 := Lib.hid (same_any (c := c7) (d := c8) (HM7.out.kept k8) HM8.out (by omega))
    rw [HV7.out, hv8, decide_eq_true rfl] at C9
    clear hn8 hr8 hv8 ho8 k8
    go_wp2_with fail
    refine C9.out.mono ?_
    rintro e w9 ⟨rfl, k9⟩
    have K9 := Lib.hid (K8.out.trans k9 (fun _ _ e => e))
    have D9 := Lib.hid (D8.out.trans k9 (fun _ _ e => e))
    have HGL := Lib.hid HMG.out.row.1
    have HEL := Lib.hid HME.out.row.1
    have CC : Hid (∀ x ∈ lg, ∀ y ∈ le, ∀ W, Kept Nil w9 W → Calls Tryd.prog 20 #[.agg #[.string x.r, .slice x.a x.n x.c], .agg #[.string y.r, .slice y.a y.n y.c]] W fun e w' => e = .returned (.int .i64 (cmpM x.val y.val)) ∧ (cmpM x.val y.val == 0) = false ∧ Kept Nil W w') := Lib.hid fun x hx y hy W kW => (compare_any (((HMG.out.kept D9.out).kept kW).ok x hx) (((HME.out.kept D9.out).kept kW).ok y hy)).mono fun e w' ⟨he, hgr⟩ => ⟨he, by
      rw [beq_eq_false_iff_ne]
      intro e0
      exact sets_apart (x := vx) (y := vy) (by rw [← HVG.out]; exact List.mem_map.2 ⟨x, hx, rfl⟩) (by rw [← HVE.out]; exact List.mem_map.2 ⟨y, hy, rfl⟩) (cmpM_zero.1 e0), hgr.kept⟩
    clear k9 C9
    go_wp2_with fail
    go_loopw [11, 13, 49, 53, 54, 55] (fun _ _ i _ _ _ wr => ∃ j : Nat, j ≤ ng ∧ i = .int .i64 j ∧ Hid (Kept Nil w9 wr)) (fun _ _ i _ _ _ _ => ng - (intOf i).toNat)
    case atStart => exact ⟨0, Nat.zero_le _, rfl, Kept.refl _ _⟩
    case round =>
      obtain ⟨j, hj, rfl, HK⟩ := hrel
      by_cases hlt : j < ng
      · obtain ⟨x, hx⟩ : ∃ x, lg[j]? = some x := ⟨_, List.getElem?_eq_getElem (by have := HGL.out; omega)⟩
        obtain ⟨b0, o0, rfl, hb0, hc0⟩ := ((HMG.out.kept D9.out).row.kept HK.out).at_ hx
        have q0 := hc0 0 _ rfl
        have q1 := hc0 1 _ rfl
        rw [Nat.add_zero] at q0
        have CX := Lib.hid (CC.out x (List.mem_of_getElem? hx))
        have hbx := Blk.new wr 37 #[.string x.r, .slice x.a x.n x.c]
        have KA := Lib.hid (HK.out.alloc (.cells #[.string x.r, .slice x.a x.n x.c] 37))
        have HBX : Hid (∀ W, Kept Nil (wr.alloc (.cells #[.string x.r, .slice x.a x.n x.c] 37)) W → W.cell? ⟨wr.heap.size, 0, none⟩ = some (.string x.r) ∧ W.cell? ⟨wr.heap.size, 1, none⟩ = some (.slice x.a x.n x.c)) := Lib.hid fun W kW => ⟨(hbx.kept kW (fun e => e)).cell 0, (hbx.kept kW (fun e => e)).cell 1⟩
        generalize hbm : wr.heap.size = bm at HBX
        have HBM := Lib.hid hbm
        clear hc0 hx hbx
        go_wp2_with fail

        clear hbm
        go_loopw [13, 55] (fun _ i2 wt => ∃ q : Nat, q ≤ ne ∧ i2 = .int .i64 q ∧ Hid (Kept Nil (wr.alloc (.cells #[.string x.r, .slice x.a x.n x.c] 37)) wt)) (fun _ i2 _ => ne - (intOf i2).toNat)
        case atStart => exact ⟨0, Nat.zero_le _, rfl, Kept.refl _ _⟩
        case round =>
          obtain ⟨q, hq, rfl, HK2⟩ := hrel
          have KT := Lib.hid (KA.out.trans HK2.out (fun _ _ e => e))
          clear q0 q1
          by_cases hlt2 : q < ne
          · obtain ⟨y, hy⟩ : ∃ y, le[q]? = some y := ⟨_, List.getElem?_eq_getElem (by have := HEL.out; omega)⟩
            obtain ⟨b1, o1, rfl, hb1, hc1⟩ := ((HME.out.kept D9.out).row.kept KT.out).at_ hy
            have q0 := hc1 0 _ rfl
            have q1 := hc1 1 _ rfl
            rw [Nat.add_zero] at q0
            have CXY := Lib.hid (CX.out y (List.mem_of_getElem? hy) _ (KT.out.alloc (.cells #[.string y.r, .slice y.a y.n y.c] 37)))
            have KY := Lib.hid (HK2.out.alloc (.cells #[.string y.r, .slice y.a y.n y.c] 37))
            obtain ⟨x0, x1⟩ := HBX.out _ KY.out
            obtain ⟨x0', x1'⟩ := HBX.out _ HK2.out
            generalize cmpM x.val y.val = cv at CXY
            clear hc1 hy
            go_wp2_with fail
            refine CXY.out.mono ?_
            rintro e w11 ⟨rfl, hcv, k11⟩
            have K11 := Lib.hid (KY.out.trans k11 (fun _ _ e => e))
            clear k11 x0 x1 x0' x1' q0 q1
            go_wp2_with fail
            go_roundw
            case rel => exact ⟨q + 1, hlt2, by go_num, K11⟩
            case measure => simp [intOf]; omega
          · have e : q = ne := by omega
            subst e
            go_wp2_with fail
            go_roundw
            case rel => exact ⟨j + 1, hlt, by go_num, KT⟩
            case measure => simp [intOf]; omega
      · have K10 := Lib.hid (K9.out.trans HK.out (fun _ _ e => e))
        go_wp2_with fail
        refine (CPA.out _ K10.out).mono ?_
        rintro e w12 ⟨a12, n12, c12, l12, rfl, hn12, hr12, hv12, ho12, k12⟩
        have K12 := Lib.hid (K10.out.trans k12 (fun _ _ e => e))
        have C13 := Lib.hid (CDA.out w12 a12 n12 c12 l12 _ K12.out ⟨hr12.toIn cM_len (by decide), fun m hm => (ho12 m hm).1⟩ hv12 (by rw [hn12]; have := HSX.out; omega))
        rw [sets_none, sets_none2] at C13
        clear hn12 hr12 hv12 ho12 k12
        go_wp2_with fail
        refine C13.out.mono ?_
        rintro e w13 ⟨a1, n1, c1, l1, a2, n2, c2, l2, rfl, hn1, hn2, _, _, _, _, _, _, k13⟩
        have hn1' : n1 = 0 := hn1
        have hn2' : n2 = 0 := hn2
        subst hn1' hn2'
        have K13 := Lib.hid (K12.out.trans k13 (fun _ _ e => e))
        clear hn1 hn2 k13
        go_wp2_with fail
        refine (CA.out _ K13.out).mono ?_
        rintro e w14 ⟨rfl, k14⟩
        go_wp2_with fail
        go_ret
        exact ⟨rfl, K13.out.trans k14 (fun _ _ e => e)⟩
end Go.Proofs.YtkffcpjaciomjaaDoor
