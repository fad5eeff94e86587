/- TestKinds: the walk over the law's own code. -/
import Derived.Test.YtefojaeinhgeiaaVAwake
import Derived.Test.YtefojaeinhgeiaaGRefOfT
import Derived.Test.YtefojaeinhgeiaaGE
import Derived.Test.YtefojaeinhgeiaaEFine
import Derived.BigRegion
import Derived.Deep.RegionHeld3
import Derived.Deep.DeepCutAuto
namespace Go.Proofs.Ytefojaeinhgeiaa
open Go.RowKit
set_option maxRecDepth 100000

theorem meetH_three {h : SH} (hk : h.k = 3) (bk : List T3) (t : T3) : meetH h bk t = false := by
  unfold meetH
  rw [decide_eq_false (by omega)]; rfl
theorem meetH_kind {k k' k0 k1 k2 : Int} {ts : List Tst} (h1 : k = 1 ∨ k = 2) (h2 : k' = 1 ∨ k' = 2) (bk : List T3) (t : T3) : meetH ⟨k, k0, k1, k2, ts⟩ bk t = meetH ⟨k', k0, k1, k2, ts⟩ bk t := by
  unfold meetH
  rw [decide_eq_true h1, decide_eq_true h2]
/-- A condition by itself, in a row of one. -/
theorem holdsOne {w : World} {b : Nat} {T : TypeId} {hd : Hd} {sb : List Sh} {u : Value} {ok : Nat → Nat → Prop} (h : Blk w b T #[.int .i64 hd.k, .bool hd.x0, .int .i64 hd.n0, .bool hd.x1, .int .i64 hd.n1, .bool hd.x2, .int .i64 hd.n2, u]) (hs : Holds cA w ok u sb) (hok : ok b 0) : Holds cA w ok (.slice (some ⟨b, 0, none⟩) 1 1) [.mk hd sb] := by
  refine .row b 0 1 [.mk hd sb] (fun _ => u) (Nat.le_refl _) hok (fun i x hi => ?_) (fun i x hi => ?_)
  · obtain rfl : i = 0 := by have := (List.getElem?_eq_some_iff.1 hi).1; simp at this; omega
    obtain rfl : Sh.mk hd sb = x := by simpa using hi
    intro j v hj
    rw [Nat.zero_mul, Nat.zero_add, h.cell j]
    show (List.toArray (cA hd u))[j]? = some v
    rw [List.getElem?_toArray]; exact hj
  · obtain rfl : i = 0 := by have := (List.getElem?_eq_some_iff.1 hi).1; simp at this; omega
    obtain rfl : Sh.mk hd sb = x := by simpa using hi
    exact hs
/-- A step by itself, in a row of one. -/
theorem sholdsOne {w : World} {b : Nat} {T : TypeId} {hd : SH} {sb : List St} {t u : Value} {ok : Nat → Nat → Prop} (h : Blk w b T #[.int .i64 hd.k, .int .i64 hd.k0, .int .i64 hd.k1, .int .i64 hd.k2, t, u]) (ht : TsAt w ok t hd.ts) (hs : SHolds w ok u sb) (hok : ok b 0) : SHolds w ok (.slice (some ⟨b, 0, none⟩) 1 1) [.mk hd sb] := by
  refine .row b 0 1 [.mk hd sb] (fun _ => t) (fun _ => u) (Nat.le_refl _) hok (fun i x hi => ?_) (fun i x hi => ?_) (fun i x hi => ?_)
  · obtain rfl : i = 0 := by have := (List.getElem?_eq_some_iff.1 hi).1; simp at this; omega
    obtain rfl : St.mk hd sb = x := by simpa using hi
    intro j v hj
    rw [Nat.zero_mul, Nat.zero_add, h.cell j]
    show (List.toArray (cS hd t u))[j]? = some v
    rw [List.getElem?_toArray]; exact hj
  · obtain rfl : i = 0 := by have := (List.getElem?_eq_some_iff.1 hi).1; simp at this; omega
    obtain rfl : St.mk hd sb = x := by simpa using hi
    exact ht
  · obtain rfl : i = 0 := by have := (List.getElem?_eq_some_iff.1 hi).1; simp at this; omega
    obtain rfl : St.mk hd sb = x := by simpa using hi
    exact hs
set_option maxHeartbeats 8000000 in
theorem lawKinds_any (s : Sh) (a : Option Addr) (cap : Nat) (ab : Option Addr) (nb cb : Nat) (bk : List T3) (t : T3) (w : World) (h : Holds cA w (fun b _ => b < w.heap.size) (.slice a s.subs.length cap) s.subs) (hb : In cT3 3 w ab nb bk) (hm : nb ≤ maxLen) :
    Calls Try.prog 4 #[vA s.hd (.slice a s.subs.length cap), .slice ab nb cb, av t] w fun e w' => e = .returned (.bool true) ∧ Kept Nil w w' := by
  have hm1 := hm
  unfold maxLen at hm1
  obtain ⟨⟨k, x0, x1, x2, n0, n1, n2⟩, sb⟩ := s
  obtain ⟨t1, t2, t3⟩ := t
  have HA := Lib.hid (fun W => awakeT_any W)
  simp only [Sh.hd, Sh.subs] at h ⊢
  have HH := Lib.hid h
  have HB := Lib.hid hb
  have HM := Lib.hid hm
  have CR := Lib.hid (fun W (kW : Kept Nil w W) => rightL_any bk ab nb cb hm W (hb.kept kW))
  have CT : Hid (∀ W, Calls Try.prog 15 #[.agg #[.int .i64 t1, .int .i64 t2, .int .i64 t3]] W fun e w' => e = .returned (.bool (okT (t1, t2, t3))) ∧ Kept Nil W w') := Lib.hid fun W => refTri_any (t1, t2, t3) W
  have CF := Lib.hid (fun W b (kW : Kept Nil w W) (bW : Blk W b 38 #[.int .i64 k, .bool x0, .int .i64 n0, .bool x1, .int .i64 n1, .bool x2, .int .i64 n2, .slice a sb.length cap]) => fineL_any [.mk ⟨k, x0, x1, x2, n0, n1, n2⟩ sb] (fun b _ => b < W.heap.size) (some ⟨b, 0, none⟩) 1 W (holdsOne (hd := ⟨k, x0, x1, x2, n0, n1, n2⟩) bW ((h.keptN kW).mono (fun b _ hb => Nat.lt_of_lt_of_le hb kW.size)) bW.lt) (fun _ _ h => h))
  unfold YesEnd at CF
  generalize hsl : sb.length = len at *
  have HSL := Lib.hid hsl
  have K0 := Lib.hid (((Kept.refl Nil w).alloc (.cells #[.int .i64 k, .bool x0, .int .i64 n0, .bool x1, .int .i64 n1, .bool x2, .int .i64 n2, .slice a len cap] 38)).alloc (.cells #[.int .i64 t1, .int .i64 t2, .int .i64 t3] 48))
  have B0 := Lib.hid ((Blk.new w 38 #[.int .i64 k, .bool x0, .int .i64 n0, .bool x1, .int .i64 n1, .bool x2, .int .i64 n2, .slice a len cap]).alloc (.cells #[.int .i64 t1, .int .i64 t2, .int .i64 t3] 48))
  have B1 : Hid (Blk ((w.alloc (.cells #[.int .i64 k, .bool x0, .int .i64 n0, .bool x1, .int .i64 n1, .bool x2, .int .i64 n2, .slice a len cap] 38)).alloc (.cells #[.int .i64 t1, .int .i64 t2, .int .i64 t3] 48)) (w.heap.size + 1) 48 #[.int .i64 t1, .int .i64 t2, .int .i64 t3]) := Lib.hid (blk_at (by simp))
  have hsz : ((w.alloc (.cells #[.int .i64 k, .bool x0, .int .i64 n0, .bool x1, .int .i64 n1, .bool x2, .int .i64 n2, .slice a len cap] 38)).alloc (.cells #[.int .i64 t1, .int .i64 t2, .int .i64 t3] 48)).heap.size = w.heap.size + 1 + 1 := by simp
  have HSZ := Lib.hid hsz
  clear h hb hm hsl hsz
  go_enter Try.func4, Try.ntmps4
  go_upto_region 1 with fail
  generalize (w.alloc (.cells #[.int .i64 k, .bool x0, .int .i64 n0, .bool x1, .int .i64 n1, .bool x2, .int .i64 n2, .slice a len cap] 38)).alloc (.cells #[.int .i64 t1, .int .i64 t2, .int .i64 t3] 48) = W0 at *
  have z0 := B0.out.cell 0
  have z1 := B0.out.cell 1
  have z2 := B0.out.cell 2
  have z3 := B0.out.cell 3
  have z4 := B0.out.cell 4
  have z5 := B0.out.cell 5
  have z6 := B0.out.cell 6
  have z7 := B0.out.cell 7
  simp at z0 z1 z2 z3 z4 z5 z6 z7
  have KA := Lib.hid (K0.out.alloc (.cells #[.int .i64 k, .bool x0, .int .i64 n0, .bool x1, .int .i64 n1, .bool x2, .int .i64 n2, .slice a len cap] 38))
  have CF1 := Lib.hid (CF.out _ W0.heap.size KA.out (Blk.new _ _ _))
  clear CF
  go_wp2_with fail
  refine CF1.out.mono ?_
  rintro e w1 ⟨b, rfl, k1, hb⟩
  have K1 := Lib.hid (KA.out.trans k1 (fun _ _ g => g))
  have B01 := Lib.hid ((B0.out.alloc (.cells #[.int .i64 k, .bool x0, .int .i64 n0, .bool x1, .int .i64 n1, .bool x2, .int .i64 n2, .slice a len cap] 38)).kept k1 (fun e => e))
  have B11 := Lib.hid ((B1.out.alloc (.cells #[.int .i64 k, .bool x0, .int .i64 n0, .bool x1, .int .i64 n1, .bool x2, .int .i64 n2, .slice a len cap] 38)).kept k1 (fun e => e))
  have HFb := Lib.hid hb
  clear k1 hb CF1 z0 z1 z2 z3 z4 z5 z6 z7 B0 B1
  cases b
  · go_wp2_with fail
    refine (HA.out _).mono ?_
    rintro e w3 ⟨rfl, k3⟩
    go_wp2_with fail
    go_ret
    exact ⟨rfl, K1.out.trans k3 (fun _ _ g => g)⟩
  have HG : Hid (countL [Sh.mk ⟨k, x0, x1, x2, n0, n1, n2⟩ sb] ≤ 16 ∧ chkL [Sh.mk ⟨k, x0, x1, x2, n0, n1, n2⟩ sb] 1 = 0) := Lib.hid (HFb.out rfl)
  clear HFb
  by_cases hn20 : 20 < nb
  · have hd : decide (20 < nb) = true := decide_eq_true hn20
    go_wp2_with fail
    refine (HA.out _).mono ?_
    rintro e w3 ⟨rfl, k3⟩
    go_wp2_with fail
    go_ret
    exact ⟨rfl, K1.out.trans k3 (fun _ _ g => g)⟩
  have hd : decide (20 < nb) = false := decide_eq_false hn20
  go_wp2_with fail
  refine (CR.out _ K1.out).mono ?_
  rintro e w2 ⟨rfl, k2⟩
  have K2 := Lib.hid (K1.out.trans k2 (fun _ _ g => g))
  have B02 := Lib.hid (B01.out.kept k2 (fun e => e))
  have B12 := Lib.hid (B11.out.kept k2 (fun e => e))
  clear k2 CR hn20 hd B01 B11
  cases hr : rightL bk
  · go_wp2_with fail
    refine (HA.out _).mono ?_
    rintro e w3 ⟨rfl, k3⟩
    go_wp2_with fail
    go_ret
    exact ⟨rfl, K2.out.trans k3 (fun _ _ g => g)⟩
  have y0 := B12.out.cell 0
  have y1 := B12.out.cell 1
  have y2 := B12.out.cell 2
  simp at y0 y1 y2
  clear hr
  go_wp2_with fail
  refine (CT.out _).mono ?_
  rintro e w3 ⟨rfl, k3⟩
  have K3 := Lib.hid (K2.out.trans k3 (fun _ _ g => g))
  have B03 := Lib.hid (B02.out.kept k3 (fun e => e))
  have B13 := Lib.hid (B12.out.kept k3 (fun e => e))
  clear k3 CT B02 B12 y0 y1 y2
  cases hr : okT (t1, t2, t3)
  · go_wp2_with fail
    refine (HA.out _).mono ?_
    rintro e w4 ⟨rfl, k4⟩
    go_wp2_with fail
    go_ret
    exact ⟨rfl, K3.out.trans k4 (fun _ _ g => g)⟩
  clear hr
  have hcnt : (Sh.mk ⟨k, x0, x1, x2, n0, n1, n2⟩ sb).count ≤ 16 := by have := HG.out.1; simpa [countL] using this
  have hchk : (Sh.mk ⟨k, x0, x1, x2, n0, n1, n2⟩ sb).chk 1 = 0 := chkL_all.1 HG.out.2 _ (List.mem_singleton.2 rfl)
  have CRef : Hid (∀ W, Kept Nil w W → Calls Try.prog 13 #[.agg #[.int .i64 k, .bool x0, .int .i64 n0, .bool x1, .int .i64 n1, .bool x2, .int .i64 n2, .slice a len cap]] W fun e w' => ∃ a2 c2, e = .returned (vR ⟨k, x0, x1, x2, n0, n1, n2⟩ (.slice a2 len c2)) ∧ Holds cR w' (okM W.heap.size w') (.slice a2 len c2) sb ∧ Kept Nil W w') := Lib.hid fun W kW => by
    have := refT_any (.mk ⟨k, x0, x1, x2, n0, n1, n2⟩ sb) (by omega) _ a cap W (by show Holds _ _ _ (.slice a sb.length cap) sb; rw [HSL.out]; exact HH.out.keptN kW)
    unfold RefEnd at this
    rw [show (Sh.mk ⟨k, x0, x1, x2, n0, n1, n2⟩ sb).subs.length = len from HSL.out] at this
    exact this
  obtain ⟨⟨sk, k0', k1', k2', sts⟩, ssb, hst⟩ : ∃ hd sb', (Sh.mk ⟨k, x0, x1, x2, n0, n1, n2⟩ sb).st [] = .mk hd sb' := ⟨_, _, (St.eta _).symm⟩
  have COf : Hid (∀ W ok a2 c2, Holds cR W ok (.slice a2 len c2) sb → Calls Try.prog 16 #[.slice none 0 0, vR ⟨k, x0, x1, x2, n0, n1, n2⟩ (.slice a2 len c2)] W (StEnd ⟨sk, k0', k1', k2', sts⟩ ssb W)) := Lib.hid fun W ok a2 c2 hh => by
    have := of_all (.mk ⟨k, x0, x1, x2, n0, n1, n2⟩ sb) [] (fun _ _ => True) ok none 0 a2 c2 W (.nil _ _) (by show Holds _ _ _ (.slice a2 sb.length c2) sb; rw [HSL.out]; exact hh) (by show 0 + _ ≤ 100; omega) ⟨1, hchk⟩
    rw [hst, show (Sh.mk ⟨k, x0, x1, x2, n0, n1, n2⟩ sb).subs.length = len from HSL.out] at this
    exact this
  have hmass : massL [St.mk ⟨sk, k0', k1', k2', sts⟩ ssb] ≤ 5000 := by
    have := st_mass.1 (.mk ⟨k, x0, x1, x2, n0, n1, n2⟩ sb) []
    rw [hst] at this
    simp only [massL]; omega
  have CSt := Lib.hid (fun W ok a cap => steps_any [St.mk ⟨sk, k0', k1', k2', sts⟩ ssb] hmass ok a cap W)
  have hfine := st_fine (.mk ⟨k, x0, x1, x2, n0, n1, n2⟩ sb) []
  rw [hst] at hfine
  have hkind := st_kind (.mk ⟨k, x0, x1, x2, n0, n1, n2⟩ sb) []
  rw [hst] at hkind
  have hk12 : k = 3 ∨ k = 1 ∨ k = 2 := by
    unfold Sh.chk at hchk
    by_cases e3 : k = 3
    · exact .inl e3
    · by_cases e12 : k = 1 ∨ k = 2
      · exact .inr e12
      · simp [e3, e12] at hchk
  have hnone : k = 3 → sts = [] := fun e => by
    rw [st_mk, if_pos (show (⟨k, x0, x1, x2, n0, n1, n2⟩ : Hd).k = 3 from e)] at hst
    injection hst with h1 _
    injection h1 with _ _ _ _ h5
    exact h5.symm
  have HK := Lib.hid (And.intro hfine (And.intro hk12 hnone))
  simp only [St.hd, Sh.hd] at hkind
  subst hkind
  have z0 := B03.out.cell 0
  have z1 := B03.out.cell 1
  have z2 := B03.out.cell 2
  have z3 := B03.out.cell 3
  have z4 := B03.out.cell 4
  have z5 := B03.out.cell 5
  have z6 := B03.out.cell 6
  have z7 := B03.out.cell 7
  simp at z0 z1 z2 z3 z4 z5 z6 z7
  clear hcnt hchk hst hmass hfine hk12 hnone HG HH
  unfold StEnd at COf
  unfold StsEnd at CSt
  simp only at COf
  go_wp2_with fail
  refine (CRef.out _ K3.out).mono ?_
  rintro e w4 ⟨a2, c2, rfl, h4, k4⟩
  have K4 := Lib.hid (K3.out.trans k4 (fun _ _ g => g))
  have B14 := Lib.hid (B13.out.kept k4 (fun e => e))
  have H4 := Lib.hid h4
  clear k4 h4 CRef B03 z0 z1 z2 z3 z4 z5 z6 z7
  go_wp2_with fail
  refine (COf.out _ _ _ _ H4.out).mono ?_
  rintro e w5 ⟨ta, tc, sa, sc, rfl, ht5, hs5, k5⟩
  have K5 := Lib.hid (K4.out.trans k5 (fun _ _ g => g))
  have B15 := Lib.hid (B14.out.kept k5 (fun e => e))
  have KL := (Kept.refl Nil w5).alloc (.cells #[.int .i64 sk, .int .i64 k0', .int .i64 k1', .int .i64 k2', .slice ta sts.length tc, .slice sa ssb.length sc] 57)
  have H5 := Lib.hid (sholdsOne (hd := ⟨sk, k0', k1', k2', sts⟩) (ok := fun _ _ => True) (Blk.new w5 57 #[.int .i64 sk, .int .i64 k0', .int .i64 k1', .int .i64 k2', .slice ta sts.length tc, .slice sa ssb.length sc]) ((ht5.keptN KL).mono (fun _ _ _ => trivial)) ((hs5.keptN KL).mono (fun _ _ _ => trivial)) trivial)
  have KL5 := Lib.hid KL
  have HTS := Lib.hid (show sts.length ≤ 3 from HK.out.1.2)
  clear k5 ht5 hs5 COf H4 B14 KL
  go_wp2_with fail
  refine (CSt.out _ _ _ _ H5.out).mono ?_
  rintro e w6 ⟨a6, c6, rfl, h6, k6⟩
  have K6 := Lib.hid ((K5.out.trans KL5.out (fun _ _ g => g)).trans k6 (fun _ _ g => g))
  have B16 := Lib.hid ((B15.out.kept KL5.out (fun e => e)).kept k6 (fun e => e))
  obtain ⟨b6, o6, ta6, tc6, sa6, sc6, rfl, _, hr6, ht6, hs6⟩ := h6.at_ (i := 0) (hd := ⟨sk, k0', k1', k2', sts⟩) (sb := ssb) rfl
  have HT6 := Lib.hid ht6
  have r0 := hr6 0 _ rfl
  have r1 := hr6 1 _ rfl
  have r2 := hr6 2 _ rfl
  have r3 := hr6 3 _ rfl
  have r4 := hr6 4 _ rfl
  have r5 := hr6 5 _ rfl
  simp only [Nat.zero_mul, Nat.add_zero] at r0 r1 r2 r3 r4 r5
  clear k6 h6 ht6 hs6 hr6 CSt H5 KL5 B15
  generalize sts.length = tn at *
  generalize ssb.length = sn at *
  have K7 := Lib.hid (K6.out.alloc (.cells #[.int .i64 sk, .int .i64 k0', .int .i64 k1', .int .i64 k2', .slice ta6 tn tc6, .slice sa6 sn sc6] 52))
  have B7 := Lib.hid (Blk.new w6 52 #[.int .i64 sk, .int .i64 k0', .int .i64 k1', .int .i64 k2', .slice ta6 tn tc6, .slice sa6 sn sc6])
  have B17 := Lib.hid (B16.out.alloc (.cells #[.int .i64 sk, .int .i64 k0', .int .i64 k1', .int .i64 k2', .slice ta6 tn tc6, .slice sa6 sn sc6] 52))
  have HT7 := Lib.hid (HT6.out.keptN ((Kept.refl Nil w6).alloc (.cells #[.int .i64 sk, .int .i64 k0', .int .i64 k1', .int .i64 k2', .slice ta6 tn tc6, .slice sa6 sn sc6] 52)))
  go_upto_region 4 with fail
  generalize w6.alloc (.cells #[.int .i64 sk, .int .i64 k0', .int .i64 k1', .int .i64 k2', .slice ta6 tn tc6, .slice sa6 sn sc6] 52) = w7 at *
  have s0 := B7.out.cell 0
  have s1 := B7.out.cell 1
  have s2 := B7.out.cell 2
  have s3 := B7.out.cell 3
  have s4 := B7.out.cell 4
  have s5 := B7.out.cell 5
  have y0 := B17.out.cell 0
  have y1 := B17.out.cell 1
  have y2 := B17.out.cell 2
  simp at s0 s1 s2 s3 s4 s5 y0 y1 y2
  clear r0 r1 r2 r3 r4 r5 HT6 B16 K6 KA K0 K1 K2 K3 K4 K5
  have hb7 : w6.heap.size < w7.heap.size := B7.out.lt
  have hb1 : w.heap.size + 1 < w7.heap.size := B17.out.lt
  generalize w6.heap.size = S7 at *
  by_cases e3 : sk = 3
  · have hts := HK.out.2.2 e3
    have htn : tn = 0 := by have := HT7.out.fits.1; rw [hts] at this; exact this
    subst e3 hts htn
    clear HK HTS
    have CM := Lib.hid (fun W (kW : Kept Nil w7 W) => meets_any ⟨3, k0', k1', k2', []⟩ bk (t1, t2, t3) (fun x hx => by cases hx) (Nat.zero_le _) ab nb cb HM.out _ ta6 tc6 (.slice sa6 sn sc6) ⟨sa6, sn, sc6, rfl⟩ W ((HB.out.kept K7.out).kept kW) (HT7.out.keptN kW))
    have CW := Lib.hid (fun W fa fn fc fs hfn hF (kW : Kept Nil w7 W) => whichNone_any ⟨3, k0', k1', k2', []⟩ rfl bk rfl ab nb cb HM.out _ ta6 tc6 (.slice sa6 sn sc6) ⟨sa6, sn, sc6, rfl⟩ W ((HB.out.kept K7.out).kept kW) (HT7.out.keptN kW) fs fa fn fc hfn hF)
    rw [meetH_three (rfl : (⟨3, k0', k1', k2', []⟩ : SH).k = 3)] at CM
    replace CM : Hid (∀ W, Kept Nil w7 W → Calls Try.prog 14 #[.agg #[.int .i64 3, .int .i64 k0', .int .i64 k1', .int .i64 k2', .slice ta6 0 tc6, .slice sa6 sn sc6], .slice ab nb cb, .agg #[.int .i64 t1, .int .i64 t2, .int .i64 t3]] W fun e w' => e = .returned (.bool false) ∧ Kept Nil W w') := CM
    replace CW : Hid (∀ W fa fn fc fs, fn ≤ 100 → In cF 4 W fa fn fs → Kept Nil w7 W → Calls Try.prog 17 #[.agg #[.int .i64 3, .int .i64 k0', .int .i64 k1', .int .i64 k2', .slice ta6 0 tc6, .slice sa6 sn sc6], .slice ab nb cb, .slice fa fn fc] W fun e w' => e = .returned (.slice none 0 0) ∧ Kept Nil W w') := CW
    go_wp2_with fail
    refine (CM.out _ (Kept.refl _ _)).mono ?_
    rintro e w8 ⟨rfl, k8⟩
    have K8 := Lib.hid k8
    have s0 := (B7.out.kept k8 (fun e => e)).cell 0
    have s1 := (B7.out.kept k8 (fun e => e)).cell 1
    have s2 := (B7.out.kept k8 (fun e => e)).cell 2
    have s3 := (B7.out.kept k8 (fun e => e)).cell 3
    have s4 := (B7.out.kept k8 (fun e => e)).cell 4
    have s5 := (B7.out.kept k8 (fun e => e)).cell 5
    have y0 := (B17.out.kept k8 (fun e => e)).cell 0
    have y1 := (B17.out.kept k8 (fun e => e)).cell 1
    have y2 := (B17.out.kept k8 (fun e => e)).cell 2
    simp at s0 s1 s2 s3 s4 s5 y0 y1 y2
    have KF := Lib.hid (k8.alloc (.cells #[.int .i64 1, .int .i64 t1, .int .i64 t2, .int .i64 t3] 62))
    have BF := Lib.hid (Blk.new w8 62 #[.int .i64 1, .int .i64 t1, .int .i64 t2, .int .i64 t3])
    have HF : Hid (In cF 4 (w8.alloc (.cells #[.int .i64 1, .int .i64 t1, .int .i64 t2, .int .i64 t3] 62)) (some ⟨w8.heap.size, 0, none⟩) 1 [(1, t1, t2, t3)]) := Lib.hid (by
      refine ⟨rfl, .inr ⟨w8.heap.size, 0, rfl, BF.out.lt, fun j x i v hj hi => ?_⟩⟩
      obtain rfl : j = 0 := by have := (List.getElem?_eq_some_iff.1 hj).1; simp at this; omega
      obtain rfl : (1, t1, t2, t3) = x := by simpa using hj
      rw [Nat.zero_mul, Nat.zero_add, BF.out.cell i]
      show (List.toArray (cF (1, t1, t2, t3)))[i]? = some v
      rw [List.getElem?_toArray]; exact hi)
    clear k8
    go_wp2_with fail
    refine (CW.out _ _ _ _ _ (by decide) HF.out KF.out).mono ?_
    rintro e w9 ⟨rfl, k9⟩
    have K9 := Lib.hid (K7.out.trans (KF.out.trans k9 (fun _ _ g => g)) (fun _ _ g => g))
    clear k9
    go_wp2_with fail
    refine (HA.out _).mono ?_
    rintro e w10 ⟨rfl, k10⟩
    go_wp2_with fail
    go_ret
    exact ⟨rfl, K9.out.trans k10 (fun _ _ g => g)⟩
  have h12 := HK.out.2.1.resolve_left e3
  have n3 : (sk == 3) = false := beq_eq_false_iff_ne.2 e3
  have CM : Hid (∀ (k' : Int), (k' = 1 ∨ k' = 2) → ∀ W, Kept Nil w7 W → Calls Try.prog 14 #[.agg #[.int .i64 k', .int .i64 k0', .int .i64 k1', .int .i64 k2', .slice ta6 tn tc6, .slice sa6 sn sc6], .slice ab nb cb, .agg #[.int .i64 t1, .int .i64 t2, .int .i64 t3]] W fun e w' => e = .returned (.bool (meetH ⟨1, k0', k1', k2', sts⟩ bk (t1, t2, t3))) ∧ Kept Nil W w') := Lib.hid fun k' hk' W kW => by
    obtain rfl := HT7.out.fits.1
    have := meets_any ⟨k', k0', k1', k2', sts⟩ bk (t1, t2, t3) HK.out.1.1 (Nat.le_trans HK.out.1.2 (by decide)) ab nb cb HM.out _ ta6 tc6 (.slice sa6 sn sc6) ⟨sa6, sn, sc6, rfl⟩ W ((HB.out.kept K7.out).kept kW) (HT7.out.keptN kW)
    rw [meetH_kind hk' (.inl rfl)] at this
    exact this
  generalize meetH ⟨1, k0', k1', k2', sts⟩ bk (t1, t2, t3) = v at *
  clear e3
  go_wp2_with fail
  go_region
  all_goals
    have K78 := Lib.hid ((((Kept.refl Nil w7).alloc (.cells #[.int .i64 sk, .int .i64 k0', .int .i64 k1', .int .i64 k2', .slice ta6 tn tc6, .slice sa6 sn sc6] 52)).alloc (.cells #[.int .i64 sk, .int .i64 k0', .int .i64 k1', .int .i64 k2', .slice ta6 tn tc6, .slice sa6 sn sc6] 52)).drew)
    have BX := Lib.hid (((Blk.new w7 52 #[.int .i64 sk, .int .i64 k0', .int .i64 k1', .int .i64 k2', .slice ta6 tn tc6, .slice sa6 sn sc6]).alloc (.cells #[.int .i64 sk, .int .i64 k0', .int .i64 k1', .int .i64 k2', .slice ta6 tn tc6, .slice sa6 sn sc6] 52)).drew)
    have BY : Hid (Blk ((w7.alloc (.cells #[.int .i64 sk, .int .i64 k0', .int .i64 k1', .int .i64 k2', .slice ta6 tn tc6, .slice sa6 sn sc6] 52)).alloc (.cells #[.int .i64 sk, .int .i64 k0', .int .i64 k1', .int .i64 k2', .slice ta6 tn tc6, .slice sa6 sn sc6] 52)).drew (w7.heap.size + 1) 52 #[.int .i64 sk, .int .i64 k0', .int .i64 k1', .int .i64 k2', .slice ta6 tn tc6, .slice sa6 sn sc6]) := Lib.hid ((blk_at (by simp)).drew)
    have BT8 := Lib.hid (B17.out.kept K78.out (fun e => e))
  · generalize ((w7.alloc (.cells #[.int .i64 sk, .int .i64 k0', .int .i64 k1', .int .i64 k2', .slice ta6 tn tc6, .slice sa6 sn sc6] 52)).alloc (.cells #[.int .i64 sk, .int .i64 k0', .int .i64 k1', .int .i64 k2', .slice ta6 tn tc6, .slice sa6 sn sc6] 52)).drew = W8 at *
    have x1 := BX.out.cell 1
    have x2 := BX.out.cell 2
    have x3 := BX.out.cell 3
    have x4 := BX.out.cell 4
    have x5 := BX.out.cell 5
    have f0 := BX.out.frozen 0
    have g0 := BY.out.frozen 0
    have x0 := BX.out.cell 0
    have y0' := BY.out.cell 0
    simp at x0 x1 x2 x3 x4 x5 y0'
    have hX8 := BX.out.lt
    have hY8 := BY.out.lt
    go_wp2_with fail
    have bX := BX.out.set_ 0 (.int .i64 1)
    have bY := (BY.out.far (p := ⟨w7.heap.size, 0, none⟩) (by show (w7.heap.size + 1) ≠ w7.heap.size; omega) (.int .i64 1)).set_ 0 (.int .i64 2)
    have bX' := bX.far (p := ⟨(w7.heap.size + 1), 0, none⟩) (by show w7.heap.size ≠ (w7.heap.size + 1); omega) (.int .i64 2)
    have BX9 := Lib.hid bX'
    have BY9 := Lib.hid bY
    have K9 := Lib.hid ((K78.out.setCell ⟨w7.heap.size, 0, none⟩ (.inr (by show _ ≤ w7.heap.size; omega)) (.int .i64 1)).setCell ⟨(w7.heap.size + 1), 0, none⟩ (.inr (by show _ ≤ (w7.heap.size + 1); omega)) (.int .i64 2))
    have BT9 := Lib.hid ((BT8.out.far (p := ⟨w7.heap.size, 0, none⟩) (by show _ ≠ w7.heap.size; omega) (.int .i64 1)).far (p := ⟨(w7.heap.size + 1), 0, none⟩) (by show _ ≠ (w7.heap.size + 1); omega) (.int .i64 2))
    clear bX bY bX' x0 x1 x2 x3 x4 x5 f0 g0 y0' BX BY K78 BT8
    generalize (W8.setCell ⟨w7.heap.size, 0, none⟩ (.int .i64 1)).setCell ⟨(w7.heap.size + 1), 0, none⟩ (.int .i64 2) = W9 at *
    simp only [List.setIfInBounds_toArray, List.set_cons_zero] at BX9 BY9
    have u0 : ∀ n : CW (Kept Nil W9), n.w.cell? ⟨w7.heap.size, 0, none⟩ = some (.int .i64 1) := fun n => (BX9.out.kept n.of (fun e => e)).cell 0
    have u1 : ∀ n : CW (Kept Nil W9), n.w.cell? ⟨w7.heap.size, 1, none⟩ = some (.int .i64 k0') := fun n => (BX9.out.kept n.of (fun e => e)).cell 1
    have u2 : ∀ n : CW (Kept Nil W9), n.w.cell? ⟨w7.heap.size, 2, none⟩ = some (.int .i64 k1') := fun n => (BX9.out.kept n.of (fun e => e)).cell 2
    have u3 : ∀ n : CW (Kept Nil W9), n.w.cell? ⟨w7.heap.size, 3, none⟩ = some (.int .i64 k2') := fun n => (BX9.out.kept n.of (fun e => e)).cell 3
    have u4 : ∀ n : CW (Kept Nil W9), n.w.cell? ⟨w7.heap.size, 4, none⟩ = some (.slice ta6 tn tc6) := fun n => (BX9.out.kept n.of (fun e => e)).cell 4
    have u5 : ∀ n : CW (Kept Nil W9), n.w.cell? ⟨w7.heap.size, 5, none⟩ = some (.slice sa6 sn sc6) := fun n => (BX9.out.kept n.of (fun e => e)).cell 5
    have v0 : ∀ n : CW (Kept Nil W9), n.w.cell? ⟨(w7.heap.size + 1), 0, none⟩ = some (.int .i64 2) := fun n => (BY9.out.kept n.of (fun e => e)).cell 0
    have v1 : ∀ n : CW (Kept Nil W9), n.w.cell? ⟨(w7.heap.size + 1), 1, none⟩ = some (.int .i64 k0') := fun n => (BY9.out.kept n.of (fun e => e)).cell 1
    have v2 : ∀ n : CW (Kept Nil W9), n.w.cell? ⟨(w7.heap.size + 1), 2, none⟩ = some (.int .i64 k1') := fun n => (BY9.out.kept n.of (fun e => e)).cell 2
    have v3 : ∀ n : CW (Kept Nil W9), n.w.cell? ⟨(w7.heap.size + 1), 3, none⟩ = some (.int .i64 k2') := fun n => (BY9.out.kept n.of (fun e => e)).cell 3
    have v4 : ∀ n : CW (Kept Nil W9), n.w.cell? ⟨(w7.heap.size + 1), 4, none⟩ = some (.slice ta6 tn tc6) := fun n => (BY9.out.kept n.of (fun e => e)).cell 4
    have v5 : ∀ n : CW (Kept Nil W9), n.w.cell? ⟨(w7.heap.size + 1), 5, none⟩ = some (.slice sa6 sn sc6) := fun n => (BY9.out.kept n.of (fun e => e)).cell 5
    have q0 : ∀ n : CW (Kept Nil W9), n.w.cell? ⟨w.heap.size + 1, 0, none⟩ = some (.int .i64 t1) := fun n => (BT9.out.kept n.of (fun e => e)).cell 0
    have q1 : ∀ n : CW (Kept Nil W9), n.w.cell? ⟨w.heap.size + 1, 1, none⟩ = some (.int .i64 t2) := fun n => (BT9.out.kept n.of (fun e => e)).cell 1
    have q2 : ∀ n : CW (Kept Nil W9), n.w.cell? ⟨w.heap.size + 1, 2, none⟩ = some (.int .i64 t3) := fun n => (BT9.out.kept n.of (fun e => e)).cell 2
    refine wp_region_in (Kept Nil W9) (by kernel_rfl) (by kernel_rfl) ((Kept.refl _ _).drew) ?_
    have inst : Nonempty (CW (Kept Nil W9)) := ⟨⟨W9, Kept.refl _ _⟩⟩
    repeat (go_big_quiet_step (first
      | (go_at_call 14; first
          | with_reducible exact call_in (kept_in W9) (CM.out 1 (.inl rfl) _ (K9.out.trans (CW.of _) (fun _ _ e => e)))
          | with_reducible exact call_in (kept_in W9) (CM.out 2 (.inr rfl) _ (K9.out.trans (CW.of _) (fun _ _ e => e))))
      | (go_at_call 8; exact call_in (kept_in W9) (HA.out _))))
    refine wpQuiet_nil ?_
    rintro _ ⟨n, rfl⟩
    go_wp2_with fail
    go_ret
    exact ⟨rfl, (K7.out.trans K9.out (fun _ _ e => e)).trans n.of (fun _ _ e => e)⟩
  · generalize ((w7.alloc (.cells #[.int .i64 sk, .int .i64 k0', .int .i64 k1', .int .i64 k2', .slice ta6 tn tc6, .slice sa6 sn sc6] 52)).alloc (.cells #[.int .i64 sk, .int .i64 k0', .int .i64 k1', .int .i64 k2', .slice ta6 tn tc6, .slice sa6 sn sc6] 52)).drew = W8 at *
    have x1 := BY.out.cell 1
    have x2 := BY.out.cell 2
    have x3 := BY.out.cell 3
    have x4 := BY.out.cell 4
    have x5 := BY.out.cell 5
    have f0 := BY.out.frozen 0
    have g0 := BX.out.frozen 0
    have x0 := BY.out.cell 0
    have y0' := BX.out.cell 0
    simp at x0 x1 x2 x3 x4 x5 y0'
    have hX8 := BY.out.lt
    have hY8 := BX.out.lt
    go_wp2_with fail
    have bX := BY.out.set_ 0 (.int .i64 1)
    have bY := (BX.out.far (p := ⟨(w7.heap.size + 1), 0, none⟩) (by show w7.heap.size ≠ (w7.heap.size + 1); omega) (.int .i64 1)).set_ 0 (.int .i64 2)
    have bX' := bX.far (p := ⟨w7.heap.size, 0, none⟩) (by show (w7.heap.size + 1) ≠ w7.heap.size; omega) (.int .i64 2)
    have BX9 := Lib.hid bX'
    have BY9 := Lib.hid bY
    have K9 := Lib.hid ((K78.out.setCell ⟨(w7.heap.size + 1), 0, none⟩ (.inr (by show _ ≤ (w7.heap.size + 1); omega)) (.int .i64 1)).setCell ⟨w7.heap.size, 0, none⟩ (.inr (by show _ ≤ w7.heap.size; omega)) (.int .i64 2))
    have BT9 := Lib.hid ((BT8.out.far (p := ⟨(w7.heap.size + 1), 0, none⟩) (by show _ ≠ (w7.heap.size + 1); omega) (.int .i64 1)).far (p := ⟨w7.heap.size, 0, none⟩) (by show _ ≠ w7.heap.size; omega) (.int .i64 2))
    clear bX bY bX' x0 x1 x2 x3 x4 x5 f0 g0 y0' BX BY K78 BT8
    generalize (W8.setCell ⟨(w7.heap.size + 1), 0, none⟩ (.int .i64 1)).setCell ⟨w7.heap.size, 0, none⟩ (.int .i64 2) = W9 at *
    simp only [List.setIfInBounds_toArray, List.set_cons_zero] at BX9 BY9
    have u0 : ∀ n : CW (Kept Nil W9), n.w.cell? ⟨(w7.heap.size + 1), 0, none⟩ = some (.int .i64 1) := fun n => (BX9.out.kept n.of (fun e => e)).cell 0
    have u1 : ∀ n : CW (Kept Nil W9), n.w.cell? ⟨(w7.heap.size + 1), 1, none⟩ = some (.int .i64 k0') := fun n => (BX9.out.kept n.of (fun e => e)).cell 1
    have u2 : ∀ n : CW (Kept Nil W9), n.w.cell? ⟨(w7.heap.size + 1), 2, none⟩ = some (.int .i64 k1') := fun n => (BX9.out.kept n.of (fun e => e)).cell 2
    have u3 : ∀ n : CW (Kept Nil W9), n.w.cell? ⟨(w7.heap.size + 1), 3, none⟩ = some (.int .i64 k2') := fun n => (BX9.out.kept n.of (fun e => e)).cell 3
    have u4 : ∀ n : CW (Kept Nil W9), n.w.cell? ⟨(w7.heap.size + 1), 4, none⟩ = some (.slice ta6 tn tc6) := fun n => (BX9.out.kept n.of (fun e => e)).cell 4
    have u5 : ∀ n : CW (Kept Nil W9), n.w.cell? ⟨(w7.heap.size + 1), 5, none⟩ = some (.slice sa6 sn sc6) := fun n => (BX9.out.kept n.of (fun e => e)).cell 5
    have v0 : ∀ n : CW (Kept Nil W9), n.w.cell? ⟨w7.heap.size, 0, none⟩ = some (.int .i64 2) := fun n => (BY9.out.kept n.of (fun e => e)).cell 0
    have v1 : ∀ n : CW (Kept Nil W9), n.w.cell? ⟨w7.heap.size, 1, none⟩ = some (.int .i64 k0') := fun n => (BY9.out.kept n.of (fun e => e)).cell 1
    have v2 : ∀ n : CW (Kept Nil W9), n.w.cell? ⟨w7.heap.size, 2, none⟩ = some (.int .i64 k1') := fun n => (BY9.out.kept n.of (fun e => e)).cell 2
    have v3 : ∀ n : CW (Kept Nil W9), n.w.cell? ⟨w7.heap.size, 3, none⟩ = some (.int .i64 k2') := fun n => (BY9.out.kept n.of (fun e => e)).cell 3
    have v4 : ∀ n : CW (Kept Nil W9), n.w.cell? ⟨w7.heap.size, 4, none⟩ = some (.slice ta6 tn tc6) := fun n => (BY9.out.kept n.of (fun e => e)).cell 4
    have v5 : ∀ n : CW (Kept Nil W9), n.w.cell? ⟨w7.heap.size, 5, none⟩ = some (.slice sa6 sn sc6) := fun n => (BY9.out.kept n.of (fun e => e)).cell 5
    have q0 : ∀ n : CW (Kept Nil W9), n.w.cell? ⟨w.heap.size + 1, 0, none⟩ = some (.int .i64 t1) := fun n => (BT9.out.kept n.of (fun e => e)).cell 0
    have q1 : ∀ n : CW (Kept Nil W9), n.w.cell? ⟨w.heap.size + 1, 1, none⟩ = some (.int .i64 t2) := fun n => (BT9.out.kept n.of (fun e => e)).cell 1
    have q2 : ∀ n : CW (Kept Nil W9), n.w.cell? ⟨w.heap.size + 1, 2, none⟩ = some (.int .i64 t3) := fun n => (BT9.out.kept n.of (fun e => e)).cell 2
    refine wp_region_in (Kept Nil W9) (by kernel_rfl) (by kernel_rfl) ((Kept.refl _ _).drew) ?_
    have inst : Nonempty (CW (Kept Nil W9)) := ⟨⟨W9, Kept.refl _ _⟩⟩
    repeat (go_big_quiet_step (first
      | (go_at_call 14; first
          | with_reducible exact call_in (kept_in W9) (CM.out 1 (.inl rfl) _ (K9.out.trans (CW.of _) (fun _ _ e => e)))
          | with_reducible exact call_in (kept_in W9) (CM.out 2 (.inr rfl) _ (K9.out.trans (CW.of _) (fun _ _ e => e))))
      | (go_at_call 8; exact call_in (kept_in W9) (HA.out _))))
    refine wpQuiet_nil ?_
    rintro _ ⟨n, rfl⟩
    go_wp2_with fail
    go_ret
    exact ⟨rfl, (K7.out.trans K9.out (fun _ _ e => e)).trans n.of (fun _ _ e => e)⟩
end Go.Proofs.Ytefojaeinhgeiaa
