/- TestMore: the walk over the law's own code. -/
import Derived.Test.YtefojaeinhgeiaaVAwake
import Derived.Test.YtefojaeinhgeiaaGRefOfT
import Derived.Test.YtefojaeinhgeiaaGE
import Derived.Test.YtefojaeinhgeiaaEFine
import Derived.BigRegion
import Derived.Deep.RegionHeld3
import Derived.Deep.DeepCutAuto
namespace Go.Proofs.Ytefojaeinhgeiaa
open Go.RowKit
set_option maxRecDepth 100000

theorem fpL_lt (n : Int) : ∀ (l : List Sh) (back : Nat) (i : Nat) (g : Int), fpL l n back = some (i, g) → i < back + l.length
  | [], back, i, g, e => by cases e
  | s :: r, back, i, g, e => by
    rw [fpL] at e
    rw [List.length_cons]
    split at e
    · split at e
      · cases e; omega
      · have := fpL_lt n r _ i g e; omega
    · have := fpL_lt n r _ i g e; omega
/-- No test asks for more triples than there are conditions ahead. -/
theorem tstL_back {ch : List Sh} {h : Hd} : ∀ x ∈ tstL ch h, x.2.1 < ch.length := fun x hx => by
  have hx' : x ∈ tst0 ch h ++ tst1 ch h ++ tst2 ch h := hx
  have own : ∀ {f g : Int}, ((f, -1, g) : Tst).2.1 < (ch.length : Int) := by intro f g; show (-1 : Int) < _; omega
  have old : ∀ {n f g : Int} {i : Nat}, fpL ch n 0 = some (i, g) → ((f, (i : Int), g) : Tst).2.1 < (ch.length : Int) := fun e => by
    have := fpL_lt _ _ _ _ _ e
    show ((_ : Nat) : Int) < _
    omega
  rcases List.mem_append.1 hx' with hx' | hx'
  rcases List.mem_append.1 hx' with hx' | hx'
  · unfold tst0 at hx'
    split at hx'
    · cases hfp : fpL ch h.n0 0 with
      | none => rw [hfp] at hx'; cases hx'
      | some p =>
        obtain ⟨i, f'⟩ := p
        rw [hfp] at hx'
        rw [List.mem_singleton.1 hx']
        exact old hfp
    · cases hx'
  · unfold tst1 at hx'
    split at hx'
    · cases hfp : fpL ch h.n1 0 with
      | none =>
        rw [hfp] at hx'
        simp only at hx'
        split at hx'
        · rw [List.mem_singleton.1 hx']; exact own
        · cases hx'
      | some p =>
        obtain ⟨i, f'⟩ := p
        rw [hfp] at hx'
        rw [List.mem_singleton.1 hx']
        exact old hfp
    · cases hx'
  · unfold tst2 at hx'
    split at hx'
    · cases hfp : fpL ch h.n2 0 with
      | none =>
        rw [hfp] at hx'
        simp only at hx'
        split at hx'
        · rw [List.mem_singleton.1 hx']; exact own
        · split at hx'
          · rw [List.mem_singleton.1 hx']; exact own
          · cases hx'
      | some p =>
        obtain ⟨i, f'⟩ := p
        rw [hfp] at hx'
        rw [List.mem_singleton.1 hx']
        exact old hfp
    · cases hx'
theorem st_back (c : Sh) (ch : List Sh) : ∀ x ∈ (c.st ch).hd.ts, x.2.1 < ch.length := by
  cases c with
  | mk h l =>
    rw [st_mk]
    split
    · exact fun x hx => (by cases hx)
    · exact tstL_back
set_option maxHeartbeats 16000000 in
theorem lawMore_any (l : List Sh) (a : Option Addr) (cap : Nat) (ab : Option Addr) (nb cb : Nat) (bk : List T3) (t : T3) (w : World) (h : Holds cA w (fun b _ => b < w.heap.size) (.slice a l.length cap) l) (hb : In cT3 3 w ab nb bk) (hm : nb ≤ maxLen) (hcb : nb ≤ cb) :
    Calls Try.prog 5 #[.slice a l.length cap, .slice ab nb cb, av t] w fun e w' => e = .returned (.bool true) ∧ Kept Nil w w' := by
  have hm1 := hm
  unfold maxLen at hm1
  obtain ⟨t1, t2, t3⟩ := t
  have HA := Lib.hid (fun W => awakeT_any W)
  have CF := Lib.hid (fun W (kW : Kept Nil w W) => fineL_any l (fun b _ => b < w.heap.size) a cap W (h.keptN kW) (fun b o hb => Nat.lt_of_lt_of_le hb kW.size))
  unfold YesEnd at CF
  have CR := Lib.hid (fun W (kW : Kept Nil w W) => rightL_any bk ab nb cb hm W (hb.kept kW))
  have CT : Hid (∀ W, Calls Try.prog 15 #[.agg #[.int .i64 t1, .int .i64 t2, .int .i64 t3]] W fun e w' => e = .returned (.bool (okT (t1, t2, t3))) ∧ Kept Nil W w') := Lib.hid fun W => refTri_any (t1, t2, t3) W
  have HB := Lib.hid hb
  have HMx := Lib.hid hm
  have HH := Lib.hid h
  have hlen0 : l.length ≤ cap := h.fits.2
  obtain ⟨len, hlen⟩ : ∃ len, l.length = len := ⟨_, rfl⟩
  rw [hlen] at CF HH hlen0 ⊢
  have HL := Lib.hid hlen
  have K0 := Lib.hid ((Kept.refl Nil w).alloc (.cells #[.int .i64 t1, .int .i64 t2, .int .i64 t3] 48))
  have BT := Lib.hid (Blk.new w 48 #[.int .i64 t1, .int .i64 t2, .int .i64 t3])
  clear h hb hm hlen
  go_enter Try.func5, Try.ntmps5
  go_upto_region 1 with fail
  have hbs : w.heap.size < (w.alloc (.cells #[.int .i64 t1, .int .i64 t2, .int .i64 t3] 48)).heap.size := BT.out.lt
  generalize w.alloc (.cells #[.int .i64 t1, .int .i64 t2, .int .i64 t3] 48) = w0 at *
  by_cases h1 : len < 1
  · have hd : decide ((len : Int) < 1) = true := decide_eq_true (by omega)
    have hd0 : decide (len = 0) = true := decide_eq_true (by omega)
    go_wp2_with fail
    refine (HA.out _).mono ?_
    rintro e w3 ⟨rfl, k3⟩
    go_wp2_with fail
    go_ret
    exact ⟨rfl, K0.out.trans k3 (fun _ _ g => g)⟩
  have hd1 : decide ((len : Int) < 1) = false := decide_eq_false (by omega)
  have hd2 : decide (len = 0) = false := decide_eq_false (by omega)
  have hd3 : (1 : Int) ≤ (len : Int) := by omega
  obtain ⟨m, hm'⟩ : ∃ m, len = m + 1 := ⟨len - 1, by omega⟩
  have HLM := Lib.hid hm'
  clear h1 hm'
  by_cases h16 : 16 < nb
  · have hd : decide (16 < nb) = true := decide_eq_true h16
    go_wp2_with fail
    refine (HA.out _).mono ?_
    rintro e w3 ⟨rfl, k3⟩
    go_wp2_with fail
    go_ret
    exact ⟨rfl, K0.out.trans k3 (fun _ _ g => g)⟩
  have hd : decide (16 < nb) = false := decide_eq_false h16
  have hn16 : nb ≤ 16 := by omega
  clear h16
  go_wp2_with fail
  refine (CF.out _ K0.out).mono ?_
  rintro e w1 ⟨b, rfl, k1, hb⟩
  have K1 := Lib.hid (K0.out.trans k1 (fun _ _ g => g))
  have BT1 := Lib.hid (BT.out.kept k1 (fun e => e))
  have HFb := Lib.hid hb
  clear k1 hb CF BT
  cases b
  · go_wp2_with fail
    refine (HA.out _).mono ?_
    rintro e w3 ⟨rfl, k3⟩
    go_wp2_with fail
    go_ret
    exact ⟨rfl, K1.out.trans k3 (fun _ _ g => g)⟩
  have HG : Hid (countL l ≤ 16 ∧ chkL l 1 = 0) := Lib.hid (HFb.out rfl)
  clear HFb
  go_wp2_with fail
  refine (CR.out _ K1.out).mono ?_
  rintro e w2 ⟨rfl, k2⟩
  have K2 := Lib.hid (K1.out.trans k2 (fun _ _ g => g))
  have BT2 := Lib.hid (BT1.out.kept k2 (fun e => e))
  clear k2 CR BT1
  cases hr : rightL bk
  · go_wp2_with fail
    refine (HA.out _).mono ?_
    rintro e w3 ⟨rfl, k3⟩
    go_wp2_with fail
    go_ret
    exact ⟨rfl, K2.out.trans k3 (fun _ _ g => g)⟩
  have y0 := BT2.out.cell 0
  have y1 := BT2.out.cell 1
  have y2 := BT2.out.cell 2
  simp at y0 y1 y2
  clear hr
  go_wp2_with fail
  refine (CT.out _).mono ?_
  rintro e wp ⟨rfl, kp⟩
  have KP := Lib.hid (K2.out.trans kp (fun _ _ g => g))
  have BTP := Lib.hid (BT2.out.kept kp (fun e => e))
  clear kp CT BT2 y0 y1 y2
  cases hr : okT (t1, t2, t3)
  · go_wp2_with fail
    refine (HA.out _).mono ?_
    rintro e w4 ⟨rfl, k4⟩
    go_wp2_with fail
    go_ret
    exact ⟨rfl, KP.out.trans k4 (fun _ _ g => g)⟩
  clear hr K0 K1 K2
  have HM : Hid (massL (stL l []) ≤ 64) := Lib.hid (by have := st_mass.2 l []; have := HG.out.1; omega)
  have HSL : Hid ((stL l []).length = len) := Lib.hid (by rw [stL_length]; exact HL.out)
  have C6 : Hid (∀ W, Kept Nil w W → Calls Try.prog 11 #[.slice a len cap] W fun e w' => ∃ a' cap', e = .returned (.slice a' len cap') ∧ Holds cR w' (okM W.heap.size w') (.slice a' len cap') l ∧ Kept Nil W w') := Lib.hid fun W kW => by
    have := refL_any l (by have := HG.out.1; omega) _ a cap W (by rw [HL.out]; exact HH.out.keptN kW)
    unfold ListEnd at this
    rw [HL.out] at this
    exact this
  have CO : Hid (∀ W ok a cap, Holds cR W ok (.slice a len cap) l → Calls Try.prog 10 #[.slice a len cap] W fun e w' => ∃ a cap, e = .returned (.slice a len cap) ∧ SHolds w' (okM W.heap.size w') (.slice a len cap) (stL l []) ∧ Kept Nil W w') := Lib.hid fun W ok a cap hh => by
    have := refCompile_of of_all l HG.out ok a cap W (by rw [HL.out]; exact hh)
    unfold StsEnd at this
    rw [stL_length, HL.out] at this
    exact this
  have CS : Hid (∀ W ok a cap, SHolds W ok (.slice a len cap) (stL l []) → Calls Try.prog 9 #[.slice a len cap] W fun e w' => ∃ a cap, e = .returned (.slice a len cap) ∧ SHolds w' (okM W.heap.size w') (.slice a len cap) (stL l []) ∧ Kept Nil W w') := Lib.hid fun W ok a cap hh => by
    have := steps_any (stL l []) (by have := HM.out; omega) ok a cap W (by rw [HSL.out]; exact hh)
    unfold StsEnd at this
    rw [HSL.out] at this
    exact this
  go_wp2_with fail
  refine (C6.out _ KP.out).mono ?_
  rintro e w3 ⟨a3, c3, rfl, h3, k3⟩
  have K3 := Lib.hid (KP.out.trans k3 (fun _ _ g => g))
  have BT3 := Lib.hid (BTP.out.kept k3 (fun e => e))
  have H3 := Lib.hid h3
  clear k3 h3 C6
  go_wp2_with fail
  refine (CO.out _ _ _ _ H3.out).mono ?_
  rintro e w4 ⟨a4, c4, rfl, h4, k4⟩
  have K4 := Lib.hid (K3.out.trans k4 (fun _ _ g => g))
  have BT4 := Lib.hid (BT3.out.kept k4 (fun e => e))
  have H4 := Lib.hid h4
  clear k4 h4 CO H3
  go_wp2_with fail
  refine (CS.out _ _ _ _ H4.out).mono ?_
  rintro e w5 ⟨a5, c5, rfl, h5, k5⟩
  have K5 := Lib.hid (K4.out.trans k5 (fun _ _ g => g))
  have BT5 := Lib.hid (BT4.out.kept k5 (fun e => e))
  have H5 := Lib.hid h5
  clear k5 h5 CS H4 K3 K4 HM
  clear BTP BT3 BT4 KP
  obtain ⟨c, hx⟩ : ∃ c, l[m]? = some c := ⟨_, List.getElem?_eq_getElem (by have := HL.out; have := HLM.out; omega)⟩
  have hst := stL_get l [] m _ hx
  rw [List.nil_append] at hst
  have hfine := st_fine c (l.take m)
  have hback := st_back c (l.take m)
  have hlt : (l.take m).length ≤ 15 := by rw [List.length_take]; have h1 := length_countL l; have h2 := HG.out.1; have h3 := HLM.out; have h4 := HL.out; omega
  generalize c.st (l.take m) = st at *
  obtain ⟨⟨sk, q0, q1, q2, ts⟩, ssb⟩ := st
  simp only [St.hd] at hfine hback
  obtain ⟨b5, o5, ta, tc, sa, sc, rfl, _, hr5, ht5, hs5⟩ := H5.out.at_ hst
  have HTS := Lib.hid ht5
  have HFn := Lib.hid hfine
  have HBk : Hid (∀ x ∈ ts, x.2.1 ≤ 15) := Lib.hid fun x hx => by have := hback x hx; omega
  have HR5 : Hid (w5.rangeAt b5 (o5 + m * 6) (cS ⟨sk, q0, q1, q2, ts⟩ (.slice ta ts.length tc) (.slice sa ssb.length sc))) := Lib.hid hr5
  generalize htn : ts.length = tn at *
  generalize ssb.length = sn at *
  have HTN := Lib.hid htn
  have htn3 : tn ≤ 3 := by rw [← htn]; have := hfine.2; omega
  have hl16 : len ≤ 16 := by have h1 := length_countL l; have h2 := HG.out.1; have h4 := HL.out; omega
  have hwm : IntKind.i64.wrap ((len : Int) - 1) = (m : Int) := by rw [IntKind.wrap_i64]; have := HLM.out; omega
  have hm0 : (0 : Int) ≤ (m : Int) := by omega
  have hml : (m : Int) < (len : Int) := by have := HLM.out; omega
  have B6 := Lib.hid (Blk.new w5 52 #[.int .i64 sk, .int .i64 q0, .int .i64 q1, .int .i64 q2, .slice ta tn tc, .slice sa sn sc])
  have K6 := Lib.hid (K5.out.alloc (.cells #[.int .i64 sk, .int .i64 q0, .int .i64 q1, .int .i64 q2, .slice ta tn tc, .slice sa sn sc] 52))
  have BT6 := Lib.hid (BT5.out.alloc (.cells #[.int .i64 sk, .int .i64 q0, .int .i64 q1, .int .i64 q2, .slice ta tn tc, .slice sa sn sc] 52))
  have HT6 := Lib.hid (HTS.out.keptN ((Kept.refl Nil w5).alloc (.cells #[.int .i64 sk, .int .i64 q0, .int .i64 q1, .int .i64 q2, .slice ta tn tc, .slice sa sn sc] 52)))
  clear hst hfine hback hlt hx hr5 ht5 hs5 htn H5 HTS
  go_wp2_with ((with_reducible refine wpList_load_S rfl (.tmp 44) rfl _ _ rfl ⟨sk, q0, q1, q2, ts⟩ (.slice ta tn tc) (.slice sa sn sc) ?_ ?_)
               · exact HR5.out)
  generalize w5.alloc (.cells #[.int .i64 sk, .int .i64 q0, .int .i64 q1, .int .i64 q2, .slice ta tn tc, .slice sa sn sc] 52) = w6 at *
  generalize w5.heap.size = S6 at *
  have hs6 : S6 < w6.heap.size := B6.out.lt
  have x4 := B6.out.cell 4
  simp at x4
  clear HR5 K5 BT5
  go_wp2_with fail
  go_loopw [9, 49] (fun nd i wr => ∃ j : Nat, j ≤ tn ∧ i = .int .i64 j ∧ nd = .int .i64 (need (ts.take j)) ∧ Kept Nil w6 wr) (fun _ i _ => tn - (intOf i).toNat)
  case atStart => exact ⟨0, Nat.zero_le _, rfl, rfl, Kept.refl _ _⟩
  case round =>
    obtain ⟨j, hj, rfl, rfl, hK⟩ := hrel
    have HK := Lib.hid hK
    clear hK
    by_cases hjn : j < tn
    · obtain ⟨⟨f, b', g⟩, hx⟩ : ∃ x, ts[j]? = some x := ⟨_, List.getElem?_eq_getElem (by have := HTN.out; omega)⟩
      obtain ⟨b, o, rfl, hok, hr⟩ := (HT6.out.keptN HK.out).at_ hx
      have hb1 := (HFn.out.1 _ (List.mem_of_getElem? hx)).2
      have hb2 := HBk.out _ (List.mem_of_getElem? hx)
      simp only at hb1 hb2
      have HN := Lib.hid (need_take hx)
      have HR := Lib.hid hr
      have KY := Lib.hid ((Kept.refl Nil wr).alloc (.cells #[.int .i64 f, .int .i64 b', .int .i64 g] 66))
      have hwb : IntKind.i64.wrap (b' + 1) = b' + 1 := by rw [IntKind.wrap_i64]; omega
      generalize need (ts.take j) = nd at *
      clear hx hok hr
      go_wp2_with ((with_reducible refine wpList_load_T rfl (.tmp 51) rfl _ _ rfl f b' g ?_ ?_)
                   · exact HR.out)
      go_roundw
      case rel =>
        refine ⟨j + 1, hjn, by go_num, ?_, HK.out.trans KY.out (fun _ _ e => e)⟩
        rw [HN.out]
        congr 1
        show (if nd < b' + 1 then b' + 1 else nd) = max nd (b' + 1)
        split <;> omega
      case measure => simp [intOf]; omega
    · obtain rfl : j = tn := by omega
      have e1 : ts.take j = ts := List.take_of_length_le (by rw [HTN.out]; exact Nat.le_refl _)
      rw [e1]
      have HNn := Lib.hid (need_nonneg ts)
      obtain ⟨nd, hnd⟩ : ∃ nd : Nat, need ts = (nd : Int) := ⟨(need ts).toNat, by have := HNn.out; omega⟩
      rw [hnd]
      have HND := Lib.hid hnd
      have B7 := Lib.hid (B6.out.kept HK.out (fun e => e))
      have BT7 := Lib.hid (BT6.out.kept HK.out (fun e => e))
      have HT7 := Lib.hid (HT6.out.keptN HK.out)
      have K7 := Lib.hid (K6.out.trans HK.out (fun _ _ g => g))
      have hs7 : S6 < wr.heap.size := B7.out.lt
      have hbs7 : w.heap.size < wr.heap.size := BT7.out.lt
      clear hnd e1 B6 BT6 HT6 K6 HK x4 hs6 hbs
      have s0 := B7.out.cell 0
      have s1 := B7.out.cell 1
      have s2 := B7.out.cell 2
      have s3 := B7.out.cell 3
      have s4 := B7.out.cell 4
      have s5 := B7.out.cell 5
      have y0 := BT7.out.cell 0
      have y1 := BT7.out.cell 1
      have y2 := BT7.out.cell 2
      simp at s0 s1 s2 s3 s4 s5 y0 y1 y2
      by_cases hgt : nb < nd
      · have hdg : decide (nb < nd) = true := decide_eq_true hgt
        have hpos : 0 < need ts := by rw [HND.out]; omega
        obtain ⟨x, hx, hx0⟩ := need_pos hpos
        have htn0 : ((j : Int) == 0) = false := beq_eq_false_iff_ne.2 (fun e => by
          have h1 := HTN.out
          have : ts = [] := List.length_eq_zero_iff.1 (by omega)
          rw [this] at hx; cases hx)
        have CM : Hid (∀ W, Kept Nil wr W → Calls Try.prog 14 #[.agg #[.int .i64 sk, .int .i64 q0, .int .i64 q1, .int .i64 q2, .slice ta j tc, .slice sa sn sc], .slice none 0 0, .agg #[.int .i64 t1, .int .i64 t2, .int .i64 t3]] W fun e w' => e = .returned (.bool false) ∧ Kept Nil W w') := Lib.hid fun W kW => by
          obtain rfl := HTN.out
          have := meets_any ⟨sk, q0, q1, q2, ts⟩ [] (t1, t2, t3) HFn.out.1 (by have := HFn.out.2; simp only at this ⊢; omega) none 0 0 (Nat.zero_le _) _ ta tc (.slice sa sn sc) ⟨sa, sn, sc, rfl⟩ W ⟨rfl, .inl rfl⟩ (HT7.out.keptN kW)
          rw [meetH_nil (h := ⟨sk, q0, q1, q2, ts⟩) hx hx0] at this
          exact this
        clear hx hx0 hpos
        go_wp2_with fail
        refine (CM.out _ (Kept.refl _ _)).mono ?_
        rintro e w8 ⟨rfl, k8⟩
        have K8 := Lib.hid (K7.out.trans k8 (fun _ _ g => g))
        clear k8
        go_wp2_with fail
        refine (HA.out _).mono ?_
        rintro e w9 ⟨rfl, k9⟩
        go_wp2_with fail
        go_ret
        exact ⟨rfl, K8.out.trans k9 (fun _ _ g => g)⟩
      have hdg : decide (nb < nd) = false := decide_eq_false hgt
      have hnb : nd ≤ nb := by omega
      have CM1 : Hid (∀ W, Kept Nil wr W → Calls Try.prog 14 #[.agg #[.int .i64 sk, .int .i64 q0, .int .i64 q1, .int .i64 q2, .slice ta j tc, .slice sa sn sc], .slice ab nb cb, .agg #[.int .i64 t1, .int .i64 t2, .int .i64 t3]] W fun e w' => e = .returned (.bool (meetH ⟨sk, q0, q1, q2, ts⟩ bk (t1, t2, t3))) ∧ Kept Nil W w') := Lib.hid fun W kW => by
        obtain rfl := HTN.out
        exact meets_any ⟨sk, q0, q1, q2, ts⟩ bk (t1, t2, t3) HFn.out.1 (by have := HFn.out.2; simp only at this ⊢; omega) ab nb cb HMx.out _ ta tc (.slice sa sn sc) ⟨sa, sn, sc, rfl⟩ W ((HB.out.kept K7.out).kept kW) (HT7.out.keptN kW)
      have CM2 : Hid (∀ W, Kept Nil wr W → Calls Try.prog 14 #[.agg #[.int .i64 sk, .int .i64 q0, .int .i64 q1, .int .i64 q2, .slice ta j tc, .slice sa sn sc], .slice ab nd cb, .agg #[.int .i64 t1, .int .i64 t2, .int .i64 t3]] W fun e w' => e = .returned (.bool (meetH ⟨sk, q0, q1, q2, ts⟩ bk (t1, t2, t3))) ∧ Kept Nil W w') := Lib.hid fun W kW => by
        obtain rfl := HTN.out
        have := meets_any ⟨sk, q0, q1, q2, ts⟩ (bk.take nd) (t1, t2, t3) HFn.out.1 (by have := HFn.out.2; simp only at this ⊢; omega) ab nd cb (Nat.le_trans hnb HMx.out) _ ta tc (.slice sa sn sc) ⟨sa, sn, sc, rfl⟩ W (((HB.out.kept K7.out).kept kW).head hnb) (HT7.out.keptN kW)
        rw [meetH_take (h := ⟨sk, q0, q1, q2, ts⟩) (fun x hx => by have := need_le (ts := ts) hx; rw [HND.out] at this; exact this)] at this
        exact this
      generalize meetH ⟨sk, q0, q1, q2, ts⟩ bk (t1, t2, t3) = v at *
      have u0 : ∀ n : CW (Kept Nil wr), n.w.cell? ⟨S6, 0, none⟩ = some (.int .i64 sk) := fun n => n.of.cellOf s0
      have u1 : ∀ n : CW (Kept Nil wr), n.w.cell? ⟨S6, 1, none⟩ = some (.int .i64 q0) := fun n => n.of.cellOf s1
      have u2 : ∀ n : CW (Kept Nil wr), n.w.cell? ⟨S6, 2, none⟩ = some (.int .i64 q1) := fun n => n.of.cellOf s2
      have u3 : ∀ n : CW (Kept Nil wr), n.w.cell? ⟨S6, 3, none⟩ = some (.int .i64 q2) := fun n => n.of.cellOf s3
      have u4 : ∀ n : CW (Kept Nil wr), n.w.cell? ⟨S6, 4, none⟩ = some (.slice ta j tc) := fun n => n.of.cellOf s4
      have u5 : ∀ n : CW (Kept Nil wr), n.w.cell? ⟨S6, 5, none⟩ = some (.slice sa sn sc) := fun n => n.of.cellOf s5
      have z0 : ∀ n : CW (Kept Nil wr), n.w.cell? ⟨w.heap.size, 0, none⟩ = some (.int .i64 t1) := fun n => n.of.cellOf y0
      have z1 : ∀ n : CW (Kept Nil wr), n.w.cell? ⟨w.heap.size, 1, none⟩ = some (.int .i64 t2) := fun n => n.of.cellOf y1
      have z2 : ∀ n : CW (Kept Nil wr), n.w.cell? ⟨w.heap.size, 2, none⟩ = some (.int .i64 t3) := fun n => n.of.cellOf y2
      have hnc : nd ≤ cb := by omega
      have hnc1 : (0 : Int) ≤ (nd : Int) := by omega
      have hnc2 : (nd : Int) ≤ (cb : Int) := by omega
      clear hgt s0 s1 s2 s3 s4 s5 y0 y1 y2
      go_wp2_with fail
      refine wp_region_in (Kept Nil wr) (by kernel_rfl) (by kernel_rfl) ((Kept.refl _ _).drew) ?_
      have inst : Nonempty (CW (Kept Nil wr)) := ⟨⟨wr, Kept.refl _ _⟩⟩
      repeat (go_big_quiet_step (first
        | (go_at_call 14; first
            | with_reducible exact call_in (kept_in wr) (CM1.out _ (CW.of _))
            | with_reducible exact call_in (kept_in wr) (CM2.out _ (CW.of _)))
        | (go_at_call 8; exact call_in (kept_in wr) (HA.out _))))
      refine wpQuiet_nil ?_
      rintro w9 ⟨n, hn⟩
      have hk9 : Kept Nil wr w9 := by rw [hn]; exact n.of
      clear hn n
      go_wp2_with fail
      go_ret
      exact ⟨rfl, K7.out.trans hk9 (fun _ _ g => g)⟩
end Go.Proofs.Ytefojaeinhgeiaa
