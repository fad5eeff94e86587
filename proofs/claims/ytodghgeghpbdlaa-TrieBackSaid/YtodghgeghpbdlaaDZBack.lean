/- Layer trie: the law TrieBack, wherever its lists lie. -/
import Derived.Test.YtodghgeghpbdlaaDZSpoil
import Derived.Test.YtodghgeghpbdlaaDZOrdM
namespace Go.Proofs.Ytodghgeghpbdlaa
open Go.RowKit Go.Maps Go.WideMaps
set_option maxRecDepth 100000

/-- Between two rounds that add the lists. -/
structure BkI (w : World) (p : Nat) (Ls : List (List Sh)) (j : Nat) (W : World) : Prop where
  ex : ∃ c, TO W c p (stA (Ls.take j)) (16 * j) ∧ ∀ b, b < w.heap.size → c b = 0
  kept : Kept Nil w W
set_option maxHeartbeats 16000000 in
theorem back_law (Ls : List (List Sh)) (ok : Nat → Nat → Prop) (vals : List SlV) {w : World} {a : Option Addr} {n cap : Nat} (hr : In cV 1 w a n vals) (hs : Lcs w ok vals Ls) (hok : ∀ b o, ok b o → b < w.heap.size) (l0 : List Sh) (a0 : Option Addr) (c0 : Nat) (hl0 : Holds cA w ok (.slice a0 l0.length c0) l0) :
    Calls Try.prog 3 #[.slice a n cap, .slice a0 l0.length c0] w fun e w' => e = .returned (.bool true) ∧ Kept Nil w w' := by
  have HR := Lib.hid hr
  have HS := Lib.hid hs
  have HOK := Lib.hid hok
  have HN := Lib.hid (show n = Ls.length by rw [← hr.1, hs.1])
  have HA := Lib.hid awake_any
  have HL0 := Lib.hid hl0
  obtain ⟨n0, hn0⟩ : ∃ n0, l0.length = n0 := ⟨_, rfl⟩
  have HN0 := Lib.hid hn0
  simp only [hn0] at HL0 ⊢
  clear hr hs hok hl0 hn0
  go_enter Try.func3, Try.ntmps3
  go_wp2_with fail
  refine (new_any w).mono ?_
  rintro e w1 ⟨p, c, rfl, te, k1, hc⟩
  have HTE := Lib.hid te
  have K1 := Lib.hid k1
  have HC := Lib.hid hc
  clear te k1 hc
  by_cases hn8 : n ≤ 8
  · have e1 : decide ((8 : Int) < (n : Int)) = false := by simp; omega
    have CF0 := Lib.hid (fineL_any l0 ok a0 c0 w1 (by rw [HN0.out]; exact HL0.out.keptN K1.out) (fun b o hb => Nat.lt_of_lt_of_le (HOK.out b o hb) K1.out.size))
    simp only [HN0.out] at CF0
    go_wp2_with fail
    refine CF0.out.mono ?_
    rintro e w2 ⟨b, rfl, k2, hb⟩
    have K2 := Lib.hid (K1.out.trans k2 (fun _ _ e => e))
    have HB := Lib.hid hb
    have HK12 := Lib.hid k2
    clear k2 hb CF0
    cases b
    · go_wp2_with fail
      refine (HA.out _).mono ?_
      rintro e w4 ⟨rfl, k4⟩
      go_wp2_with fail
      go_ret
      exact ⟨rfl, K2.out.trans k4 (fun _ _ e => e)⟩
    · have HG0 : Hid (GoesT l0) := Lib.hid (HB.out rfl)
      clear HB
      have HB0 : Hid (BkI w p Ls 0 w2) := Lib.hid ⟨⟨c, ⟨[], _, _, HTE.out.keptN HK12.out, TLS.nil, Nat.zero_le _⟩, fun b hb => by
        by_cases e : c b = 0
        · exact e
        · have := HC.out b e; omega⟩, K2.out⟩
      clear HTE HC
      go_wp2_with fail
      go_loopw [7, 39] (fun _ i wr => ∃ j : Nat, j ≤ n ∧ i = .int .i64 j ∧ BkI w p Ls j wr) (fun _ i _ => n - (intOf i).toNat)
      case atStart => exact ⟨0, Nat.zero_le _, rfl, HB0.out⟩
      case round =>
        obtain ⟨j, hj, rfl, hI⟩ := hrel
        have HI := Lib.hid hI
        have HK := Lib.hid hI.kept
        by_cases hlt : j < n
        · obtain ⟨l, hl⟩ : ∃ l, Ls[j]? = some l := ⟨_, List.getElem?_eq_getElem (by have := HN.out; omega)⟩
          obtain ⟨bx, cx, hvx, hhx⟩ := HS.out.2 j l hl
          obtain ⟨b0, o0, rfl, hb0, hc0⟩ := (HR.out.kept HK.out).at_ hvx
          have q0 := hc0 0 _ rfl
          rw [Nat.mul_one, Nat.add_zero] at q0
          have HTK := Lib.hid (show Ls.take (j + 1) = Ls.take j ++ [l] by rw [List.take_add_one, hl]; rfl)
          have CF := Lib.hid (fineL_any l ok bx cx wr (hhx.keptN HK.out) (fun b o hb => Nat.lt_of_lt_of_le (HOK.out b o hb) HK.out.size))
          have HHX := Lib.hid (hhx.keptN HK.out)
          have hjj : (j : Int) < (n : Int) := by omega
          obtain ⟨len, hlen⟩ : ∃ len, l.length = len := ⟨_, rfl⟩
          have HL := Lib.hid hlen
          simp only [hlen] at q0 CF HHX
          clear hI hl hvx hhx hc0 hlen
          go_wp2_with fail
          refine CF.out.mono ?_
          rintro e w3 ⟨b, rfl, k3, hb⟩
          have K3 := Lib.hid k3
          have HB := Lib.hid hb
          clear k3 hb CF q0
          cases b
          · go_wp2_with fail
            refine (HA.out _).mono ?_
            rintro e w4 ⟨rfl, k4⟩
            go_wp2_with fail
            go_ret
            exact ⟨rfl, (HK.out.trans K3.out (fun _ _ e => e)).trans k4 (fun _ _ e => e)⟩
          · have HG : Hid (GoesT l) := Lib.hid (HB.out rfl)
            clear HB
            have C6 := Lib.hid (refL_any l (by have := HG.out.1; omega) ok bx cx w3 (by rw [HL.out]; exact HHX.out.keptN K3.out))
            unfold ListEnd at C6
            simp only [HL.out] at C6
            go_wp2_with fail
            refine C6.out.mono ?_
            rintro e w4 ⟨a4, c4, rfl, h4, k4⟩
            have CO := Lib.hid (refCompile_of of_all l HG.out _ a4 c4 w4 (by rw [HL.out]; exact h4))
            unfold StsEnd at CO
            simp only [HL.out, stL_length] at CO
            have K4 := Lib.hid (K3.out.trans k4 (fun _ _ e => e))
            clear h4 k4 C6
            go_wp2_with fail
            refine CO.out.mono ?_
            rintro e w5 ⟨a5, c5, rfl, h5, k5⟩
            have HM : Hid (massL (stL l []) ≤ 64) := Lib.hid (by have := st_mass.2 l []; have := HG.out.1; omega)
            have HSL : Hid ((stL l []).length = len) := Lib.hid (by rw [stL_length]; exact HL.out)
            have CS := Lib.hid (steps_any (stL l []) (by have := HM.out; omega) _ a5 c5 w5 (by rw [HSL.out]; exact h5))
            unfold StsEnd at CS
            simp only [HSL.out] at CS
            have K5 := Lib.hid (K4.out.trans k5 (fun _ _ e => e))
            clear h5 k5 CO
            go_wp2_with fail
            refine CS.out.mono ?_
            rintro e w6 ⟨a6, c6, rfl, h6, k6⟩
            have K6 := Lib.hid (K5.out.trans k6 (fun _ _ e => e))
            obtain ⟨c, hto, hz⟩ := HI.out.ex
            have hlow := hto.low
            have CA := Lib.hid ((hto.keptN K6.out).add (rl_of HG.out) (by omega) (by unfold stA; rw [List.length_map, List.length_take]; omega) (okM w5.heap.size w6) (fun b o hb => ⟨hb.2.1, by
              by_cases e : c b = 0
              · exact e
              · have h1 := hlow b e
                have h2 := K5.out.size
                have h3 := hb.1
                omega⟩) a6 c6 (by rw [HSL.out]; exact h6))
            simp only [HSL.out] at CA
            have HZ := Lib.hid hz
            clear h6 k6 CS hto hlow hz
            go_wp2_with fail
            refine CA.out.mono ?_
            rintro e w7 ⟨v7, c7, rfl, t7, k7, z7⟩
            have H7 := Lib.hid (And.intro t7 (And.intro k7 z7))
            clear t7 k7 z7 CA
            go_wp2_with fail
            go_roundw
            case rel =>
              obtain ⟨t7, k7, z7⟩ := H7.out
              refine ⟨j + 1, hlt, by go_num, ⟨c7, ?_, fun b hb => ?_⟩, (HI.out.kept.trans K6.out (fun _ _ e => e)).trans k7 (fun i hi e => e (HZ.out i hi))⟩
              · rw [HTK.out, stA_snoc]; exact t7
              · by_cases e : c7 b = 0
                · exact e
                · rcases z7 b e with g | g
                  · exact absurd (HZ.out b hb) g
                  · have := HI.out.kept.size; have := K6.out.size; omega
            case measure => simp [intOf]; omega
        · obtain rfl : j = n := by omega
          obtain ⟨c, hto, hz⟩ := hI.ex
          have htk : Ls.take j = Ls := List.take_of_length_le (by have := HN.out; omega)
          rw [htk] at hto
          obtain ⟨es, U, E, te, tls, hes⟩ := hto
          obtain ⟨ls, hls⟩ : ∃ ls, stA Ls = ls := ⟨_, rfl⟩
          have hlsn : ls.length ≤ 8 := by rw [← hls]; unfold stA; rw [List.length_map]; have := HN.out; omega
          rw [hls] at tls
          obtain ⟨lw, hlw⟩ : ∃ lw, alv es = lw := ⟨_, rfl⟩
          have hlwn := alv_len es
          rw [hlw] at hlwn
          have hes2 : es.length ≤ 128 := by omega
          have CW := Lib.hid (trieAll_any te (by omega) hlw)
          have HTE := Lib.hid te
          have HTLS := Lib.hid tls
          have HZ := Lib.hid hz
          have HLOW := Lib.hid te.low
          have HLW := Lib.hid hlw
          have HLSN := Lib.hid hlsn
          have HES := Lib.hid hes2
          obtain ⟨nw, hnw⟩ : ∃ nw, lw.length = nw := ⟨_, rfl⟩
          rw [hnw] at hlwn
          have hnwn : nw ≤ 130 := by omega
          simp only [hnw] at CW
          have HNWN := Lib.hid hnwn
          have HNW := Lib.hid hnw
          clear hI te tls hz hlsn hes hes2 hlw hls htk hlt HB0 hnw hlwn hnwn HI
          rename World => w0r
          go_wp2_with fail
          refine CW.out.mono ?_
          rintro e w2' ⟨aw, cw, rfl, rw_, kw⟩
          have HKW := Lib.hid kw
          have HIW := Lib.hid (rw_.toIn cNt_len (by decide))
          have HOW := Lib.hid (show ∀ b, (Value.slice aw nw cw).ownBlock = some b → w0r.heap.size ≤ b ∧ b < w2'.heap.size from fun b e => by
            obtain ⟨cs, t, e2⟩ := rw_.isCb e
            exact ⟨rw_.lowb e, (Array.getElem?_eq_some_iff.1 e2).1⟩)
          have KW := Lib.hid (HK.out.trans kw (fun _ _ e => e))
          have C6 := Lib.hid (refL_any l0 (by have := HG0.out.1; omega) ok a0 c0 w2' (by rw [HN0.out]; exact HL0.out.keptN KW.out))
          unfold ListEnd at C6
          simp only [HN0.out] at C6
          clear rw_ kw CW
          go_wp2_with fail
          refine C6.out.mono ?_
          rintro e w3 ⟨a3, c3, rfl, h3, k3⟩
          have CO := Lib.hid (refCompile_of of_all l0 HG0.out _ a3 c3 w3 (by rw [HN0.out]; exact h3))
          unfold StsEnd at CO
          simp only [HN0.out, stL_length] at CO
          have K3 := Lib.hid (HKW.out.trans k3 (fun _ _ e => e))
          have K23 := Lib.hid k3
          clear h3 k3 C6
          go_wp2_with fail
          refine CO.out.mono ?_
          rintro e w4 ⟨a4, c4, rfl, h4, k4⟩
          obtain ⟨s, hse⟩ : ∃ s, stL l0 [] = s := ⟨_, rfl⟩
          have hRl : Rl s := hse ▸ rl_of HG0.out
          have hM : massL s ≤ 64 := by rw [← hse]; have := st_mass.2 l0 []; have := HG0.out.1; omega
          have hCn : cntL s ≤ 16 := by rw [← hse]; have := st_cnt.2 l0 []; have := HG0.out.1; omega
          have hsn : s.length = n0 := by rw [← hse, stL_length]; exact HN0.out
          rw [hse] at h4
          have HRl := Lib.hid hRl
          have HM := Lib.hid hM
          have HCn := Lib.hid hCn
          have HSN := Lib.hid hsn
          have H4 := Lib.hid h4
          have K34 := Lib.hid k4
          have K4 := Lib.hid (K3.out.trans k4 (fun _ _ e => e))
          have CS := Lib.hid (steps_any s (by omega) _ a4 c4 w4 (by rw [hsn]; exact h4))
          unfold StsEnd at CS
          simp only [hsn] at CS
          clear hse hRl hM hCn hsn h4 k4 CO
          go_wp2_with fail
          refine CS.out.mono ?_
          rintro e w5 ⟨a5, c5, rfl, h5, k5⟩
          have K45 := Lib.hid k5
          have K5 := Lib.hid (K4.out.trans k5 (fun _ _ e => e))
          have H5 := Lib.hid h5
          have HCZ : Hid (∀ b, w0r.heap.size ≤ b → c b = 0) := Lib.hid (fun b hb => by
            by_cases e : c b = 0
            · exact e
            · have := HLOW.out b e; omega)
          have CA := Lib.hid (add_any (HTE.out.keptN K5.out) s HRl.out (by have := HES.out; omega) HTLS.out.far (fun k => by have := HTLS.out.bnd k; have := HLSN.out; omega) (okM w4.heap.size w5) (fun b o hb => ⟨hb.2.1, HCZ.out b (by have := hb.1; have := K4.out.size; omega)⟩) a5 c5 (by rw [HSN.out]; exact h5))
          simp only [HSN.out] at CA
          obtain ⟨m, hmc⟩ : ∃ m, (chSL s []).length = m := ⟨_, rfl⟩
          have HMC := Lib.hid hmc
          have hch := HRl.out.chs
          simp only [hmc] at CA hch
          clear h5 k5 CS hmc
          go_wp2_with fail
          refine CA.out.mono ?_
          rintro e w6 ⟨a6, cp6, c6, rfl, hI6, ho6, _, t6⟩
          have HT6 := Lib.hid t6
          have HM16 := Lib.hid hch
          clear hI6 ho6 t6 CA hch
          obtain ⟨F, hF⟩ : ∃ F : Nat → Prop, F = fun b => w4.heap.size ≤ b ∧ b < w5.heap.size := ⟨_, rfl⟩
          have hFz : ∀ b, F b → c b = 0 := fun b e => by rw [hF] at e; exact HCZ.out b (by have := e.1; have := K4.out.size; omega)
          have HS6 : SHolds w6 (okM w4.heap.size w5) (.slice a5 n0 c5) s := H5.out.kept HT6.out.kept (fun b o e f => f.1 (HCZ.out b (by have := e.1; have := K4.out.size; omega)))
          have hok6 : ∀ b o, okM w4.heap.size w5 b o → F b ∧ b < w6.heap.size ∧ o = 0 ∧ Soft w6 b := fun b o e => by
            have e2 := e.kept HT6.out.kept (fun f => f.1 (HCZ.out b (by have := e.1; have := K4.out.size; omega)))
            rw [hF]
            exact ⟨⟨e.1, e.2.1⟩, e2.2.1, e2.2.2.1, e2.2.2.2⟩
          have LS := Lib.hid (fun W (h : Lo F w6 W) i (hi : i < n0) => h.step HS6 hok6 HM.out hi)
          have HFZ := Lib.hid hFz
          have HF := Lib.hid hF
          have hn64 : n0 ≤ 64 := by have := length_massL s; have := HM.out; have := HSN.out; omega
          clear hF hFz HS6 hok6
          go_wp2_with fail
          go_loopw [12, 13, 14, 66] (fun _ _ _ i wr => ∃ j2 : Nat, j2 ≤ n0 ∧ i = .int .i64 j2 ∧ Lo F w6 wr) (fun _ _ _ i _ => n0 - (intOf i).toNat)
          case atStart => exact ⟨0, Nat.zero_le _, rfl, Lo.refl _ _⟩
          case round =>
            obtain ⟨j2, hj2, rfl, hLo⟩ := hrel
            have HLo := Lib.hid hLo
            clear hLo
            by_cases hlt : j2 < n0
            · obtain ⟨b, at_, nt, ct, as_, ns, cs, rfl, hFb, hbl, hfz, ⟨y, hy⟩, hnt, hns, st1, st2, st3⟩ := LS.out _ HLo.out j2 hlt
              have HY := Lib.hid hy
              have HFb := Lib.hid hFb
              have HST := Lib.hid (And.intro st1 (And.intro st2 st3))
              have hjI : (j2 : Int) < (n0 : Int) := by omega
              have HL9 := Lib.hid (HLo.out.set hFb hy 9)
              obtain ⟨_, g4, _⟩ := st1 _ HL9.out
              clear hFb st1 st2 st3
              go_wp2_with fail
              go_loopw [13, 79] (fun _ i wr => ∃ k : Nat, k ≤ nt ∧ i = .int .i64 k ∧ Lo F w6 wr) (fun _ i _ => nt - (intOf i).toNat)
              case atStart => exact ⟨0, Nat.zero_le _, rfl, HL9.out⟩
              case round =>
                obtain ⟨k, hk, rfl, hLo⟩ := hrel
                have HLo3 := Lib.hid hLo
                clear hLo
                by_cases hlk : k < nt
                · obtain ⟨g, rfl, hFg, hgl, hgz, y3, hy3⟩ := HST.out.2.1 _ HLo3.out k hlk
                  obtain ⟨hbl3, g4', _⟩ := HST.out.1 _ HLo3.out
                  have HL3 := Lib.hid (HLo3.out.set hFg hy3 7)
                  have hkI : (k : Int) < (nt : Int) := by omega
                  clear g4 hfz hy hbl
                  go_wp2_with fail
                  go_roundw
                  case rel => exact ⟨k + 1, hlk, by go_num, HL3.out⟩
                  case measure => simp [intOf]; omega
                · obtain rfl : k = nt := by omega
                  obtain ⟨hbl3, _, g5⟩ := HST.out.1 _ HLo3.out
                  clear g4 hfz hy hbl
                  go_wp2_with fail
                  go_loopw [14, 97] (fun _ i wr => ∃ k : Nat, k ≤ ns ∧ i = .int .i64 k ∧ Lo F w6 wr) (fun _ i _ => ns - (intOf i).toNat)
                  case atStart => exact ⟨0, Nat.zero_le _, rfl, HLo3.out⟩
                  case round =>
                    obtain ⟨k2, hk2, rfl, hLo⟩ := hrel
                    have HLo4 := Lib.hid hLo
                    clear hLo
                    by_cases hlk : k2 < ns
                    · obtain ⟨g, rfl, hFg, hgl, hgz, y3, hy3⟩ := HST.out.2.2 _ HLo4.out k2 hlk
                      obtain ⟨hbl4, _, g5'⟩ := HST.out.1 _ HLo4.out
                      have HL4 := Lib.hid (HLo4.out.set hFg hy3 9)
                      have hkI : (k2 : Int) < (ns : Int) := by omega
                      clear g5 hbl3
                      go_wp2_with fail
                      go_roundw
                      case rel => exact ⟨k2 + 1, hlk, by go_num, HL4.out⟩
                      case measure => simp [intOf]; omega
                    · obtain rfl : k2 = ns := by omega
                      clear g5 hbl3
                      go_wp2_with fail
                      go_roundw
                      case rel => exact ⟨j2 + 1, hlt, by go_num, HLo4.out⟩
                      case measure => simp [intOf]; omega
            · obtain rfl : j2 = n0 := by omega
              have HT7 := Lib.hid ((HT6.out.te.kept HLo.out.kept (fun b e => (HT6.out.old b (by rw [HF.out] at e; exact e.2)).trans (HFZ.out b e))))
              have H47 : SHolds wr (okM w3.heap.size w4) (.slice a4 j2 c4) s := ((H4.out.keptN K45.out).kept HT6.out.kept (fun b o e f => f.1 (HCZ.out b (by have := e.1; have := K3.out.size; omega)))).kept HLo.out.kept (fun b o e f => by rw [HF.out] at f; have := e.2.1; have := f.1; omega)
              have C8 := Lib.hid (steps_any s (by have := HM.out; omega) _ a4 c4 wr (by rw [HSN.out]; exact H47))
              unfold StsEnd at C8
              simp only [HSN.out] at C8
              have HH47 := Lib.hid H47
              clear H47 LS
              go_wp2_with fail
              refine C8.out.mono ?_
              rintro e w8 ⟨a8, c8, rfl, h8, k8⟩
              have K78 := Lib.hid k8
              have HC60 : Hid (∀ b, w5.heap.size ≤ b → w6.heap.size ≤ b → c6 b = 0) := Lib.hid (fun b _ hb => by
                by_cases e : c6 b = 0
                · exact e
                · have := HT6.out.te.low b e; omega)
              have HC6O : Hid (∀ b, w0r.heap.size ≤ b → b < w5.heap.size → c6 b = 0) := Lib.hid (fun b h1 h2 => (HT6.out.old b h2).trans (HCZ.out b h1))
              have s67 := HLo.out.kept.size
              have s56 := HT6.out.kept.size
              have tls1 := HTLS.out.add HRl.out
              have hes1 := addAll_len (chSL s []) es
              have CR := Lib.hid (remove_any (HT7.out.keptN k8) tls1 (by have := HES.out; have := HMC.out; have := HM16.out; omega) (by have := HLSN.out; simp; omega) HRl.out (by simp) (okM wr.heap.size w8) (fun b o hb => ⟨hb.2.1, HC60.out b (by have := hb.1; omega) (by have := hb.1; omega)⟩) a8 c8 (by rw [HSN.out]; exact h8))
              unfold RemEnd at CR
              simp only [HSN.out] at CR
              clear h8 k8 C8 tls1 hes1 s67 s56
              go_wp2_with fail
              refine CR.out.mono ?_
              rintro e w9 ⟨a9, n9, cap9, c9, es2, U2, out, rfl, rI, hI9, hc9, ho9, t9⟩
              have HRI := Lib.hid rI
              have HI9 := Lib.hid hI9
              have HO9 := Lib.hid ho9
              have HT9 := Lib.hid t9
              have HOUT := Lib.hid (back_out HTLS.out HRl.out rI)
              have HALV := Lib.hid (back_all HTLS.out HRl.out rI)
              clear rI hI9 ho9 t9 CR
              have H49 : SHolds w9 (okM w3.heap.size w4) (.slice a4 j2 c4) s := (HH47.out.keptN K78.out).kept HT9.out.kept (fun b o e f => f.1 (HC6O.out b (by have := e.1; have := K3.out.size; omega) (by have := e.2.1; have := K45.out.size; omega)))
              have CC := Lib.hid (refChainsN s (okM w3.heap.size w4) a4 c4 w9 (by rw [HSN.out]; exact H49) (fun b o hb => by
                have h1 := hb.2.1
                have h2 := HT9.out.kept.size
                have h3 := K78.out.size
                have h4 := HLo.out.kept.size
                have h5 := HT6.out.kept.size
                have h6 := K45.out.size
                omega) (by have := HCn.out; omega))
              simp only [HSN.out, HMC.out] at CC
              clear H49
              go_wp2_with fail
              refine CC.out.mono ?_
              rintro e w10 ⟨a10, c10, vals10, rfl, _, _, k10⟩
              have K10 := Lib.hid k10
              have HTA := Lib.hid (HT9.out.te.keptN k10)
              have hes2 : es2.length ≤ 4000 := by
                have h1 := HRI.out.len
                have h2 := addAll_len (chSL s []) es
                have h3 := HMC.out
                have h4 := HM16.out
                have h5 := HES.out
                omega
              have HES2 := Lib.hid hes2
              have CB := Lib.hid (trieAll_any HTA.out hes2 (HALV.out.trans HLW.out))
              simp only [HNW.out] at CB
              clear k10 CC hes2
              go_wp2_with fail
              refine CB.out.mono ?_
              rintro e w11 ⟨a11, c11, rfl, r11, k11⟩
              have K11 := Lib.hid (K10.out.trans k11 (fun _ _ e => e))
              have hW5 : In cNt 1 w5 aw nw lw := ((HIW.out.keptF (cap := cw) K23.out (fun _ _ e => e)).keptF (cap := cw) K34.out (fun _ _ e => e)).keptF (cap := cw) K45.out (fun _ _ e => e)
              have s34 := K34.out.size
              have s23 := K23.out.size
              have s45 := K45.out.size
              have hW8 : In cNt 1 w8 aw nw lw := ((hW5.keptF (cap := cw) HT6.out.kept (fun b e f => f.1 (HCZ.out b (HOW.out b e).1))).keptF (cap := cw) HLo.out.kept (fun b e f => by rw [HF.out] at f; have := (HOW.out b e).2; have := f.1; omega)).keptF (cap := cw) K78.out (fun _ _ e => e)
              have hW11 : In cNt 1 w11 aw nw lw := (hW8.keptF (cap := cw) HT9.out.kept (fun b e f => f.1 (HC6O.out b (HOW.out b e).1 (by have := (HOW.out b e).2; omega)))).keptF (cap := cw) K11.out (fun _ _ e => e)
              have CI := Lib.hid (ints_any (c := c11) (c' := cw) (r11.toIn cNt_len (by decide)) hW11 (by have := HNWN.out; omega) (by have := HNWN.out; omega))
              simp only [decide_true] at CI
              clear r11 k11 CB hW5 hW8 hW11 s34 s23 s45
              go_wp2_with fail
              refine CI.out.mono ?_
              rintro e w12 ⟨rfl, k12⟩
              have K12 := Lib.hid (K11.out.trans k12 (fun _ _ e => e))
              have HTB := Lib.hid (HT9.out.te.keptN K12.out)
              have HI12 := Lib.hid (HI9.out.keptF (cap := cap9) K12.out (fun _ _ e => e))
              have HBD : Hid (∀ x ∈ out, x ≤ 5000) := Lib.hid (fun x hx => by
                rw [HRI.out.out] at hx
                obtain ⟨y, _, rfl⟩ := List.mem_map.1 hx
                have h1 := fnd_lt (es := addAll es (chSL s [])) (c := y)
                have h2 := HRI.out.len
                have h3 := HES2.out
                omega)
              have HUS : Hid (∀ x ∈ out, Calls Try.prog 20 #[.pointer (some ⟨p, 0, none⟩), .int .i64 x] w12 fun e w' => e = .returned (.int .i64 0) ∧ w' = w12) := Lib.hid (fun x hx => by
                have := uses_any HTB.out (n := x) (by have := HBD.out x hx; omega)
                unfold usE at this
                rw [HOUT.out.2 x hx] at this
                exact this)
              have HPW := Lib.hid (List.pairwise_iff_getElem.1 HOUT.out.1)
              have HNO := Lib.hid HI12.out.1
              have HKE : Hid (Kept Nil w w12) := Lib.hid ((((((HK.out.trans K5.out (fun _ _ e => e)).trans HT6.out.kept (fun i hi e => e.1 (HZ.out i hi))).trans HLo.out.kept (fun i hi e => by rw [HF.out] at e; have := e.1; have := HK.out.size; have := K4.out.size; omega)).trans K78.out (fun _ _ e => e)).trans HT9.out.kept (fun i hi e => by
                have h1 := HK.out.size
                have h2 := K5.out.size
                exact e.1 ((HT6.out.old i (by omega)).trans (HZ.out i hi)))).trans K12.out (fun _ _ e => e))
              have hn9b : n9 ≤ 5000 := by
                have h1 := HNO.out
                rw [HRI.out.out, List.length_map] at h1
                have h2 := List.length_filter_le (goes (ls ++ [s]) s) ([] :: chSL s []).reverse
                rw [List.length_reverse, List.length_cons, HMC.out] at h2
                have h3 := HM16.out
                omega
              clear k12 CI
              go_wp2_with fail
              go_loopw [17, 18, 136] (fun _ _ i wr => ∃ j3 : Nat, j3 ≤ n9 ∧ i = .int .i64 j3 ∧ wr = w12) (fun _ _ i _ => n9 - (intOf i).toNat)
              case atStart => exact ⟨0, Nat.zero_le _, rfl, rfl⟩
              case round =>
                obtain ⟨j3, hj3, rfl, hw⟩ := hrel
                subst hw
                by_cases hlt : j3 < n9
                · have hlo : j3 < out.length := by have := HNO.out; omega
                  obtain ⟨x, hx⟩ : ∃ x, out[j3]? = some x := ⟨_, List.getElem?_eq_getElem hlo⟩
                  obtain ⟨b, o, ha9, hb, q⟩ := HI12.out.oneN hx
                  have CU := Lib.hid (HUS.out x (List.mem_of_getElem? hx))
                  have hjI : (j3 : Int) < (n9 : Int) := by omega
                  have hxb := HBD.out x (List.mem_of_getElem? hx)
                  by_cases h0 : j3 = 0
                  · have h1 : decide ((0 : Int) < (j3 : Int)) = false := by simp; omega
                    have h2 : decide (0 < j3) = false := by simp; omega
                    clear h0
                    subst ha9
                    clear hx hlo
                    go_wp2_with fail
                    refine CU.out.mono ?_
                    rintro e w13 ⟨rfl, rfl⟩
                    go_wp2_with fail
                    go_roundw
                    case rel => exact ⟨j3 + 1, hlt, by go_num, by first | rfl | trivial⟩
                    case measure => simp [intOf]; omega
                  · obtain ⟨k, hk⟩ : ∃ k, j3 - 1 = k := ⟨_, rfl⟩
                    have hkI : (j3 : Int) - 1 = (k : Int) := by omega
                    have hkI2 : (k : Int) < (n9 : Int) := by omega
                    have hkI3 : (0 : Int) ≤ (k : Int) := by omega
                    have h1 : decide ((0 : Int) < (j3 : Int)) = true := by simp; omega
                    have h2 : decide (0 < j3) = true := by simp; omega
                    obtain ⟨x', hx'⟩ : ∃ x', out[k]? = some x' := ⟨_, List.getElem?_eq_getElem (by omega)⟩
                    obtain ⟨b', o', ha9', hb', q'⟩ := HI12.out.oneN hx'
                    subst ha9
                    cases ha9'
                    have hlt2 : x < x' := by
                      have h3 := HPW.out k j3 (by omega) hlo (by omega)
                      rw [List.getElem?_eq_getElem (by omega)] at hx hx'
                      cases hx
                      cases hx'
                      exact h3
                    have h4 : decide ((x' : Int) ≤ (x : Int)) = false := by simp; omega
                    have h5 : decide (x' ≤ x) = false := by simp; omega
                    clear hx hx' hlo hb' hk h0 hlt2
                    go_wp2_with fail
                    refine CU.out.mono ?_
                    rintro e w13 ⟨rfl, rfl⟩
                    go_wp2_with fail
                    go_roundw
                    case rel => exact ⟨j3 + 1, hlt, by go_num, by first | rfl | trivial⟩
                    case measure => simp [intOf]; omega
                · obtain rfl : j3 = n9 := by omega
                  go_wp2_with fail
                  refine (HA.out _).mono ?_
                  rintro e w13 ⟨rfl, k13⟩
                  go_wp2_with fail
                  go_ret
                  exact ⟨rfl, HKE.out.trans k13 (fun _ _ e => e)⟩
  · have e1 : decide ((8 : Int) < (n : Int)) = true := by simp; omega
    clear hn8
    go_wp2_with fail
    refine (HA.out _).mono ?_
    rintro e w3 ⟨rfl, k3⟩
    go_wp2_with fail
    go_ret
    exact ⟨rfl, K1.out.trans k3 (fun _ _ e => e)⟩
theorem backD_any (Ls : List (List Sh)) (vals : List SlV) (a : Option Addr) (n cap : Nat) (l0 : List Sh) (a0 : Option Addr) (c0 : Nat) (w : World) (_ : n ≤ cap) (hr : In cV 1 w a n vals) (hs : Lcs w (fun b _ => b < w.heap.size) vals Ls) (hh : Holds cA w (fun b _ => b < w.heap.size) (.slice a0 l0.length c0) l0) :
    Calls Try.prog 3 #[.slice a n cap, .slice a0 l0.length c0] w fun e w' => e = .returned (.bool true) ∧ Kept Nil w w' := back_law Ls _ vals hr hs (fun _ _ h => h) l0 a0 c0 hh
end Go.Proofs.Ytodghgeghpbdlaa
