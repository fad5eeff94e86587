/- Layer rule: the reference's Check of a rule. -/
import Derived.Test.YtpdofapbbpihlaaDSym
import Derived.Test.YtpdofapbbpihlaaDOut
namespace Go.Proofs.Ytpdofapbbpihlaa
open Go.RowKit

/-- A rule as a value; its cells. -/
abbrev vRule (nm : ByteArray) (v : Value) : Value := .agg #[.string nm, v]
theorem chkL_sizes {l : List Sh} {j : Nat} {x : Sh} (h : l[j]? = some x) : countL (l.drop j) = x.count + countL (l.drop (j + 1)) := by
  obtain ⟨hl, e⟩ := List.getElem?_eq_some_iff.1 h
  rw [List.drop_eq_getElem_cons hl, e]
  rfl
set_option maxHeartbeats 2000000 in
theorem refRule_any (nm : ByteArray) (hnm : nm.size ≤ maxLen) (l : List Sh) (hc : countL l ≤ 4999) (ok : Nat → Nat → Prop) (a : Option Addr) (cap : Nat) (w : World) (h : Holds cR w ok (.slice a l.length cap) l) :
    Calls Try.prog 10 #[vRule nm (.slice a l.length cap)] w fun e w' => e = .returned (.int .i64 (chkRule (okName nm) l)) ∧ Kept Nil w w' := by
  have CN := Lib.hid (fun W => refName_any nm W hnm)
  have HH := Lib.hid h
  have HC := Lib.hid hc
  have HV : Hid (chkRule (okName nm) l = if okName nm = false then 1 else if l.length = 0 then 2 else if chkL l 1 ≠ 0 then chkL l 1 else if 16 < countL l then 7 else if outAny l 32 = true then 6 else 0) := Lib.hid rfl
  have CO := Lib.hid (fun W (kW : Kept Nil w W) (v : Int) => refOut_any v l hc ok a cap W (h.keptN kW))
  generalize chkRule (okName nm) l = res at HV ⊢
  generalize okName nm = nmok at CN HV
  obtain ⟨len, hlen⟩ : ∃ len, l.length = len := ⟨_, rfl⟩
  rw [hlen] at HH HV CO ⊢
  have HL := Lib.hid hlen
  have hLen : len ≤ 4999 := by have := length_countL l; omega
  clear h hc hlen hnm
  have B0 := Lib.hid (Blk.new w 32 #[.string nm, .slice a len cap])
  have K0 := Lib.hid ((Kept.refl Nil w).alloc (.cells #[.string nm, .slice a len cap] 32))
  go_enter Try.func10, Try.ntmps10
  go_wp2_with fail
  refine (CN.out _).mono ?_
  rintro e w1 ⟨rfl, rfl⟩
  cases nmok
  · go_wp2_with fail
    go_ret
    exact ⟨by rw [HV.out]; rfl, K0.out⟩
  · rcases Nat.eq_zero_or_pos len with rfl | hpos
    · go_wp2_with fail
      go_ret
      exact ⟨by rw [HV.out]; rfl, K0.out⟩
    · have h0' : ((len : Int) == 0) = false := by simp; omega
      have HV2 : Hid (res = if chkL l 1 ≠ 0 then chkL l 1 else if 16 < countL l then 7 else if outAny l 32 = true then 6 else 0) := Lib.hid (by rw [HV.out]; simp [show len ≠ 0 by omega])
      clear HV
      go_wp2_with fail
      go_loopw [3, 19] (fun n i wr => ∃ j : Nat, j ≤ len ∧ i = .int .i64 j ∧ chkL l 1 = chkL (l.drop j) 1 ∧ n = .int .i64 ((countL (l.take j) : Nat) : Int) ∧ Kept Nil w wr ∧ Blk wr w.heap.size 32 #[.string nm, .slice a len cap]) (fun _ i _ => len - (intOf i).toNat)
      case atStart => exact ⟨0, by omega, rfl, rfl, rfl, K0.out, B0.out⟩
      case round =>
        obtain ⟨j, hj, rfl, hch, rfl, hK, hB⟩ := hrel
        have HK := Lib.hid hK
        have HB := Lib.hid hB
        have HCh := Lib.hid hch
        clear hK hB hch K0 B0
        by_cases hlt : j < len
        · obtain ⟨⟨⟨k', x0', x1', x2', n0', n1', n2'⟩, sb⟩, hx⟩ : ∃ x, l[j]? = some x := ⟨_, List.getElem?_eq_getElem (by have := HL.out; omega)⟩
          obtain ⟨b, o, a', cap', rfl, hok, hr, hs⟩ := (HH.out.keptN HK.out).at_ hx
          have hcx : (Sh.mk ⟨k', x0', x1', x2', n0', n1', n2'⟩ sb).count ≤ 5000 := mem_count (by have := HC.out; omega) (List.mem_of_getElem? hx)
          have HX : Hid (∀ W, Kept Nil wr W → Calls Try.prog 25 #[vR ⟨k', x0', x1', x2', n0', n1', n2'⟩ (.slice a' sb.length cap'), .int .i64 1] W fun e w' => e = .returned (.int .i64 ((Sh.mk ⟨k', x0', x1', x2', n0', n1', n2'⟩ sb).chk 1)) ∧ Kept Nil W w') := Lib.hid fun W kW => refCheck_any (.mk ⟨k', x0', x1', x2', n0', n1', n2'⟩ sb) hcx ok a' cap' W 1 (by omega) (hs.keptN kW)
          have HZ : Hid (∀ W, Kept Nil wr W → Calls Try.prog 26 #[vR ⟨k', x0', x1', x2', n0', n1', n2'⟩ (.slice a' sb.length cap')] W fun e w' => e = .returned (.int .i64 ((Sh.mk ⟨k', x0', x1', x2', n0', n1', n2'⟩ sb).count : Int)) ∧ Kept Nil W w') := Lib.hid fun W kW => refSize_any (.mk ⟨k', x0', x1', x2', n0', n1', n2'⟩ sb) hcx ok a' cap' W (hs.keptN kW)
          have HR := Lib.hid hr
          have HN := Lib.hid (chkL_drop hx 1)
          have HS := Lib.hid (countL_take_succ hx)
          have HB5 := Lib.hid (countL_take_le l (j + 1))
          clear hx hr hs hok hcx
          generalize (Sh.mk ⟨k', x0', x1', x2', n0', n1', n2'⟩ sb).chk 1 = q at HX HN
          generalize hcn : countL (l.take j) = cn at HS
          clear hcn
          generalize (Sh.mk ⟨k', x0', x1', x2', n0', n1', n2'⟩ sb).count = cx at HZ HS
          have hsum : cn + cx ≤ 4999 := by have := HS.out; have := HB5.out; have := HC.out; omega
          generalize sb.length = len' at HR HX HZ
          have BK := Lib.hid (Blk.new wr 59 (arrR ⟨k', x0', x1', x2', n0', n1', n2'⟩ (.slice a' len' cap')))
          go_wp2_with ((with_reducible refine wpList_load_R rfl (.tmp 21) rfl _ _ rfl ⟨k', x0', x1', x2', n0', n1', n2'⟩ (.slice a' len' cap') ?_ ?_)
                       · exact HR.out)
          refine (HX.out _ ((Kept.refl Nil wr).alloc _)).mono ?_
          rintro e w2 ⟨rfl, k2⟩
          have BK2 := Lib.hid (BK.out.kept k2 id)
          have K2 := Lib.hid (((Kept.refl Nil wr).alloc _).trans k2 (fun _ _ g => g))
          clear k2 BK
          by_cases hq : q = 0
          · subst hq
            go_wp2_with ((with_reducible refine wpList_load_R rfl (.tmp 5) rfl _ _ rfl ⟨k', x0', x1', x2', n0', n1', n2'⟩ (.slice a' len' cap') ?_ ?_)
                         · exact World.rangeAt_of_block BK2.out 0 8)
            refine (HZ.out _ K2.out).mono ?_
            rintro e w3 ⟨rfl, k3⟩
            have K3 := Lib.hid (K2.out.trans k3 (fun _ _ g => g))
            clear k3
            go_wp2_with fail
            go_roundw
            case rel => exact ⟨j + 1, by omega, by go_num, by rw [HCh.out, HN.out]; simp, by rw [HS.out]; go_num, HK.out.trans K3.out (fun _ _ g => g), HB.out.kept K3.out id⟩
            case measure => simp [intOf]; omega
          · have hq' : (q == 0) = false := by simpa using hq
            have HQ := Lib.hid hq
            clear hq
            go_wp2_with fail
            go_ret
            exact ⟨by rw [HV2.out, HCh.out, HN.out]; simp [HQ.out], HK.out.trans K2.out (fun _ _ g => g)⟩
        · obtain rfl : j = len := by omega
          have HE : Hid (chkL l 1 = 0) := Lib.hid (by rw [HCh.out, ← HL.out, List.drop_length]; rfl)
          have HE2 : Hid (l.take j = l) := Lib.hid (by rw [← HL.out]; simp)
          rw [HE2.out]
          have HV3 : Hid (res = if 16 < countL l then 7 else if outAny l 32 = true then 6 else 0) := Lib.hid (by rw [HV2.out, HE.out]; simp)
          generalize hcl : countL l = cl at HV3 HC
          have hcl5 : cl ≤ 4999 := HC.out
          clear hcl HV2
          by_cases h16 : 16 < cl
          · go_wp2_with fail
            go_ret
            exact ⟨by rw [HV3.out]; simp [h16], HK.out⟩
          · have h16' : decide ((16 : Int) < (cl : Int)) = false := decide_eq_false (by omega)
            have HV4 : Hid (res = if outAny l 32 = true then 6 else 0) := Lib.hid (by rw [HV3.out]; simp [h16])
            have HO0 : Hid (outAny l 0 = false) := Lib.hid rfl
            clear HV3
            go_wp2_with fail
            go_loopw [7] (fun i wr => ∃ n : Nat, n ≤ 32 ∧ i = .int .i64 ((n : Int) + 1) ∧ outAny l n = false ∧ Kept Nil w wr ∧ Blk wr w.heap.size 32 #[.string nm, .slice a j cap]) (fun i _ => 33 - (intOf i).toNat)
            case atStart => exact ⟨0, by omega, rfl, HO0.out, HK.out, HB.out⟩
            case round =>
              obtain ⟨n, hn, rfl, hout, hK2, hB2⟩ := hrel
              have HK2 := Lib.hid hK2
              have HB2 := Lib.hid hB2
              have HOut := Lib.hid hout
              have c1 := hB2.cell 1
              simp at c1
              clear hK2 hB2 hout
              by_cases h32 : n < 32
              · have HS := Lib.hid (outAny_succ l n)
                have CO2 := Lib.hid (fun W kW => CO.out W kW ((n : Int) + 1))
                generalize outL l ((n : Int) + 1) = oo at HS CO2
                go_wp2_with fail
                refine (CO2.out _ HK2.out).mono ?_
                rintro e w5 ⟨rfl, k5⟩
                have K5 := Lib.hid (HK2.out.trans k5 (fun _ _ g => g))
                have B5 := Lib.hid (HB2.out.kept k5 id)
                clear k5 c1
                by_cases ho : oo = 1
                · subst ho
                  have HT : Hid (outAny l 32 = true) := Lib.hid (by
                    obtain ⟨v, g1, g2, g3⟩ := outAny_iff.1 (show outAny l (n + 1) = true by rw [HS.out]; simp)
                    exact outAny_iff.2 ⟨v, g1, by omega, g3⟩)
                  go_wp2_with fail
                  go_ret
                  exact ⟨by rw [HV4.out, HT.out]; rfl, K5.out⟩
                · have ho' : (oo == 1) = false := by simpa using ho
                  have HS2 : Hid (outAny l (n + 1) = false) := Lib.hid (by rw [HS.out, HOut.out]; simp [ho])
                  clear ho
                  go_wp2_with fail
                  go_roundw
                  case rel => exact ⟨n + 1, by omega, by go_num, HS2.out, K5.out, B5.out⟩
                  case measure => simp [intOf]; omega
              · obtain rfl : n = 32 := by omega
                go_wp2_with fail
                go_ret
                exact ⟨by rw [HV4.out, HOut.out]; rfl, HK2.out⟩
end Go.Proofs.Ytpdofapbbpihlaa
