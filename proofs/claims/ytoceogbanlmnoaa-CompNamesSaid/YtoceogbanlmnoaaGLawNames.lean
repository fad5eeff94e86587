/- CompNames: the walk over the law's own code. -/
import Derived.Test.YtoceogbanlmnoaaGTurned
import Derived.Test.YtoceogbanlmnoaaGG
import Derived.Test.YtoceogbanlmnoaaGD
import Derived.Test.YtoceogbanlmnoaaEFine
namespace Go.Proofs.Ytoceogbanlmnoaa
open Go.RowKit
set_option maxRecDepth 100000

set_option maxHeartbeats 8000000 in
theorem lawNames_any (l : List Sh) (a : Option Addr) (cap : Nat) (k : Int) (hk : 0 ≤ k ∧ k ≤ 255) (w : World) (h : Holds cA w (fun b _ => b < w.heap.size) (.slice a l.length cap) l) :
    Calls Try.prog 6 #[.slice a l.length cap, .int .u8 k] w fun e w' => e = .returned (.bool true) ∧ Kept Nil w w' := by
  have HA := Lib.hid (fun W => awakeComp_any W)
  have CF := Lib.hid (fineL_any l _ a cap w h (fun _ _ h => h))
  unfold YesEnd at CF
  have HH := Lib.hid h
  obtain ⟨b, hb⟩ : ∃ b, b = k.tmod 32 := ⟨_, rfl⟩
  have hbe : b = k % 32 := by rw [hb, Int.tmod_eq_emod_of_nonneg hk.1]
  have hb0 : 0 ≤ b := by omega
  have hb1 : b < 32 := by omega
  have ht : k.tmod 32 = b := hb.symm
  have hwk : IntKind.i64.wrap k = k := by rw [IntKind.wrap_i64]; omega
  clear hb hbe
  obtain ⟨len, hlen⟩ : ∃ len, l.length = len := ⟨_, rfl⟩
  rw [hlen] at CF HH ⊢
  have HL := Lib.hid hlen
  clear h hlen
  go_enter Try.func6, Try.ntmps6
  go_wp2_with fail
  refine CF.out.mono ?_
  rintro e w1 ⟨bb, rfl, k1, hbb⟩
  have K1 := Lib.hid k1
  have HB := Lib.hid hbb
  clear k1 hbb CF
  cases bb
  · go_wp2_with fail
    refine (HA.out _).mono ?_
    rintro e w3 ⟨rfl, k3⟩
    go_wp2_with fail
    go_ret
    exact ⟨rfl, K1.out.trans k3 (fun _ _ g => g)⟩
  · have HG : Hid (Goes l) := Lib.hid (HB.out rfl)
    have hl16 : len ≤ 16 := by have := length_countL l; have := HG.out.1; have := HL.out; omega
    clear HB
    have HM : Hid (massL (stL l []) ≤ 5000) := Lib.hid (by have := st_mass.2 l []; have := HG.out.1; omega)
    have CC : Hid (∀ W, Kept Nil w W → Calls Try.prog 10 #[.slice a len cap] W fun e w' => ∃ a cap, e = .returned (.slice a len cap) ∧ SHolds w' (okM W.heap.size w') (.slice a len cap) (stL l []) ∧ Kept Nil W w') := Lib.hid fun W kW => by
      have := compile_any l HG.out _ a cap W (by rw [HL.out]; exact HH.out.keptN kW)
      unfold StsEnd at this
      rw [stL_length, HL.out] at this
      exact this
    have CO : Hid (∀ W ok a cap, Holds cA W ok (.slice a len cap) (turnL b l) → Calls Try.prog 10 #[.slice a len cap] W fun e w' => ∃ a cap, e = .returned (.slice a len cap) ∧ SHolds w' (okM W.heap.size w') (.slice a len cap) (stL l []) ∧ Kept Nil W w') := Lib.hid fun W ok a cap hh => by
      have hlt : (turnL b l).length = len := by rw [turnL_length, HL.out]
      have := compile_any (turnL b l) ⟨by rw [(count_turn b).2]; exact HG.out.1, by rw [(chk_turn b).2]; exact HG.out.2⟩ ok a cap W (by rw [hlt]; exact hh)
      unfold StsEnd at this
      rw [stL_length, hlt, stL_turn b l ⟨1, HG.out.2⟩] at this
      exact this
    have CR : Hid (∀ W ok a cap, SHolds W ok (.slice a len cap) (stL l []) → Calls Try.prog 12 #[.slice a len cap] W fun e w' => ∃ a cap, e = .returned (.slice a len cap) ∧ SHolds w' (okM W.heap.size w') (.slice a len cap) (stL l []) ∧ Kept Nil W w') := Lib.hid fun W ok a cap hh => by
      have := refs_any (stL l []) HM.out ok a cap W (by rw [stL_length, HL.out]; exact hh)
      unfold StsEnd at this
      rw [stL_length, HL.out] at this
      exact this
    have CA : Hid (∀ W ok ok' a a' cap cap', SHolds W ok (.slice a len cap) (stL l []) → SHolds W ok' (.slice a' len cap') (stL l []) → Calls Try.prog 11 #[.slice a len cap, .slice a' len cap'] W fun e w' => e = .returned (.bool true) ∧ Kept Nil W w') := Lib.hid fun W ok ok' a a' cap cap' x y => by
      have := all_any (stL l []) (stL l []) HM.out HM.out ok ok' a a' cap cap' W (by rw [stL_length, HL.out]; exact x) (by rw [stL_length, HL.out]; exact y)
      rw [stL_length, HL.out, sameSL_refl] at this
      exact this
    have CT : Hid (∀ x ∈ l, ∀ ok a cap w, Holds cA w ok (.slice a x.subs.length cap) x.subs → Calls Try.prog 28 #[vA x.hd (.slice a x.subs.length cap), .int .i64 b] w (TurnEnd b x.hd x.subs w)) := Lib.hid fun x hx ok a cap w hh => turned_any b hb0 hb1 x (by have := count_mem hx; have := HG.out.1; omega) ⟨1, chkL_all.1 HG.out.2 _ hx⟩ ok a cap w hh
    have HH1 := Lib.hid (HH.out.keptN K1.out)
    clear hb0 hb1 HG HM
    go_wp2_with fail
    go_loopw [5, 14] (fun v i wr => ∃ (j : Nat) (ps : List (Sh × Value)), j ≤ len ∧ i = .int .i64 j ∧ ps.map (·.1) = (l.take j).map (Sh.turn b) ∧ Kept Nil w1 wr ∧ CRow cA 27 wr w1.heap.size v ps) (fun _ i _ => len - (intOf i).toNat)
    case atStart => exact ⟨0, [], by omega, rfl, rfl, Kept.refl _ _, .nil _ _ _ _⟩
    case round =>
      obtain ⟨j, ps, hj, rfl, hps, hK, hCr⟩ := hrel
      have HK := Lib.hid hK
      have HCr := Lib.hid hCr
      have HP := Lib.hid hps
      clear hK hCr hps
      obtain ⟨av, capv, hv⟩ := HCr.out.shape
      have HPL : Hid (ps.length ≤ 5000) := Lib.hid (by have := congrArg List.length HP.out; rw [List.length_map, List.length_map, List.length_take] at this; omega)
      by_cases hlt : j < len
      · obtain ⟨⟨⟨k', x0', x1', x2', n0', n1', n2'⟩, sb⟩, hx⟩ : ∃ x, l[j]? = some x := ⟨_, List.getElem?_eq_getElem (by have := HL.out; omega)⟩
        obtain ⟨bb, o, a', cap', rfl, hok, hr, hs⟩ := (HH1.out.keptN HK.out).at_ hx
        have HX2 : Hid (∀ ok w, Holds cA w ok (.slice a' sb.length cap') sb → Calls Try.prog 28 #[vA ⟨k', x0', x1', x2', n0', n1', n2'⟩ (.slice a' sb.length cap'), .int .i64 b] w fun e w' => ∃ a2 c2, e = .returned (vA ((⟨k', x0', x1', x2', n0', n1', n2'⟩ : Hd).turn b) (.slice a2 sb.length c2)) ∧ Holds cA w' (okM w.heap.size w') (.slice a2 sb.length c2) (turnL b sb) ∧ Kept Nil w w') := Lib.hid fun ok w hh => CT.out (.mk ⟨k', x0', x1', x2', n0', n1', n2'⟩ sb) (List.mem_of_getElem? hx) ok a' cap' w hh
        have HRow := Lib.hid hr
        have HS := Lib.hid hs
        have HN : Hid ((l.take (j + 1)).map (Sh.turn b) = (l.take j).map (Sh.turn b) ++ [Sh.mk ((⟨k', x0', x1', x2', n0', n1', n2'⟩ : Hd).turn b) (turnL b sb)]) := Lib.hid (by rw [List.take_add_one, hx, List.map_append]; simp [turn_mk])
        clear hx hr hs hok CT
        generalize hth : (⟨k', x0', x1', x2', n0', n1', n2'⟩ : Hd).turn b = th at HX2 HN
        clear hth
        generalize turnL b sb = tsb at HX2 HN
        generalize sb.length = len' at HRow HS HX2
        obtain ⟨tk, y0, y1, y2, q0, q1, q2⟩ := th
        subst hv
        go_wp2_with ((with_reducible refine wpList_load_A rfl (.tmp 16) rfl _ _ rfl ⟨k', x0', x1', x2', n0', n1', n2'⟩ (.slice a' len' cap') ?_ ?_)
                     · exact HRow.out)
        refine (HX2.out _ _ (HS.out.keptN ((Kept.refl Nil _).alloc _))).mono ?_
        rintro e w2 ⟨a2, c2, rfl, h2, k2⟩
        have k12 : Kept Nil wr w2 := ((Kept.refl Nil wr).alloc _).trans k2 (fun _ _ g => g)
        have ka := (Kept.refl Nil w2).alloc (.cells (arrA ⟨tk, y0, y1, y2, q0, q1, q2⟩ (.slice a2 len' c2)) 27)
        have hB2 : Blk (w2.alloc (.cells (arrA ⟨tk, y0, y1, y2, q0, q1, q2⟩ (.slice a2 len' c2)) 27)) w2.heap.size 27 (arrA ⟨tk, y0, y1, y2, q0, q1, q2⟩ (.slice a2 len' c2)) := Blk.new _ _ _
        have hsz := k2.size
        have hsz2 := k12.size
        have hsz1 := HK.out.size
        simp at hsz
        obtain ⟨g, cap3, w3, r3, cr3, k3⟩ := appendA ((HCr.out.kept k12).kept ka) (by have := HPL.out; omega) (by simp; omega) (.mk ⟨tk, y0, y1, y2, q0, q1, q2⟩ tsb) (.slice a2 len' c2) w2.heap.size (fun i x hi => by
          rw [hB2.cell i]
          change (cA ⟨tk, y0, y1, y2, q0, q1, q2⟩ (.slice a2 len' c2))[i]? = some x at hi
          simpa using hi)
          ((h2.keptN ka).mono (fun b' o hb' => ⟨(hb'.kept ka id).less (by simp; omega), fun eo => by have := HCr.out.lt b' eo; have := hb'.1; simp at this; omega⟩))
        have HOwn := Lib.hid (fun i (hi : (Value.slice av ps.length capv).ownBlock = some i) => HCr.out.base i hi)
        have FR := Lib.hid (((HK.out.trans k12 (fun _ _ g => g)).trans ka (fun _ _ g => g)).trans k3 (fun i hi eo => by have := HOwn.out i eo; omega))
        have FC := Lib.hid cr3
        have R3 := Lib.hid r3
        clear k12 ka hB2 hsz hsz2 hsz1 h2 k2 r3 cr3 k3 HOwn
        go_wp2_with (at_builtin; refine wpList_append_run rfl (.tmp 18) (.tmp 24) 22 rfl _ _ rfl rfl R3.out ?_)
        go_roundw
        case rel =>
          refine ⟨j + 1, ps ++ [(.mk ⟨tk, y0, y1, y2, q0, q1, q2⟩ tsb, .slice a2 len' c2)], by omega, by go_num, ?_, FR.out, ?_⟩
          · rw [List.map_append, HP.out, HN.out]; rfl
          · exact FC.out
        case measure => simp [intOf]; omega
      · obtain rfl : j = len := by omega
        have HE : Hid (ps.map (·.1) = turnL b l) := Lib.hid (by rw [HP.out, ← HL.out, List.take_length, turnL_eq])
        have HPl : Hid (ps.length = j) := Lib.hid (by have := congrArg List.length HE.out; rw [List.length_map, turnL_length] at this; rw [this]; exact HL.out)
        have hh := HCr.out.holds kindA
        rw [HE.out, hv, HPl.out] at hh
        rw [HPl.out] at hv
        subst hv
        have HT := Lib.hid hh
        clear hh CT HCr
        go_wp2_with fail
        refine (CC.out _ (K1.out.trans HK.out (fun _ _ g => g))).mono ?_
        rintro e w4 ⟨a4, c4, rfl, h4, k4⟩
        have H4 := Lib.hid h4
        have K4 := Lib.hid k4
        clear h4 k4 CC
        go_wp2_with fail
        refine (CR.out _ _ _ _ H4.out).mono ?_
        rintro e w5 ⟨a5, c5, rfl, h5, k5⟩
        have H5 := Lib.hid h5
        have K5 := Lib.hid (K4.out.trans k5 (fun _ _ g => g))
        clear h5 k5 H4 K4
        go_wp2_with fail
        refine (CO.out _ _ _ _ (HT.out.keptN K5.out)).mono ?_
        rintro e w6 ⟨a6, c6, rfl, h6, k6⟩
        have H6 := Lib.hid h6
        have K6 := Lib.hid k6
        clear h6 k6 CO
        go_wp2_with fail
        refine (CR.out _ _ _ _ H6.out).mono ?_
        rintro e w7 ⟨a7, c7, rfl, h7, k7⟩
        have H7 := Lib.hid h7
        have K7 := Lib.hid (K6.out.trans k7 (fun _ _ g => g))
        clear h7 k7 H6 K6 CR
        go_wp2_with fail
        refine (CA.out _ _ _ _ _ _ _ (H5.out.keptN K7.out) H7.out).mono ?_
        rintro e w8 ⟨rfl, k8⟩
        have K8 := Lib.hid (((K1.out.trans HK.out (fun _ _ g => g)).trans K5.out (fun _ _ g => g)).trans (K7.out.trans k8 (fun _ _ g => g)) (fun _ _ g => g))
        clear k8
        go_wp2_with fail
        refine (HA.out _).mono ?_
        rintro e w9 ⟨rfl, k9⟩
        go_wp2_with fail
        go_ret
        exact ⟨rfl, K8.out.trans k9 (fun _ _ g => g)⟩
end Go.Proofs.Ytoceogbanlmnoaa
