/- CompChains: the walk over the law's own code, given the reference's Of. -/
import Derived.Test.YtoceogbanlmnoaaGRefCo
import Derived.Test.YtoceogbanlmnoaaGG
import Derived.Test.YtoceogbanlmnoaaGD
import Derived.Test.YtoceogbanlmnoaaGH
import Derived.Test.YtoceogbanlmnoaaEFine
import Derived.Test.YtoceogbanlmnoaaERef
import Derived.Deep.RegionHeld3
namespace Go.Proofs.Ytoceogbanlmnoaa
open Go.RowKit
set_option maxRecDepth 100000

/-- What is read in a region of this law: two cells; and nothing that was there has changed. -/
abbrev SeenLS (w0 : World) (g i : Nat) (v : Value) (g' i' : Nat) (v' : Value) (w' : World) : Prop := w'.cell? ⟨g, i, none⟩ = some v ∧ w'.cell? ⟨g', i', none⟩ = some v' ∧ Kept Nil w0 w'
theorem seenLS_kept {w0 w w' : World} {g i : Nat} {v : Value} {g' i' : Nat} {v' : Value} (kk : Kept Nil w w') (h : SeenLS w0 g i v g' i' v' w) : SeenLS w0 g i v g' i' v' w' := ⟨kk.cellOf h.1, kk.cellOf h.2.1, h.2.2.trans kk (fun _ _ g => g)⟩
theorem seenLS_k {w0 w : World} {g i : Nat} {v : Value} {g' i' : Nat} {v' : Value} (h : SeenLS w0 g i v g' i' v' w) : Kept Nil w0 w := h.2.2
set_option maxHeartbeats 8000000 in
theorem lawStChains_of (hOf : ∀ s, OfS s) (l : List Sh) (a : Option Addr) (cap : Nat) (w : World) (h : Holds cA w (fun b _ => b < w.heap.size) (.slice a l.length cap) l) :
    Calls Try.prog 5 #[.slice a l.length cap] w fun e w' => e = .returned (.bool true) ∧ Kept Nil w w' := by
  have HA := Lib.hid (fun W => awakeComp_any W)
  have CF := Lib.hid (fineL_any l _ a cap w h (fun _ _ h => h))
  unfold YesEnd at CF
  have HH := Lib.hid h
  obtain ⟨len, hlen⟩ : ∃ len, l.length = len := ⟨_, rfl⟩
  rw [hlen] at CF HH ⊢
  have HL := Lib.hid hlen
  have hOf' := Lib.hid hOf
  clear h hlen hOf
  go_enter Try.func5, Try.ntmps5
  go_wp2_with fail
  refine CF.out.mono ?_
  rintro e w1 ⟨b, rfl, k1, hb⟩
  have K1 := Lib.hid k1
  have HB := Lib.hid hb
  clear k1 hb CF
  cases b
  · go_wp2_with fail
    refine (HA.out _).mono ?_
    rintro e w3 ⟨rfl, k3⟩
    go_wp2_with fail
    go_ret
    exact ⟨rfl, K1.out.trans k3 (fun _ _ g => g)⟩
  · have HG : Hid (Goes l) := Lib.hid (HB.out rfl)
    clear HB
    have HM : Hid (massL (stL l []) ≤ 64) := Lib.hid (by have := st_mass.2 l []; have := HG.out.1; omega)
    have HCn : Hid (cntL (stL l []) ≤ 16) := Lib.hid (by have := st_cnt.2 l []; have := HG.out.1; omega)
    have HSL : Hid ((stL l []).length = len) := Lib.hid (by rw [stL_length]; exact HL.out)
    have C6 : Hid (∀ W, Kept Nil w W → Calls Try.prog 14 #[.slice a len cap] W fun e w' => ∃ a' cap', e = .returned (.slice a' len cap') ∧ Holds cR w' (okM W.heap.size w') (.slice a' len cap') l ∧ Kept Nil W w') := Lib.hid fun W kW => by
      have := refL_any l (by have := HG.out.1; omega) _ a cap W (by rw [HL.out]; exact HH.out.keptN kW)
      unfold ListEnd at this
      rw [HL.out] at this
      exact this
    have CO : Hid (∀ W ok a cap, Holds cR W ok (.slice a len cap) l → Calls Try.prog 13 #[.slice a len cap] W fun e w' => ∃ a cap, e = .returned (.slice a len cap) ∧ SHolds w' (okM W.heap.size w') (.slice a len cap) (stL l []) ∧ Kept Nil W w') := Lib.hid fun W ok a cap hh => by
      have := refCompile_of hOf'.out l HG.out ok a cap W (by rw [HL.out]; exact hh)
      unfold StsEnd at this
      rw [stL_length, HL.out] at this
      exact this
    have CS : Hid (∀ W ok a cap, SHolds W ok (.slice a len cap) (stL l []) → Calls Try.prog 26 #[.slice a len cap] W fun e w' => ∃ a cap, e = .returned (.slice a len cap) ∧ SHolds w' (okM W.heap.size w') (.slice a len cap) (stL l []) ∧ Kept Nil W w') := Lib.hid fun W ok a cap hh => by
      have := steps_any (stL l []) (by have := HM.out; omega) ok a cap W (by rw [HSL.out]; exact hh)
      unfold StsEnd at this
      rw [HSL.out] at this
      exact this
    have CC : Hid (∀ W ok a cap, SHolds W ok (.slice a len cap) (stL l []) → (∀ b o, ok b o → b < W.heap.size) → Calls Try.prog 25 #[.slice a len cap] W fun e w' => ∃ a' n' c', e = .returned (.slice a' n' c') ∧ ListsS w' (fun b _ => b < w'.heap.size) (.slice a' n' c') (chSL (stL l []) []) ∧ Kept Nil W w') := Lib.hid fun W ok a cap hh hok => by
      have := stChains_any (stL l []) (by have := HM.out; omega) (stL_right (ch := []) HG.out.2 (by have := HG.out.1; simp; omega)) ok a cap W (by rw [HSL.out]; exact hh) hok
      rw [HSL.out] at this
      exact this
    have CQ : Hid (∀ W ok a cap, SHolds W ok (.slice a len cap) (stL l []) → (∀ b o, ok b o → b < W.heap.size) → Calls Try.prog 27 #[.slice none 0 0, .slice a len cap] W fun e w' => ∃ r, e = .returned r ∧ ListsS w' (fun b _ => b < w'.heap.size) r (chSL (stL l []) []) ∧ Kept Nil W w') := Lib.hid fun W ok a cap hh hok => by
      have := refSChains_any (stL l []) ok a cap W (by rw [HSL.out]; exact hh) hok (by have := HCn.out; omega)
      rw [HSL.out] at this
      exact this
    have HLc : Hid (∀ x, x ∈ chSL (stL l []) [] → massL x ≤ 64) := Lib.hid fun x hx => Nat.le_trans (chainS_mass hx) HM.out
    have HLn : Hid ((chSL (stL l []) []).length ≤ 16) := Lib.hid (Nat.le_trans (chSL_len_le.2 (stL l []) []) HCn.out)
    clear HM HCn HSL
    go_wp2_with fail
    refine (C6.out _ K1.out).mono ?_
    rintro e w2 ⟨a2, c2, rfl, h2, k2⟩
    have K2 := Lib.hid (K1.out.trans k2 (fun _ _ g => g))
    have H2 := Lib.hid h2
    clear k2 h2 C6
    go_wp2_with fail
    refine (CO.out _ _ _ _ H2.out).mono ?_
    rintro e w3 ⟨a3, c3, rfl, h3, k3⟩
    have K3 := Lib.hid (K2.out.trans k3 (fun _ _ g => g))
    have H3 := Lib.hid h3
    clear k3 h3 CO H2
    go_wp2_with fail
    refine (CS.out _ _ _ _ H3.out).mono ?_
    rintro e w4 ⟨a4, c4, rfl, h4, k4⟩
    have K4 := Lib.hid (K3.out.trans k4 (fun _ _ g => g))
    have H4 := Lib.hid h4
    have H34 := Lib.hid (H3.out.keptN k4)
    have S34 := Lib.hid k4.size
    clear k4 h4 CS H3
    go_wp2_with fail
    refine (CC.out _ _ _ _ H4.out (fun b o hb => hb.2.1)).mono ?_
    rintro e w5 ⟨a5, n5, c5, rfl, h5, k5⟩
    have K5 := Lib.hid (K4.out.trans k5 (fun _ _ g => g))
    have L5 := Lib.hid h5
    have H35 := Lib.hid (H34.out.keptN k5)
    have S35 := Lib.hid (Nat.le_trans S34.out k5.size)
    clear k5 h5 CC H4 H34 S34
    go_wp2_with fail
    refine (CQ.out _ _ _ _ H35.out (fun b o hb => Nat.lt_of_lt_of_le hb.2.1 S35.out)).mono ?_
    rintro e w6 ⟨r, rfl, h6, k6⟩
    have K6 := Lib.hid (K5.out.trans k6 (fun _ _ g => g))
    obtain ⟨a6, c6, rfl, _, f6⟩ := h6
    obtain ⟨a5', c5', e5, _, f5⟩ := L5.out.kept k6
    cases e5
    have F6 := Lib.hid f6
    have F5 := Lib.hid f5
    clear k6 f6 f5 CQ L5 H35 S35
    obtain ⟨N, hN⟩ : ∃ N, (chSL (stL l []) []).length = N := ⟨_, rfl⟩
    have hN16 : N ≤ 16 := by have := HLn.out; omega
    rw [hN]
    have HN := Lib.hid hN
    clear hN
    go_wp2_with fail
    go_loopw [26] (fun i wr => ∃ j : Nat, j ≤ N ∧ i = .int .i64 j ∧ Kept Nil w6 wr) (fun i _ => N - (intOf i).toNat)
    case atStart => exact ⟨0, by omega, rfl, Kept.refl _ _⟩
    case round =>
      obtain ⟨j, hj, rfl, hK⟩ := hrel
      have HK := Lib.hid hK
      clear hK
      by_cases hlt : j < N
      · obtain ⟨x, hx⟩ : ∃ x, (chSL (stL l []) [])[j]? = some x := ⟨_, List.getElem?_eq_getElem (by have := HN.out; omega)⟩
        have hxc : massL x ≤ 5000 := by have := HLc.out x (List.mem_of_getElem? hx); omega
        obtain ⟨g2, b2, d2, rfl, z2, y2⟩ := F5.out j x hx
        obtain ⟨g4, b4, d4, rfl, z4, y4⟩ := F6.out j x hx
        have CR : Hid (∀ W, Kept Nil w6 W → Calls Try.prog 12 #[.slice b2 x.length d2] W (StsEnd x W)) := Lib.hid fun W k => refs_any x hxc _ b2 d2 W (y2.keptN k)
        have CT : Hid (∀ W ok' a' cap', Kept Nil w6 W → SHolds W ok' (.slice a' x.length cap') x → Calls Try.prog 11 #[.slice a' x.length cap', .slice b4 x.length d4] W fun e w' => e = .returned (.bool true) ∧ Kept Nil W w') := Lib.hid fun W ok' a' cap' k hh => by
          have := all_any x x hxc hxc ok' _ a' b4 cap' d4 W hh (y4.keptN k)
          rw [sameSL_refl] at this
          exact this
        have S0 : Hid (SeenLS w6 g2 j (.slice b2 x.length d2) g4 j (.slice b4 x.length d4) wr.drew) := Lib.hid ⟨HK.out.cellOf z2, HK.out.cellOf z4, HK.out.drew⟩
        unfold StsEnd at CR
        generalize x.length = m at CR CT S0
        clear hx hxc z2 y2 z4 y4
        have hj0 : (0 : Int) ≤ (j : Int) := by omega
        have hjl : (j : Int) < (N : Int) := by omega
        go_wp2_with fail
        go_region_held3 (SeenLS w6 g2 j (.slice b2 m d2) g4 j (.slice b4 m d4))
          (first | (with_reducible assumption) | (with_reducible exact S0.out) | (with_reducible exact seenLS_kept k9 (by with_reducible assumption)) | (with_reducible exact seenLS_kept k8 (by with_reducible assumption)))
          (first
            | (go_at_call 12; refine (CR.out _ (seenLS_k (by with_reducible assumption))).mono ?_; rintro e w8 ⟨a8, c8, rfl, h8, k8⟩)
            | (go_at_call 11; (with_reducible refine (CT.out _ _ _ _ (seenLS_k (by with_reducible assumption)) h8).mono ?_); rintro e w9 ⟨rfl, k9⟩))
        all_goals
          have HK2 := Lib.hid (seenLS_k (by with_reducible assumption))
          go_wp2_with fail
          go_roundw
          case rel => exact ⟨j + 1, by omega, by go_num, HK2.out⟩
          case measure => simp [intOf]; omega
      · obtain rfl : j = N := by omega
        go_wp2_with fail
        refine (HA.out _).mono ?_
        rintro e w9 ⟨rfl, k9⟩
        go_wp2_with fail
        go_ret
        exact ⟨rfl, K6.out.trans (HK.out.trans k9 (fun _ _ g => g)) (fun _ _ g => g)⟩
end Go.Proofs.Ytoceogbanlmnoaa
