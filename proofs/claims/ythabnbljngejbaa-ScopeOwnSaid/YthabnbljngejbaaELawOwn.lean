/- ScopeOwn: the walk over the law's own code. -/
import Derived.Test.YthabnbljngejbaaELawChains
namespace Go.Proofs.Ythabnbljngejbaa
open Go.RowKit

/-- What is read in this law's region: one cell; and nothing that was there has changed. -/
abbrev SeenO (w0 : World) (g i : Nat) (v : Value) (w' : World) : Prop := w'.cell? ⟨g, i, none⟩ = some v ∧ Kept Nil w0 w'
theorem seenO_kept {w0 w w' : World} {g i : Nat} {v : Value} (kk : Kept Nil w w') (h : SeenO w0 g i v w) : SeenO w0 g i v w' := ⟨kk.cellOf h.1, h.2.trans kk (fun _ _ g => g)⟩
theorem seenO_k {w0 w : World} {g i : Nat} {v : Value} (h : SeenO w0 g i v w) : Kept Nil w0 w := h.2
set_option maxHeartbeats 4000000 in
theorem lawOwn_any (l : List Sh) (a : Option Addr) (cap : Nat) (w : World) (h : Holds cA w (fun b _ => b < w.heap.size) (.slice a l.length cap) l) :
    Calls Try.prog 4 #[.slice a l.length cap] w fun e w' => e = .returned (.bool true) ∧ Kept Nil w w' := by
  have HA := Lib.hid (fun W => awake_any W)
  have CF := Lib.hid (fineL_any l _ a cap w h (fun _ _ h => h))
  unfold YesEnd at CF
  have HH := Lib.hid h
  have hcap : l.length ≤ cap := h.fits.2
  have CO : Hid (∀ w', Kept Nil w w' → countL l ≤ 16 ∧ chkL l 1 = 0 → Calls Try.prog 12 #[.slice a l.length cap] w' fun e w'' => ∃ a' n' c', e = .returned (.slice a' n' c') ∧ Ints w'' (.slice a' n' c') (ownL l l.length) ∧ Kept Nil w' w'') := Lib.hid fun w' k hc => own_any l hc.1 hc.2 _ a cap w' (h.keptN k)
  have CR : Hid (∀ w', Kept Nil w w' → countL l ≤ 16 ∧ chkL l 1 = 0 → Calls Try.prog 10 #[.slice a l.length cap] w' (ListEnd l w')) := Lib.hid fun w' k hc => refL_any l (by omega) _ a cap w' (h.keptN k)
  have CQ : Hid (∀ w' ok' a' cap', countL l ≤ 16 ∧ chkL l 1 = 0 → Holds cR w' ok' (.slice a' l.length cap') l → (∀ b o, ok' b o → b < w'.heap.size) → Calls Try.prog 9 #[.slice none 0 0, .slice a' l.length cap'] w' fun e w'' => ∃ r, e = .returned r ∧ Lists cR w'' (fun b _ => b < w''.heap.size) r (chL l []) ∧ Kept Nil w' w'') := Lib.hid fun w' ok' a' cap' hc hh hok => refChains_any l ok' a' cap' w' hh hok (by omega)
  have HTk : Hid (countL l ≤ 16 ∧ chkL l 1 = 0 → countL l ≤ 16 ∧ chkL l 1 = 0) := Lib.hid id
  obtain ⟨len, hlen⟩ : ∃ n, l.length = n := ⟨_, rfl⟩
  have HL := Lib.hid hlen
  rw [hlen] at HH CF CO CR CQ hcap ⊢
  generalize hT : (countL l ≤ 16 ∧ chkL l 1 = 0) = T at CF CO CR CQ
  have HT16 : Hid (T → countL l ≤ 16 ∧ chkL l 1 = 0) := Lib.hid fun ht => by rw [← hT] at ht; exact ht
  clear hT h HTk hlen
  go_enter Try.func4, Try.ntmps4
  go_wp2_with fail
  refine CF.out.mono ?_
  rintro e w1 ⟨b, rfl, k1, hb⟩
  have K1 := Lib.hid k1
  have HB := Lib.hid hb
  clear k1 hb CF
  cases b
  · go_wp2_with fail
    refine (HA.out _).mono ?_
    rintro e w3 ⟨rfl, k3⟩
    go_wp2_with fail
    go_ret
    exact ⟨rfl, K1.out.trans k3 (fun _ _ g => g)⟩
  · have HT := HB.out rfl
    have H16 := Lib.hid (HT16.out HT).1
    have HCk := Lib.hid (HT16.out HT).2
    have CO2 := Lib.hid (fun w' k => CO.out w' k HT)
    have CR2 := Lib.hid (fun w' k => CR.out w' k HT)
    have CQ2 := Lib.hid (fun w' ok' a' cap' hh hok => CQ.out w' ok' a' cap' HT hh hok)
    clear CO CR CQ HB HT HT16
    go_wp2_with fail
    refine (CO2.out _ K1.out).mono ?_
    rintro e w2 ⟨a2, n2, c2, rfl, h2, k2⟩
    have K2 := Lib.hid (K1.out.trans k2 (fun _ _ g => g))
    have L2 := Lib.hid h2
    clear k2 h2 CO2
    go_wp2_with fail
    refine (CR2.out _ K2.out).mono ?_
    rintro e w3 ⟨a3, c3, rfl, h3, k3⟩
    have K3 := Lib.hid (K2.out.trans k3 (fun _ _ g => g))
    have L3 := Lib.hid (L2.out.kept k3)
    rw [HL.out] at h3 ⊢
    have H3 := Lib.hid h3
    clear k3 h3 CR2 L2
    go_wp2_with fail
    refine (CQ2.out w3 _ a3 c3 H3.out (fun b o hb => hb.2.1)).mono ?_
    rintro e w4 ⟨r, rfl, h4, k4⟩
    have K4 := Lib.hid (K3.out.trans k4 (fun _ _ g => g))
    obtain ⟨a4, c4, rfl, _, f4⟩ := h4
    obtain ⟨a2', c2', e2, f2⟩ := L3.out.kept k4
    cases e2
    have F4 := Lib.hid f4
    have F2 := Lib.hid f2
    clear k4 f4 f2 CQ2 L3 H3
    obtain ⟨N, hN⟩ : ∃ N, (chL l []).length = N := ⟨_, rfl⟩
    have hNc : N = countL l := by rw [← hN]; exact chL_len.2 l 1 [] HCk.out
    rw [hN, ownL_len]
    have HNc := Lib.hid hNc
    have hN16 : N ≤ 16 := by have := H16.out; omega
    have hLen : len ≤ 16 := by have := length_countL l; have := HL.out; omega
    clear hN hNc
    go_wp2_with fail
    go_loopw [23] (fun i wr => ∃ j : Nat, j ≤ len ∧ i = .int .i64 j ∧ Kept Nil w4 wr) (fun i _ => len - (intOf i).toNat)
    case atStart => exact ⟨0, by omega, rfl, Kept.refl _ _⟩
    case round =>
      obtain ⟨j, hj, rfl, hK⟩ := hrel
      have HK := Lib.hid hK
      clear hK
      by_cases hlt : j < len
      · obtain ⟨k, hk⟩ : ∃ k, countL (l.take (j + 1)) - 1 = k := ⟨_, rfl⟩
        have hok : (ownL l len)[j]? = some k := by rw [← hk]; exact ownL_at l hlt
        obtain ⟨g2, rfl, z2⟩ := F2.out j k hok
        have hch : (chL l [])[k]? = some (l.take (j + 1)) := by rw [← hk]; exact chL_own [] HCk.out (by have := HL.out; omega)
        have hkN : k < N := by
          have h1 := countL_take_le l (j + 1)
          have h2 := length_countL (l.take (j + 1))
          rw [List.length_take] at h2
          have := HNc.out
          have := HL.out
          omega
        obtain ⟨g4, b4, d4, rfl, z4, y4⟩ := F4.out k _ hch
        have hxc : countL (l.take (j + 1)) ≤ 5000 := by have := countL_take_le l (j + 1); have := H16.out; omega
        have htl : (l.take (j + 1)).length = j + 1 := by rw [List.length_take]; have := HL.out; omega
        obtain ⟨i1, hi1⟩ : ∃ i1, j + 1 = i1 := ⟨_, rfl⟩
        rw [hi1] at htl hxc z4 y4 hch
        rw [htl] at z4 y4
        have CR : Hid (∀ W, Kept Nil w4 W → Calls Try.prog 10 #[.slice a i1 cap] W (ListEnd (l.take i1) W)) := Lib.hid fun W k => by
          have := refL_any (l.take i1) hxc _ a cap W (by rw [htl]; exact (HH.out.keptN (K4.out.trans k (fun _ _ g => g))).first (by omega))
          rwa [htl] at this
        have CS : Hid (∀ W ok' a' cap', Kept Nil w4 W → Holds cR W ok' (.slice a' i1 cap') (l.take i1) → Calls Try.prog 11 #[.slice b4 i1 d4, .slice a' i1 cap'] W fun e w' => e = .returned (.bool true) ∧ Kept Nil W w') := Lib.hid fun W ok' a' cap' k hh => by
          have := refSameL_any (l.take i1) (l.take i1) hxc hxc _ ok' b4 a' d4 cap' W (by rw [htl]; exact y4.keptN k) (by rw [htl]; exact hh)
          rw [sameL_refl, htl] at this
          exact this
        have S0 : Hid (SeenO w4 g4 k (.slice b4 i1 d4) wr.drew) := Lib.hid ⟨HK.out.cellOf z4, HK.out.drew⟩
        have z2' := HK.out.cellOf z2
        unfold ListEnd at CR
        rw [htl] at CR
        clear hxc z2 y4 z4 hok hch
        have hj1 : ((j : Int) + 1) = (i1 : Int) := by omega
        have hjw : IntKind.i64.wrap (i1 : Int) = (i1 : Int) := by rw [IntKind.wrap_i64]; omega
        have hi0 : (0 : Int) ≤ (i1 : Int) := by omega
        have hic : (i1 : Int) ≤ (cap : Int) := by omega
        have hk0 : decide ((k : Int) < 0) = false := decide_eq_false (by omega)
        have hkn : decide (N ≤ k) = false := decide_eq_false (by omega)
        have hk1 : (0 : Int) ≤ (k : Int) := by omega
        have hk2 : (k : Int) < (N : Int) := by omega
        go_wp2_with fail
        go_region_held3 (SeenO w4 g4 k (.slice b4 i1 d4))
          (first | (with_reducible assumption) | (with_reducible exact S0.out) | (with_reducible exact seenO_kept k9 (by with_reducible assumption)) | (with_reducible exact seenO_kept k8 (by with_reducible assumption)))
          (first
            | (go_at_call 10; refine (CR.out _ (seenO_k (by with_reducible assumption))).mono ?_; rintro e w8 ⟨a8, c8, rfl, h8, k8⟩)
            | (go_at_call 11; (with_reducible refine (CS.out _ _ _ _ (seenO_k (by with_reducible assumption)) h8).mono ?_); rintro e w9 ⟨rfl, k9⟩))
        all_goals
          have HK2 := Lib.hid (seenO_k (by with_reducible assumption))
          go_wp2_with fail
          go_roundw
          case rel => exact ⟨j + 1, by omega, by go_num, HK2.out⟩
          case measure => simp [intOf]; omega
      · obtain rfl : j = len := by omega
        by_cases h0 : j = 0
        · subst h0
          go_wp2_with fail
          refine (HA.out _).mono ?_
          rintro e w9 ⟨rfl, k9⟩
          go_wp2_with fail
          go_ret
          exact ⟨rfl, K4.out.trans (HK.out.trans k9 (fun _ _ g => g)) (fun _ _ g => g)⟩
        · obtain ⟨m, hm⟩ : ∃ m, m + 1 = j := ⟨j - 1, by omega⟩
          obtain ⟨q, hq⟩ : ∃ q, countL l - 1 = q := ⟨_, rfl⟩
          have hok : (ownL l j)[m]? = some q := by
            rw [ownL_at l (show m < j by omega), hm, List.take_of_length_le (by have := HL.out; omega), hq]
          obtain ⟨g2, rfl, z2⟩ := F2.out m q hok
          have z2' := HK.out.cellOf z2
          have hqN : q + 1 = N := by
            have h1 := length_countL l
            have := HNc.out
            have := HL.out
            omega
          have hj1 : (j : Int) - 1 = (m : Int) := by omega
          have hjw : IntKind.i64.wrap (m : Int) = (m : Int) := by rw [IntKind.wrap_i64]; omega
          have hN1 : (N : Int) - 1 = (q : Int) := by omega
          have hNw : IntKind.i64.wrap (q : Int) = (q : Int) := by rw [IntKind.wrap_i64]; omega
          have hm0 : (0 : Int) ≤ (m : Int) := by omega
          have hmj : (m : Int) < (j : Int) := by omega
          have hj0 : (j == 0) = false := by simpa using h0
          clear hok z2 hm hq hqN
          go_wp2_with fail
          refine (HA.out _).mono ?_
          rintro e w9 ⟨rfl, k9⟩
          go_wp2_with fail
          go_ret
          exact ⟨rfl, K4.out.trans (HK.out.trans k9 (fun _ _ g => g)) (fun _ _ g => g)⟩
end Go.Proofs.Ythabnbljngejbaa
