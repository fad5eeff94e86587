/- ScopeChains: the walk over the law's own code. -/
import Derived.Test.YthabnbljngejbaaEAwake
import Derived.Test.YthabnbljngejbaaEFine
import Derived.Test.YthabnbljngejbaaEOpen
import Derived.Test.YthabnbljngejbaaERefCh
import Derived.Test.YthabnbljngejbaaERefSame
import Derived.Deep.RegionHeld3
namespace Go.Proofs.Ythabnbljngejbaa
open Go.RowKit

theorem chL_count : (∀ (s : Sh) (ab x : List Sh), x ∈ s.chs ab → countL x ≤ countL ab + s.count) ∧ ∀ l ab x : List Sh, x ∈ chL l ab → countL x ≤ countL ab + countL l := by
  refine Sh.ind2 (fun hd subs ih ab x hx => ?_) (fun ab x hx => by simp [chL_nil] at hx) (fun a l ha hl ab x hx => ?_)
  · rw [chs_mk] at hx
    rw [Sh.count]
    rcases List.mem_append.1 hx with hx | hx
    · split at hx
      · have := ih ab x hx; omega
      · cases hx
    · rw [List.mem_singleton] at hx
      subst hx
      rw [countL_append]
      simp [countL, Sh.count]
  · rw [chL_cons] at hx
    rw [countL]
    rcases List.mem_append.1 hx with hx | hx
    · have := ha ab x hx; omega
    · have := hl (ab ++ [a]) x hx
      rw [countL_append] at this
      simp only [countL] at this
      omega
theorem chain_count {l x : List Sh} (h : x ∈ chL l []) : countL x ≤ countL l := by have := chL_count.2 l [] x h; simpa [countL] using this
/-- What is read in a region of these laws: two cells; and nothing that was there has changed. -/
abbrev SeenL (w0 : World) (g i : Nat) (v : Value) (g' i' : Nat) (v' : Value) (w' : World) : Prop := w'.cell? ⟨g, i, none⟩ = some v ∧ w'.cell? ⟨g', i', none⟩ = some v' ∧ Kept Nil w0 w'
theorem seenL_kept {w0 w w' : World} {g i : Nat} {v : Value} {g' i' : Nat} {v' : Value} (kk : Kept Nil w w') (h : SeenL w0 g i v g' i' v' w) : SeenL w0 g i v g' i' v' w' := ⟨kk.cellOf h.1, kk.cellOf h.2.1, h.2.2.trans kk (fun _ _ g => g)⟩
theorem seenL_k {w0 w : World} {g i : Nat} {v : Value} {g' i' : Nat} {v' : Value} (h : SeenL w0 g i v g' i' v' w) : Kept Nil w0 w := h.2.2
set_option maxHeartbeats 4000000 in
theorem lawChains_any (l : List Sh) (a : Option Addr) (cap : Nat) (w : World) (h : Holds cA w (fun b _ => b < w.heap.size) (.slice a l.length cap) l) :
    Calls Try.prog 3 #[.slice a l.length cap] w fun e w' => e = .returned (.bool true) ∧ Kept Nil w w' := by
  have HA := Lib.hid (fun W => awake_any W)
  have CF := Lib.hid (fineL_any l _ a cap w h (fun _ _ h => h))
  unfold YesEnd at CF
  have CC : Hid (∀ w', Kept Nil w w' → countL l ≤ 16 ∧ chkL l 1 = 0 → Calls Try.prog 8 #[.slice a l.length cap] w' fun e w'' => ∃ a' n' c', e = .returned (.slice a' n' c') ∧ Lists cA w'' (fun b _ => b < w''.heap.size) (.slice a' n' c') (chL l []) ∧ Kept Nil w' w'') := Lib.hid fun w' k hc => chains_any l hc.1 hc.2 _ a cap w' (h.keptN k) (fun b o hb => Nat.lt_of_lt_of_le hb k.size)
  have CR : Hid (∀ w', Kept Nil w w' → countL l ≤ 16 ∧ chkL l 1 = 0 → Calls Try.prog 10 #[.slice a l.length cap] w' (ListEnd l w')) := Lib.hid fun w' k hc => refL_any l (by omega) _ a cap w' (h.keptN k)
  have CQ : Hid (∀ w' ok' a' cap', countL l ≤ 16 ∧ chkL l 1 = 0 → Holds cR w' ok' (.slice a' l.length cap') l → (∀ b o, ok' b o → b < w'.heap.size) → Calls Try.prog 9 #[.slice none 0 0, .slice a' l.length cap'] w' fun e w'' => ∃ r, e = .returned r ∧ Lists cR w'' (fun b _ => b < w''.heap.size) r (chL l []) ∧ Kept Nil w' w'') := Lib.hid fun w' ok' a' cap' hc hh hok => refChains_any l ok' a' cap' w' hh hok (by omega)
  have HLc : Hid (∀ x, x ∈ chL l [] → countL x ≤ countL l) := Lib.hid fun x hx => chain_count hx
  have HLn : Hid ((chL l []).length ≤ countL l) := Lib.hid (chL_len_le.2 l [])
  generalize hT : (countL l ≤ 16 ∧ chkL l 1 = 0) = T at CF CC CR CQ
  have HT16 : Hid (T → countL l ≤ 16) := Lib.hid fun ht => by rw [← hT] at ht; exact ht.1
  clear hT h
  go_enter Try.func3, Try.ntmps3
  go_wp2_with fail
  refine CF.out.mono ?_
  rintro e w1 ⟨b, rfl, k1, hb⟩
  have K1 := Lib.hid k1
  have HB := Lib.hid hb
  clear k1 hb CF
  cases b
  · go_wp2_with fail
    refine (HA.out _).mono ?_
    rintro e w3 ⟨rfl, k3⟩
    go_wp2_with fail
    go_ret
    exact ⟨rfl, K1.out.trans k3 (fun _ _ g => g)⟩
  · have HT := HB.out rfl
    have H16 := Lib.hid (HT16.out HT)
    have CC2 := Lib.hid (fun w' k => CC.out w' k HT)
    have CR2 := Lib.hid (fun w' k => CR.out w' k HT)
    have CQ2 := Lib.hid (fun w' ok' a' cap' hh hok => CQ.out w' ok' a' cap' HT hh hok)
    clear CC CR CQ HB HT HT16
    go_wp2_with fail
    refine (CC2.out _ K1.out).mono ?_
    rintro e w2 ⟨a2, n2, c2, rfl, h2, k2⟩
    have K2 := Lib.hid (K1.out.trans k2 (fun _ _ g => g))
    have L2 := Lib.hid h2
    clear k2 h2 CC2
    go_wp2_with fail
    refine (CR2.out _ K2.out).mono ?_
    rintro e w3 ⟨a3, c3, rfl, h3, k3⟩
    have K3 := Lib.hid (K2.out.trans k3 (fun _ _ g => g))
    have L3 := Lib.hid (L2.out.kept k3)
    have H3 := Lib.hid h3
    clear k3 h3 CR2 L2
    go_wp2_with fail
    refine (CQ2.out w3 _ a3 c3 H3.out (fun b o hb => hb.2.1)).mono ?_
    rintro e w4 ⟨r, rfl, h4, k4⟩
    have K4 := Lib.hid (K3.out.trans k4 (fun _ _ g => g))
    obtain ⟨a4, c4, rfl, _, f4⟩ := h4
    obtain ⟨a2', c2', e2, _, f2⟩ := L3.out.kept k4
    cases e2
    have F4 := Lib.hid f4
    have F2 := Lib.hid f2
    clear k4 f4 f2 CQ2 L3 H3
    obtain ⟨N, hN⟩ : ∃ N, (chL l []).length = N := ⟨_, rfl⟩
    rw [hN]
    have HN := Lib.hid hN
    have hN16 : N ≤ 16 := by have := HLn.out; have := H16.out; omega
    clear hN
    go_wp2_with fail
    go_loopw [22] (fun i wr => ∃ j : Nat, j ≤ N ∧ i = .int .i64 j ∧ Kept Nil w4 wr) (fun i _ => N - (intOf i).toNat)
    case atStart => exact ⟨0, by omega, rfl, Kept.refl _ _⟩
    case round =>
      obtain ⟨j, hj, rfl, hK⟩ := hrel
      have HK := Lib.hid hK
      clear hK
      by_cases hlt : j < N
      · obtain ⟨x, hx⟩ : ∃ x, (chL l [])[j]? = some x := ⟨_, List.getElem?_eq_getElem (by have := HN.out; omega)⟩
        have hxc : countL x ≤ 5000 := by have := HLc.out x (List.mem_of_getElem? hx); have := H16.out; omega
        obtain ⟨g2, b2, d2, rfl, z2, y2⟩ := F2.out j x hx
        obtain ⟨g4, b4, d4, rfl, z4, y4⟩ := F4.out j x hx
        have CR : Hid (∀ W, Kept Nil w4 W → Calls Try.prog 10 #[.slice b2 x.length d2] W (ListEnd x W)) := Lib.hid fun W k => refL_any x hxc _ b2 d2 W (y2.keptN k)
        have CS : Hid (∀ W ok' a' cap', Kept Nil w4 W → Holds cR W ok' (.slice a' x.length cap') x → Calls Try.prog 11 #[.slice a' x.length cap', .slice b4 x.length d4] W fun e w' => e = .returned (.bool true) ∧ Kept Nil W w') := Lib.hid fun W ok' a' cap' k hh => by
          have := refSameL_any x x hxc hxc ok' _ a' b4 cap' d4 W hh (y4.keptN k)
          rw [sameL_refl] at this
          exact this
        have S0 : Hid (SeenL w4 g2 j (.slice b2 x.length d2) g4 j (.slice b4 x.length d4) wr.drew) := Lib.hid ⟨HK.out.cellOf z2, HK.out.cellOf z4, HK.out.drew⟩
        unfold ListEnd at CR
        generalize x.length = m at CR CS S0
        clear hx hxc z2 y2 z4 y4
        have hj0 : (0 : Int) ≤ (j : Int) := by omega
        have hjl : (j : Int) < (N : Int) := by omega
        go_wp2_with fail
        go_region_held3 (SeenL w4 g2 j (.slice b2 m d2) g4 j (.slice b4 m d4))
          (first | (with_reducible assumption) | (with_reducible exact S0.out) | (with_reducible exact seenL_kept k9 (by with_reducible assumption)) | (with_reducible exact seenL_kept k8 (by with_reducible assumption)))
          (first
            | (go_at_call 10; refine (CR.out _ (seenL_k (by with_reducible assumption))).mono ?_; rintro e w8 ⟨a8, c8, rfl, h8, k8⟩)
            | (go_at_call 11; (with_reducible refine (CS.out _ _ _ _ (seenL_k (by with_reducible assumption)) h8).mono ?_); rintro e w9 ⟨rfl, k9⟩))
        all_goals
          have HK2 := Lib.hid (seenL_k (by with_reducible assumption))
          go_wp2_with fail
          go_roundw
          case rel => exact ⟨j + 1, by omega, by go_num, HK2.out⟩
          case measure => simp [intOf]; omega
      · obtain rfl : j = N := by omega
        go_wp2_with fail
        refine (HA.out _).mono ?_
        rintro e w9 ⟨rfl, k9⟩
        go_wp2_with fail
        go_ret
        exact ⟨rfl, K4.out.trans (HK.out.trans k9 (fun _ _ g => g)) (fun _ _ g => g)⟩
end Go.Proofs.Ythabnbljngejbaa
