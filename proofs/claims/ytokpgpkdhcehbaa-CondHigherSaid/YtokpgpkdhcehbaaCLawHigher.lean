/- Whatever condition comes in, CondHigher returns true, and writes nothing that was there. No condition. -/
import Derived.Test.YtokpgpkdhcehbaaCAwake
import Derived.Test.YtokpgpkdhcehbaaCSmall
import Derived.Test.YtokpgpkdhcehbaaCOpen
namespace Go.Proofs.Ytokpgpkdhcehbaa
open Go.RowKit Go.ChangeShapes Go.WideShapes Go.ChangeAt

theorem nccT_of {h : Hd} {subs : List Sh} {d : Int} (hn : nccT h subs (d + 1) = 0) (ih : chkL subs (d + 1 + 1) = 0 → chkL subs (d + 1) = 0) : nccT h subs d = 0 := by
  unfold nccT at *
  split at hn
  · omega
  · split at hn
    · omega
    · rename_i h1 h2
      rw [if_neg h1, if_neg h2]
      exact ih hn
theorem chk_lower : (∀ s : Sh, ∀ d : Int, s.chk (d + 1) = 0 → s.chk d = 0) ∧ ∀ l : List Sh, ∀ d : Int, chkL l (d + 1) = 0 → chkL l d = 0 := by
  refine Sh.ind2 (fun hd subs ih d h => ?_) (fun d _ => rfl) (fun a l ha hl d h => ?_)
  · rw [chk_mk] at h ⊢
    by_cases h3 : 3 < d + 1
    · rw [if_pos h3] at h; omega
    · rw [if_neg h3] at h
      rw [if_neg (show ¬ 3 < d by omega)]
      by_cases hk : hd.k = 3
      · rw [if_pos hk] at h ⊢
        exact nccT_of h (ih (d + 1))
      · rw [if_neg hk] at h ⊢
        exact h
  · simp only [chkL] at h ⊢
    by_cases h0 : a.chk (d + 1) ≠ 0
    · rw [if_pos h0] at h; exact absurd h h0
    · rw [if_neg h0] at h
      have := ha d (by omega)
      rw [if_neg (by omega)]
      exact hl d h
theorem chk_four (s : Sh) : s.chk 4 = 5 := by
  obtain ⟨hd, subs⟩ := s
  rw [chk_mk]; simp

set_option maxHeartbeats 2000000 in
theorem higherLaw_any (s : Sh) (a : Option Addr) (cap : Nat) (w : World) (h : Holds cA w (fun b _ => b < w.heap.size) (.slice a s.subs.length cap) s.subs) :
    Calls Try.prog 6 #[vA s.hd (.slice a s.subs.length cap)] w fun e w' => e = .returned (.bool true) ∧ Kept Nil w w' := by
  have HA := Lib.hid (fun W => awake_any W)
  have CS := Lib.hid (fun w' (k : Kept Nil w w') => small60_any s _ a cap w' (h.keptN k) (fun b o hb => Nat.lt_of_lt_of_le hb k.size))
  have CC := Lib.hid (fun w' (k : Kept Nil w w') (hc : s.count ≤ 60) (d : Int) => check_any s (by omega) _ a cap w' d (h.keptN k))
  have HM := Lib.hid (fun d : Int => chk_lower.1 s d)
  have H4 := Lib.hid (chk_four s)
  generalize hq : s.chk = q at CC HM H4
  have HQ := Lib.hid hq
  generalize s.subs.length = len at CS CC ⊢
  generalize s.count = cnt at CS CC
  generalize s.hd = hd at CS CC ⊢
  obtain ⟨k, x0, x1, x2, n0, n1, n2⟩ := hd
  have K0 := Lib.hid ((Kept.refl Nil w).alloc (.cells (arrA ⟨k, x0, x1, x2, n0, n1, n2⟩ (.slice a len cap)) 27))
  have B0 := Lib.hid (Blk.new w 27 (arrA ⟨k, x0, x1, x2, n0, n1, n2⟩ (.slice a len cap)))
  clear h hq
  go_enter Try.func6, Try.ntmps6
  go_wp2_with fail
  refine (CS.out _ K0.out).mono ?_
  rintro e w2 ⟨r, rfl, k2, hr⟩
  have K2 := Lib.hid (K0.out.trans k2 (fun _ _ g => g))
  have B2 := Lib.hid (B0.out.kept k2 id)
  have HR := Lib.hid hr
  clear k2 hr K0 B0
  cases r
  · go_wp2_with fail
    refine (HA.out _).mono ?_
    rintro e w3 ⟨rfl, k3⟩
    go_wp2_with fail
    go_ret
    exact ⟨rfl, K2.out.trans k3 (fun _ _ g => g)⟩
  · have CC2 := Lib.hid (fun w' k d => CC.out w' k (HR.out rfl) d)
    clear CC HR CS
    go_wp2_with fail
    go_loopw [3, 4] (fun r i wr => ∃ (j : Nat) (rb : Bool), 1 ≤ j ∧ j ≤ 5 ∧ i = .int .i64 j ∧ r = .bool rb ∧ (q j = 0 → rb = true) ∧ Kept Nil w wr ∧ Blk wr w.heap.size 27 (arrA ⟨k, x0, x1, x2, n0, n1, n2⟩ (.slice a len cap))) (fun _ i _ => 5 - (intOf i).toNat)
    case atStart => exact ⟨1, true, by omega, by omega, rfl, rfl, fun _ => rfl, K2.out, B2.out⟩
    case round =>
      obtain ⟨j, rb, h1, h5, rfl, rfl, hrb, hK, hB⟩ := hrel
      have HK := Lib.hid hK
      have HB := Lib.hid hB
      have HRb := Lib.hid hrb
      clear hK hB K2 B2 hrb
      by_cases hlt : j ≤ 4
      · have CD : Hid (∀ w', Kept Nil w w' → Calls Try.prog 9 #[vA ⟨k, x0, x1, x2, n0, n1, n2⟩ (.slice a len cap), .int .i64 j] w' fun e w'' => e = .returned (.int .i64 (q j)) ∧ Kept Nil w' w'') := Lib.hid fun w' kk => by
          have := CC2.out w' kk j
          rwa [show max (j : Int) 1 = j by omega] at this
        have HN : Hid (q ((j : Int) + 1) = 0 → q j = 0) := Lib.hid (HM.out j)
        have H4' : Hid (j = 4 → q j ≠ 0) := Lib.hid fun e => by subst e; show q 4 ≠ 0; rw [H4.out]; decide
        generalize hv : q (j : Int) = v at CD HRb HN H4'
        clear hv
        go_wp2_with ((with_reducible refine wpList_load_A rfl (.tmp 1) rfl _ _ rfl ⟨k, x0, x1, x2, n0, n1, n2⟩ (.slice a len cap) ?_ ?_)
                     · exact World.rangeAt_of_block HB.out 0 8)
        refine (CD.out _ HK.out).mono ?_
        rintro e w3 ⟨rfl, k3⟩
        have HK3 := Lib.hid (HK.out.trans k3 (fun _ _ g => g))
        have HB3 := Lib.hid (HB.out.kept k3 id)
        clear k3
        by_cases hv0 : v = 0
        · have hrt : rb = true := HRb.out hv0
          have hj4 : ¬ j = 4 := fun e => H4'.out e hv0
          have hj4' : ((j : Int) == 4) = false := by simp; omega
          subst hrt hv0
          go_wp2_with fail
          go_roundw
          case rel => exact ⟨j + 1, true, by omega, by omega, by go_num, rfl, fun _ => rfl, HK3.out, HB3.out⟩
          case measure => simp [intOf]; omega
        · have hv0' : (v == 0) = false := by simpa using hv0
          have HV0 := Lib.hid hv0
          clear hv0
          go_wp2_with fail
          go_roundw
          case rel => exact ⟨j + 1, false, by omega, by omega, by go_num, rfl, fun h => absurd (HN.out (by simpa using h)) HV0.out, HK3.out, HB3.out⟩
          case measure => simp [intOf]; omega
      · obtain rfl : j = 5 := by omega
        go_wp2_with fail
        refine (HA.out _).mono ?_
        rintro e w3 ⟨rfl, k3⟩
        go_wp2_with fail
        go_ret
        exact ⟨rfl, HK.out.trans k3 (fun _ _ g => g)⟩

set_option maxRecDepth 100000 in
theorem condHigher_lifted (os : Os) (started : os.Started) (H : Type) (enc : TypeId × Value → H) :
    ReturnsInHanded {} Try.checked os 6 .any (Rows.condHigherSpec.pre6 enc Try.prog Try.f6 Rows.condHigherRow.domain false) (Rows.condHigherSpec.post enc Try.prog Try.f6 false true false false) := by
  refine returnsInHanded_of_change (C := Try.checked) own started (by kernel_rfl) Try.func6
    (ChangeSpec.witness6 (enc := enc) (C := Try.checked) false ⟨#[], #[(vA ⟨0, false, false, false, 0, 0, 0⟩ (.slice none 0 0) : Value)], []⟩ 8 (by kernel_rfl) (by kernel_rfl) (by kernel_rfl) (by kernel_rfl)) ?_
  intro W base args ds gs before hval0 hW hcnd _
  have hval : ∀ (j : Nat) t v, Try.f6.params[j]? = some t → args[j]? = some v → Value.okWide Try.prog W .any base t v := hval0
  have hW' := hW
  obtain ⟨p, q, hA0, hV, rfl, hfz, hnd⟩ := hW
  have hA : DataW.TrodAll enc Try.prog W 0 (fun _ => true) true Try.f6.params.toList args.toList ds p := hA0
  rw [Try.params6] at hA hval
  obtain ⟨v0, vs0, d0, ds0, p0, q0, hargs, rfl, rfl, h0, r0⟩ := trodAll_cons hA
  obtain ⟨rfl, rfl, rfl⟩ := trodAll_nil r0
  obtain rfl : args = #[v0] := by cases args; simp_all
  obtain ⟨rfl, rfl⟩ := trodVars_none hV
  have lt0 : ∀ x ∈ p0, x.block < W.heap.size := by obtain ⟨m, hm⟩ := h0; exact DataW.trod_lt m _ _ _ hm
  have g0 := h0
  obtain ⟨s0, a0, c0, rfl, hh0⟩ := open_C (hval 0 27 v0 rfl rfl) g0
  refine (higherLaw_any s0 a0 c0 W hh0).mono fun e W' ⟨he, hk⟩ => ?_
  subst he
  exact ⟨_, rfl, _, _, _, [], _, [], hW', trodAll_mk1 (shut_bool Try.underlying4 _), trodAll_cons_mk (Below.trod laidOut (by kernel_rfl) (of_decide_eq_true (by kernel_rfl)) h0 hk.toBelow lt0) (trodAll_mk0), rfl, hk.toBelow.frame _, fun h => by cases h⟩

theorem condHigher_holds : Rows.CondHigherSaid :=
  OpenClaim.holds_of_wide 6 Try.f6 rfl rfl rfl rfl rfl rfl rfl ⟨rfl, rfl, rfl, rfl, rfl⟩ rfl rfl rfl rfl rfl (by kernel_rfl) Try.func6 (by kernel_rfl)
    (of_decide_eq_true (by kernel_rfl)) (by unfold Func.isWrapper; first | (rw [if_neg (of_decide_eq_false (by kernel_rfl))]; exact ⟨rfl, rfl⟩) | (rw [if_pos (by decide +kernel)]; kernel_rfl))
    (fun os started H enc _ => condHigher_lifted os started H enc)
#print axioms condHigher_holds
end Go.Proofs.Ytokpgpkdhcehbaa
