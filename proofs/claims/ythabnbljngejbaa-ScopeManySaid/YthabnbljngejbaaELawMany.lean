/- ScopeMany: the walk over the law's own code. -/
import Derived.Test.YthabnbljngejbaaELawChains
namespace Go.Proofs.Ythabnbljngejbaa
open Go.RowKit

theorem keptN_step {w0 : World} (W W' : World) (h : Kept Nil w0 W) (k : Kept Nil W W') : Kept Nil w0 W' := h.trans k (fun _ _ g => g)
abbrev SeenK (w0 w' : World) : Prop := Kept Nil w0 w'
theorem seenK_kept {w0 w w' : World} (kk : Kept Nil w w') (h : SeenK w0 w) : SeenK w0 w' := h.trans kk (fun _ _ g => g)
theorem seenK_two {w0 w1 w : World} (k : Kept Nil w0 w1) (h : SeenK w1 w) : Kept Nil w0 w := k.trans h (fun _ _ g => g)
set_option maxRecDepth 100000 in
set_option maxHeartbeats 8000000 in
theorem lawMany_any (l : List Sh) (a : Option Addr) (cap : Nat) (w : World) (h : Holds cA w (fun b _ => b < w.heap.size) (.slice a l.length cap) l) :
    Calls Try.prog 5 #[.slice a l.length cap] w fun e w' => e = .returned (.bool true) ∧ Kept Nil w w' := by
  have HA := Lib.hid (fun W => awake_any W)
  have CF := Lib.hid (fineL_any l _ a cap w h (fun _ _ h => h))
  unfold YesEnd at CF
  have HH := Lib.hid h
  have CC : Hid (∀ w', Kept Nil w w' → countL l ≤ 16 ∧ chkL l 1 = 0 → Calls Try.prog 8 #[.slice a l.length cap] w' fun e w'' => ∃ a' n' c', e = .returned (.slice a' n' c') ∧ Lists cA w'' (fun b _ => b < w''.heap.size) (.slice a' n' c') (chL l []) ∧ Kept Nil w' w'') := Lib.hid fun w' k hc => chains_any l hc.1 hc.2 _ a cap w' (h.keptN k) (fun b o hb => Nat.lt_of_lt_of_le hb k.size)
  obtain ⟨len, hlen⟩ : ∃ n, l.length = n := ⟨_, rfl⟩
  have HL := Lib.hid hlen
  rw [hlen] at HH CF CC ⊢
  have HLc : Hid (∀ x, x ∈ chL l [] → countL x ≤ countL l) := Lib.hid fun x hx => chain_count hx
  generalize hT : (countL l ≤ 16 ∧ chkL l 1 = 0) = T at CF CC
  have HT16 : Hid (T → countL l ≤ 16 ∧ chkL l 1 = 0) := Lib.hid fun ht => by rw [← hT] at ht; exact ht
  clear hT h hlen
  go_enter Try.func5, Try.ntmps5
  go_wp2_with fail
  refine CF.out.mono ?_
  rintro e w1 ⟨b, rfl, k1, hb⟩
  have K1 := Lib.hid k1
  have HB := Lib.hid hb
  clear k1 hb CF
  cases b
  · go_wp2_with fail
    refine (HA.out _).mono ?_
    rintro e w3 ⟨rfl, k3⟩
    go_wp2_with fail
    go_ret
    exact ⟨rfl, K1.out.trans k3 (fun _ _ g => g)⟩
  · have HT := HB.out rfl
    have H16 := Lib.hid (HT16.out HT).1
    have HCk := Lib.hid (HT16.out HT).2
    have CC2 := Lib.hid (fun w' k => CC.out w' k HT)
    clear CC HB HT HT16
    have hLen : len ≤ 16 := by have := length_countL l; have := HL.out; have := H16.out; omega
    go_wp2_with fail
    refine (CC2.out _ K1.out).mono ?_
    rintro e w2 ⟨a2, n2, c2, rfl, h2, k2⟩
    have K2 := Lib.hid (K1.out.trans k2 (fun _ _ g => g))
    have L2 := Lib.hid h2
    clear k2 h2 CC2
    go_wp2_with fail
    go_loopw [4, 20] (fun n i wr => ∃ j m : Nat, j ≤ len ∧ i = .int .i64 j ∧ n = .int .i64 m ∧ m = countL (l.take j) ∧ Kept Nil w2 wr) (fun _ i _ => len - (intOf i).toNat)
    case atStart => exact ⟨0, 0, by omega, rfl, rfl, by rw [List.take_zero]; rfl, Kept.refl _ _⟩
    case round =>
      obtain ⟨j, m, hj, rfl, rfl, hm, hK⟩ := hrel
      have HK := Lib.hid hK
      have HM := Lib.hid hm
      clear hK hm
      by_cases hlt : j < len
      · obtain ⟨⟨⟨k', x0', x1', x2', n0', n1', n2'⟩, sb⟩, hx⟩ : ∃ x, l[j]? = some x := ⟨_, List.getElem?_eq_getElem (by have := HL.out; omega)⟩
        obtain ⟨b, o, a', cap', rfl, hok, hr, hs⟩ := (HH.out.keptN (K2.out.trans HK.out (fun _ _ g => g))).at_ hx
        have hm5 : (Sh.mk ⟨k', x0', x1', x2', n0', n1', n2'⟩ sb).count ≤ 5000 := mem_count (Nat.le_trans H16.out (show 16 ≤ 5000 by decide)) (List.mem_of_getElem? hx)
        have hsum := countL_take_succ hx
        have hle := countL_take_le l (j + 1)
        have HX1 : Hid (∀ W, Kept Nil wr W → Calls Try.prog 14 #[vA ⟨k', x0', x1', x2', n0', n1', n2'⟩ (.slice a' sb.length cap')] W fun e w' => ∃ a2 c2, e = .returned (vR ⟨k', x0', x1', x2', n0', n1', n2'⟩ (.slice a2 sb.length c2)) ∧ Holds cR w' (okM W.heap.size w') (.slice a2 sb.length c2) sb ∧ Kept Nil W w') := Lib.hid fun W kW => refT_any (.mk ⟨k', x0', x1', x2', n0', n1', n2'⟩ sb) hm5 _ a' cap' W (hs.keptN kW)
        have HX2 : Hid (∀ W ok' a2 c2, Holds cR W ok' (.slice a2 sb.length c2) sb → Calls Try.prog 13 #[vR ⟨k', x0', x1', x2', n0', n1', n2'⟩ (.slice a2 sb.length c2)] W fun e w' => e = .returned (.int .i64 ((Sh.mk ⟨k', x0', x1', x2', n0', n1', n2'⟩ sb).count : Int)) ∧ Kept Nil W w') := Lib.hid fun W ok' a2 c2 hh => refSize_any (.mk ⟨k', x0', x1', x2', n0', n1', n2'⟩ sb) hm5 ok' a2 c2 W hh
        have HRng := Lib.hid hr
        have h16 : m + (Sh.mk ⟨k', x0', x1', x2', n0', n1', n2'⟩ sb).count ≤ 16 := by have := H16.out; have := HM.out; omega
        have HS : Hid (m + (Sh.mk ⟨k', x0', x1', x2', n0', n1', n2'⟩ sb).count = countL (l.take (j + 1))) := Lib.hid (by rw [HM.out, hsum])
        generalize (Sh.mk ⟨k', x0', x1', x2', n0', n1', n2'⟩ sb).count = c at HX2 HS h16
        generalize sb.length = len' at HX1 HX2 HRng
        clear hx hr hs hok hm5 hsum hle
        have hw : IntKind.i64.wrap ((m : Int) + (c : Int)) = ((m + c : Nat) : Int) := by rw [IntKind.wrap_i64]; omega
        go_wp2_with ((with_reducible refine wpList_load_A rfl (.tmp 22) rfl _ _ rfl ⟨k', x0', x1', x2', n0', n1', n2'⟩ (.slice a' len' cap') ?_ ?_)
                     · exact HRng.out)
        have KA := Lib.hid ((Kept.refl Nil wr).alloc (.cells (arrA ⟨k', x0', x1', x2', n0', n1', n2'⟩ (.slice a' len' cap')) 38))
        refine (HX1.out _ KA.out).mono ?_
        rintro e w3 ⟨a3, c3, rfl, h3, k3⟩
        have K3 := Lib.hid (KA.out.trans k3 (fun _ _ g => g))
        have H3 := Lib.hid h3
        clear k3 h3 KA
        go_wp2_with fail
        refine (HX2.out _ _ _ _ H3.out).mono ?_
        rintro e w4 ⟨rfl, k4⟩
        have K4 := Lib.hid (HK.out.trans (K3.out.trans k4 (fun _ _ g => g)) (fun _ _ g => g))
        clear k4
        go_wp2_with fail
        go_roundw
        case rel => exact ⟨j + 1, m + c, by omega, by go_num, by go_num, HS.out, K4.out⟩
        case measure => simp [intOf]; omega
      · obtain rfl : j = len := by omega
        have hmN : m = (chL l []).length := by rw [chL_len.2 l 1 [] HCk.out, HM.out, ← HL.out]; simp
        have K4 := Lib.hid (K2.out.trans HK.out (fun _ _ g => g))
        obtain ⟨a2', c2', e2, hcap, f2⟩ := L2.out.kept HK.out
        cases e2
        rw [← hmN] at hcap ⊢
        have HN := Lib.hid hmN
        have F2 := Lib.hid f2
        have hN16 : m ≤ 16 := by have := chL_len_le.2 l []; have := H16.out; omega
        clear f2 hmN L2 HM HK
        have HAh : Hid (∀ (i : Nat) (x : List Sh), (chL l [])[i]? = some x → x ≠ [] ∧ (x.length = 1 ∨ ∃ n, n < i ∧ (chL l [])[n]? = some (x.take (x.length - 1)))) := Lib.hid fun i x hx => chains_ahead hx
        have HLc2 : Hid (∀ (i : Nat) (x : List Sh), (chL l [])[i]? = some x → countL x ≤ 5000) := Lib.hid fun i x hx => by have := HLc.out x (List.mem_of_getElem? hx); have := H16.out; omega
        generalize chL l [] = L at HN F2 HAh HLc2
        obtain ⟨wx, rfl⟩ : ∃ wx, wx = wr := ⟨wr, rfl⟩
        go_wp2_with fail
        go_loopw [36] (fun i wk => ∃ i' : Nat, i' ≤ m ∧ i = .int .i64 i' ∧ Kept Nil wx wk) (fun i _ => m - (intOf i).toNat)
        case atStart => exact ⟨0, by omega, rfl, Kept.refl _ _⟩
        case round =>
          obtain ⟨i', hi, rfl, hK⟩ := hrel
          have HK := Lib.hid hK
          clear hK
          by_cases hlt : i' < m
          · obtain ⟨x, hx⟩ : ∃ x, L[i']? = some x := ⟨_, List.getElem?_eq_getElem (by have := HN.out; omega)⟩
            obtain ⟨hx1, hx2⟩ := HAh.out i' x hx
            have hxc := HLc2.out i' x hx
            obtain ⟨g2, b2, d2, rfl, z2, y2⟩ := F2.out i' x hx
            have z2' := HK.out.cellOf z2
            obtain ⟨xl, hxl⟩ : ∃ n, x.length = n := ⟨_, rfl⟩
            have hxpos : 0 < xl := by rw [← hxl]; exact List.length_pos_iff.2 hx1
            obtain ⟨mx, hmx⟩ : ∃ n, n + 1 = xl := ⟨xl - 1, by omega⟩
            have hmx1 : x.length - 1 = mx := by omega
            have hxd : xl ≤ d2 := by have := y2.fits.2; omega
            have hx5 : xl ≤ 5000 := by have := length_countL x; omega
            rw [hmx1, hxl] at hx2
            rw [hxl] at z2' y2
            have HX2 := Lib.hid hx2
            have htl : (x.take mx).length = mx := by rw [List.length_take]; omega
            have hxtc : countL (x.take mx) ≤ 5000 := Nat.le_trans (countL_take_le x mx) hxc
            have CRx : Hid (∀ W, Kept Nil wx W → Calls Try.prog 10 #[.slice b2 mx d2] W (ListEnd (x.take mx) W)) := Lib.hid fun W k => by
              have := refL_any (x.take mx) hxtc _ b2 d2 W (by rw [htl]; exact (y2.keptN k).first (by omega))
              rwa [htl] at this
            have CS0 : Hid (∀ (y : List Sh), countL y ≤ 5000 → ∀ W ok' a' cap' ok2 a2 c2, Holds cR W ok' (.slice a' y.length cap') y → Holds cR W ok2 (.slice a2 mx c2) (x.take mx) → Calls Try.prog 11 #[.slice a' y.length cap', .slice a2 mx c2] W fun e w' => e = .returned (.bool (sameL y (x.take mx))) ∧ Kept Nil W w') := Lib.hid fun y hy W ok' a' cap' ok2 a2 c2 hh hh2 => by
              have := refSameL_any y (x.take mx) hy hxtc ok' ok2 a' a2 cap' c2 W hh (by rw [htl]; exact hh2)
              rw [htl] at this
              exact this
            unfold ListEnd at CRx
            rw [htl] at CRx
            have hx0 : ((xl : Int) == 0) = false := by simp; omega
            have hi0 : (0 : Int) ≤ (i' : Int) := by omega
            have hic : (i' : Int) ≤ (c2 : Int) := by omega
            have hm1 : (xl : Int) - 1 = (mx : Int) := by omega
            have hmw : IntKind.i64.wrap (mx : Int) = (mx : Int) := by rw [IntKind.wrap_i64]; omega
            have hmx0 : (0 : Int) ≤ (mx : Int) := by omega
            have hmxd : (mx : Int) ≤ (d2 : Int) := by omega
            clear hx hx1 hx2 hxc z2 y2 hmx1 hxtc htl hxl
            obtain ⟨wk, rfl⟩ : ∃ wk, wk = wr := ⟨wr, rfl⟩
            go_wp2_with fail
            go_loopw [9, 51] (fun f i wi => ∃ (fb : Bool) (k : Nat), k ≤ i' ∧ i = .int .i64 k ∧ f = .bool fb ∧ Hid (xl = 1 → fb = true) ∧ Hid (∀ n, n < k → L[n]? = some (x.take mx) → fb = true) ∧ Kept Nil wk wi) (fun _ i _ => i' - (intOf i).toNat)
            case atStart => exact ⟨_, 0, by omega, rfl, rfl, Lib.hid (fun e => by simp [e]), Lib.hid (fun n hn => by omega), Kept.refl _ _⟩
            case round =>
              obtain ⟨fb, k, hk, rfl, rfl, H1, H2, hK⟩ := hrel
              have HKi := Lib.hid hK
              clear hK
              by_cases hlk : k < i'
              · obtain ⟨y, hy⟩ : ∃ y, L[k]? = some y := ⟨_, List.getElem?_eq_getElem (by have := HN.out; omega)⟩
                have hyc := HLc2.out k y hy
                obtain ⟨g3, b3, d3, e3, z3, y3⟩ := F2.out k y hy
                cases e3
                have z3' := HKi.out.cellOf (HK.out.cellOf z3)
                have CRy : Hid (∀ W, Kept Nil wx W → Calls Try.prog 10 #[.slice b3 y.length d3] W (ListEnd y W)) := Lib.hid fun W k => refL_any y hyc _ b3 d3 W (y3.keptN k)
                have CS := Lib.hid (CS0.out y hyc)
                have HQ : Hid (L[k]? = some (x.take mx) → sameL y (x.take mx) = true) := Lib.hid fun e => by
                  rw [hy] at e
                  cases e
                  exact sameL_refl _
                unfold ListEnd at CRy
                generalize sameL y (x.take mx) = q at CS HQ
                obtain ⟨ym, hym⟩ : ∃ n, y.length = n := ⟨_, rfl⟩
                rw [hym] at CRy CS z3'
                clear hy hyc z3 y3 hym
                have hk0 : (0 : Int) ≤ (k : Int) := by omega
                have hki : (k : Int) < (i' : Int) := by omega
                cases fb
                · cases q
                  · go_wp2_with fail
                    have S0 : Hid (SeenK wk wr.drew) := Lib.hid HKi.out.drew
                    go_region_held3 (SeenK wk)
                      (first | (with_reducible assumption) | (with_reducible exact S0.out) | (with_reducible exact seenK_kept k11 (by with_reducible assumption)) | (with_reducible exact seenK_kept k9 (by with_reducible assumption)) | (with_reducible exact seenK_kept k8 (by with_reducible assumption)))
                      (first
                        | (go_at_call 10; (with_reducible refine (CRy.out _ (seenK_two HK.out (by with_reducible assumption))).mono ?_); rintro e w8 ⟨a8, c8, rfl, h8, k8⟩; (first | (have h9 := h9.keptN k8) | skip))
                        | (go_at_call 10; (with_reducible refine (CRx.out _ (seenK_two HK.out (by with_reducible assumption))).mono ?_); rintro e w9 ⟨a9, c9, rfl, h9, k9⟩; (first | (have h8 := h8.keptN k9) | skip))
                        | (go_at_call 11; (with_reducible refine (CS.out _ _ _ _ _ _ _ h8 h9).mono ?_); rintro e w11 ⟨rfl, k11⟩))
                    all_goals
                      have HK2 := Lib.hid (show Kept Nil wk _ from (by with_reducible assumption : SeenK wk _))
                      go_wp2_with fail
                      go_roundw
                      case rel => exact ⟨false, k + 1, by omega, by go_num, rfl, Lib.hid (fun e => H1.out e), Lib.hid (fun n hn e => by rcases Nat.lt_or_ge n k with h | h; exact H2.out n h e; exact HQ.out (by rwa [show n = k by omega] at e)), HK2.out⟩
                      case measure => simp [intOf]; omega
                  · go_wp2_with fail
                    have S0 : Hid (SeenK wk wr.drew) := Lib.hid HKi.out.drew
                    go_region_held3 (SeenK wk)
                      (first | (with_reducible assumption) | (with_reducible exact S0.out) | (with_reducible exact seenK_kept k11 (by with_reducible assumption)) | (with_reducible exact seenK_kept k9 (by with_reducible assumption)) | (with_reducible exact seenK_kept k8 (by with_reducible assumption)))
                      (first
                        | (go_at_call 10; (with_reducible refine (CRy.out _ (seenK_two HK.out (by with_reducible assumption))).mono ?_); rintro e w8 ⟨a8, c8, rfl, h8, k8⟩; (first | (have h9 := h9.keptN k8) | skip))
                        | (go_at_call 10; (with_reducible refine (CRx.out _ (seenK_two HK.out (by with_reducible assumption))).mono ?_); rintro e w9 ⟨a9, c9, rfl, h9, k9⟩; (first | (have h8 := h8.keptN k9) | skip))
                        | (go_at_call 11; (with_reducible refine (CS.out _ _ _ _ _ _ _ h8 h9).mono ?_); rintro e w11 ⟨rfl, k11⟩))
                    all_goals
                      have HK2 := Lib.hid (show Kept Nil wk _ from (by with_reducible assumption : SeenK wk _))
                      go_wp2_with fail
                      go_roundw
                      case rel => exact ⟨true, k + 1, by omega, by go_num, rfl, Lib.hid (fun _ => rfl), Lib.hid (fun _ _ _ => rfl), HK2.out⟩
                      case measure => simp [intOf]; omega
                · go_wp2_with fail
                  have O := Lib.hid (show Kept Nil wk wr.drew from HKi.out.drew)
                  refine wp_region_in (Kept Nil wk) (by kernel_rfl) (by kernel_rfl) O.out ?_
                  have inst : Nonempty (CW (Kept Nil wk)) := ⟨⟨_, O.out⟩⟩
                  repeat (go_big_quiet_step (fail))
                  refine wpQuiet_nil ?_
                  rintro _ ⟨n, rfl⟩
                  go_wp2
                  go_roundw
                  case rel => exact ⟨true, k + 1, by omega, by go_num, rfl, Lib.hid (fun _ => rfl), Lib.hid (fun _ _ _ => rfl), n.of⟩
                  case measure => simp [intOf]; omega
              · obtain rfl : k = i' := by omega
                have hfb : fb = true := by
                  rcases HX2.out with h | ⟨n, hn, h⟩
                  · exact H1.out h
                  · exact H2.out n hn h
                subst hfb
                go_wp2_with fail
                go_roundw
                case rel => exact ⟨k + 1, by omega, by go_num, HK.out.trans HKi.out (fun _ _ g => g)⟩
                case measure => simp [intOf]; omega
          · obtain rfl : i' = m := by omega
            go_wp2_with fail
            refine (HA.out _).mono ?_
            rintro e w9 ⟨rfl, k9⟩
            go_wp2_with fail
            go_ret
            exact ⟨rfl, K4.out.trans (HK.out.trans k9 (fun _ _ g => g)) (fun _ _ g => g)⟩
end Go.Proofs.Ythabnbljngejbaa
