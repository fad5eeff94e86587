/- Layer rule: the contracts of the program's Check, Ids and Places. -/
import Derived.Test.YtpdofapbbpihlaaDOut2
namespace Go.Proofs.Ytpdofapbbpihlaa
open Go.RowKit

theorem chkL_take_succ {l : List Sh} {d : Int} {j : Nat} {x : Sh} (hx : l[j]? = some x) : chkL (l.take (j + 1)) d = if chkL (l.take j) d ≠ 0 then chkL (l.take j) d else x.chk d := by
  induction l generalizing j with
  | nil => simp at hx
  | cons a r ih =>
    cases j with
    | zero =>
      simp only [List.getElem?_cons_zero, Option.some.injEq] at hx
      subst hx
      rw [List.take_succ_cons, List.take_zero, List.take_zero]
      simp only [chkL]
      by_cases h : a.chk d = 0 <;> simp [h]
    | succ j =>
      rw [List.take_succ_cons, List.take_succ_cons]
      simp only [chkL]
      by_cases h : a.chk d = 0
      · simp only [h, ne_eq, not_true_eq_false, if_false]
        exact ih (by simpa using hx)
      · simp [h]
theorem chkL_first {l : List Sh} {d : Int} {j : Nat} {x : Sh} (h0 : chkL (l.take j) d = 0) (hx : l[j]? = some x) (hc : x.chk d ≠ 0) : chkL l d = x.chk d := by
  induction l generalizing j with
  | nil => simp at hx
  | cons a r ih =>
    cases j with
    | zero =>
      simp only [List.getElem?_cons_zero, Option.some.injEq] at hx
      subst hx
      simp only [chkL]
      rw [if_pos hc]
    | succ j =>
      rw [List.take_succ_cons] at h0
      obtain ⟨h1, h2⟩ := (chkL_cons a _ d).1 h0
      simp only [chkL]
      rw [if_neg (by simp [h1])]
      exact ih h2 (by simpa using hx)
theorem outAny_le {l : List Sh} {n m : Nat} (h : outAny l m = false) (hn : n ≤ m) : outAny l n = false := by
  cases e : outAny l n
  · rfl
  · obtain ⟨v, h1, h2, h3⟩ := outAny_iff.1 e
    have := outAny_iff.2 ⟨v, h1, (show v ≤ (m : Int) by omega), h3⟩
    rw [h] at this
    cases this
set_option maxHeartbeats 4000000 in
theorem ruleCheck_any : CheckOK := by
  intro nm l ok a cap w hnm hc h
  have HN := Lib.hid (fun W => symRight_any nm W (by unfold maxLen; omega))
  have HH := Lib.hid h
  have HV : Hid (chkRule (okName nm) l = if okName nm = false then 1 else if l.length = 0 then 2 else if chkL l 1 ≠ 0 then chkL l 1 else if 16 < countL l then 7 else if outAny l 32 = true then 6 else 0) := Lib.hid rfl
  generalize chkRule (okName nm) l = r at HV ⊢
  generalize hon : okName nm = on at HN HV
  have B0 := Lib.hid (Blk.new w 24 #[.string nm, .slice a l.length cap])
  have K0 := Lib.hid ((Kept.refl Nil w).alloc (.cells #[.string nm, .slice a l.length cap] 24))
  clear h hon
  cases on
  · go_enter Try.func9, Try.ntmps9
    go_wp2_with fail
    refine (HN.out _).mono ?_
    rintro e w2 ⟨rfl, k2⟩
    go_wp2_with fail
    go_ret
    exact ⟨ret_int (by rw [HV.out]; rfl), K0.out.trans k2 (fun _ _ g => g)⟩
  · by_cases h0 : l.length = 0
    · rw [h0] at B0 K0 ⊢
      go_enter Try.func9, Try.ntmps9
      go_wp2_with fail
      refine (HN.out _).mono ?_
      rintro e w2 ⟨rfl, k2⟩
      have B2 := B0.out.kept k2 id
      have z1 := B2.cell 1
      simp at z1
      go_wp2_with fail
      go_ret
      exact ⟨ret_int (by rw [HV.out, h0]; rfl), K0.out.trans k2 (fun _ _ g => g)⟩
    · have hl0 : ((l.length : Int) == 0) = false := by rw [beq_eq_false_iff_ne]; omega
      have HV2 : Hid (r = if chkL l 1 ≠ 0 then chkL l 1 else if 16 < countL l then 7 else if outAny l 32 = true then 6 else 0) := Lib.hid (by rw [HV.out, if_neg (by simp), if_neg h0])
      have hlen := length_countL l
      have HC := Lib.hid (fun j x (hx : l[j]? = some x) w' (k : Kept Nil w w') => check_any x (by have := count_mem (List.mem_of_getElem? hx); omega))
      have HTL := Lib.hid (fun (hk : chkL l 1 = 0) w' (k : Kept Nil w w') => tooLong_any l (by omega) hk ok a cap w' (HH.out.keptN k))
      have HOP := Lib.hid (fun (hk : chkL l 1 = 0) w' (k : Kept Nil w w') (v : Int) => outOfPlace_any l (by omega) hk ok a cap v w' (HH.out.keptN k))
      generalize hn : l.length = len at *
      have HL := Lib.hid hn
      have hLen : len ≤ 60 := by omega
      clear hn HV h0
      go_enter Try.func9, Try.ntmps9
      go_wp2_with fail
      refine (HN.out _).mono ?_
      rintro e w2 ⟨rfl, k2⟩
      have B2 := Lib.hid (B0.out.kept k2 id)
      have K2 := Lib.hid (K0.out.trans k2 (fun _ _ g => g))
      have z1 := B2.out.cell 1
      simp at z1
      clear k2 B0 K0
      go_wp2_with fail
      go_loopw [18] (fun i wr => ∃ j : Nat, j ≤ len ∧ i = .int .i64 j ∧ Hid (chkL (l.take j) 1 = 0) ∧ Blk wr w.heap.size 24 #[.string nm, .slice a len cap] ∧ Kept Nil w wr) (fun i _ => len - (intOf i).toNat)
      case atStart => exact ⟨0, by omega, rfl, Lib.hid rfl, B2.out, K2.out⟩
      case round =>
        obtain ⟨j, hj, rfl, HJ, hB, hK⟩ := hrel
        have HB := Lib.hid hB
        have HK := Lib.hid hK
        clear hB hK z1 K2 B2
        by_cases hlt : j < len
        · obtain ⟨⟨⟨k', x0', x1', x2', n0', n1', n2'⟩, sb⟩, hx⟩ : ∃ x, l[j]? = some x := ⟨_, List.getElem?_eq_getElem (by have := HL.out; omega)⟩
          obtain ⟨b, o, a', cap', rfl, hok, hr, hs⟩ := (HH.out.keptN HK.out).at_ hx
          have hcm : (Sh.mk ⟨k', x0', x1', x2', n0', n1', n2'⟩ sb).count ≤ 100 := by have := count_mem (List.mem_of_getElem? hx); omega
          have HX := Lib.hid (fun w' (k : Kept Nil wr w') => check_any (Sh.mk ⟨k', x0', x1', x2', n0', n1', n2'⟩ sb) (by omega) ok a' cap' w' 1 (hs.keptN k))
          have HR := Lib.hid hr
          have HXx := Lib.hid hx
          clear hx hr hs hok
          rw [show max (1 : Int) 1 = 1 by omega] at HX
          generalize hq : (Sh.mk ⟨k', x0', x1', x2', n0', n1', n2'⟩ sb).chk 1 = q at HX
          have HQ := Lib.hid hq
          replace HX : Hid (∀ w', Kept Nil wr w' → Calls Try.prog 21 #[vA ⟨k', x0', x1', x2', n0', n1', n2'⟩ (.slice a' sb.length cap'), .int .i64 1] w' fun e w'' => e = .returned (.int .i64 q) ∧ Kept Nil w' w'') := HX
          generalize sb.length = len' at HR HX
          clear hq hcm
          have K1 := Lib.hid ((Kept.refl Nil wr).alloc (.cells (arrA ⟨k', x0', x1', x2', n0', n1', n2'⟩ (.slice a' len' cap')) 45))
          have B1 := Lib.hid (Blk.new wr 45 (arrA ⟨k', x0', x1', x2', n0', n1', n2'⟩ (.slice a' len' cap')))
          go_wp2_with (first
            | ((with_reducible refine wpList_load_A rfl (.tmp 20) rfl _ _ rfl ⟨k', x0', x1', x2', n0', n1', n2'⟩ (.slice a' len' cap') ?_ ?_)
               · exact HR.out)
            | ((with_reducible refine wpList_load_A rfl (.tmp 4) rfl _ _ rfl ⟨k', x0', x1', x2', n0', n1', n2'⟩ (.slice a' len' cap') ?_ ?_)
               · exact World.rangeAt_of_block B1.out 0 8))
          refine (HX.out _ K1.out).mono ?_
          rintro e w3 ⟨rfl, k3⟩
          have K3 := Lib.hid ((HK.out.trans K1.out (fun _ _ g => g)).trans k3 (fun _ _ g => g))
          have B3 := Lib.hid ((HB.out.kept K1.out id).kept k3 id)
          clear k3 K1 B1
          by_cases hq0 : q = 0
          · subst hq0
            go_wp2_with fail
            go_roundw
            case rel => exact ⟨j + 1, by omega, by go_num, Lib.hid (by rw [chkL_take_succ HXx.out, HJ.out, HQ.out]; rfl), B3.out, K3.out⟩
            case measure => simp [intOf]; omega
          · have hq1 : (q == 0) = false := by simpa using hq0
            have hq2 : (q != 0) = true := by simpa using hq0
            have HE : Hid (r = q) := Lib.hid (by
              have := chkL_first HJ.out HXx.out (by rw [HQ.out]; exact hq0)
              rw [HV2.out, this, HQ.out, if_pos hq0])
            go_wp2_with fail
            go_ret
            exact ⟨ret_int HE.out.symm, K3.out⟩
        · obtain rfl : j = len := by omega
          have hk0 : Hid (chkL l 1 = 0) := Lib.hid (by have := HJ.out; rwa [List.take_of_length_le (by have := HL.out; omega)] at this)
          have HT := Lib.hid (HTL.out hk0.out _ HK.out)
          have HV3 : Hid (r = if 16 < countL l then 7 else if outAny l 32 = true then 6 else 0) := Lib.hid (by rw [HV2.out, if_neg (by rw [hk0.out]; simp)])
          have HOP2 := Lib.hid (HOP.out hk0.out)
          have z1 := HB.out.cell 1
          simp at z1
          clear HTL HOP HJ
          by_cases hbig : 16 < countL l
          · have HT2 := HT
            rw [decide_eq_true hbig] at HT2
            have HE : Hid (r = 7) := Lib.hid (by rw [HV3.out, if_pos hbig])
            clear HT
            go_wp2_with fail
            refine HT2.out.mono ?_
            rintro e w3 ⟨rfl, k3⟩
            go_wp2_with fail
            go_ret
            exact ⟨ret_int HE.out.symm, HK.out.trans k3 (fun _ _ g => g)⟩
          · have HT2 := HT
            rw [decide_eq_false hbig] at HT2
            have HV4 : Hid (r = if outAny l 32 = true then 6 else 0) := Lib.hid (by rw [HV3.out, if_neg hbig])
            clear HT
            go_wp2_with fail
            refine HT2.out.mono ?_
            rintro e w3 ⟨rfl, k3⟩
            have K3 := Lib.hid (HK.out.trans k3 (fun _ _ g => g))
            have B3 := Lib.hid (HB.out.kept k3 id)
            clear k3 HT2 z1 hbig
            go_wp2_with fail
            go_loopw [6] (fun i ws => ∃ m : Nat, m ≤ 32 ∧ i = .int .i64 ((m : Int) + 1) ∧ Hid (outAny l m = false) ∧ Blk ws w.heap.size 24 #[.string nm, .slice a j cap] ∧ Kept Nil w ws) (fun i _ => 33 - (intOf i).toNat)
            case atStart => exact ⟨0, by omega, rfl, Lib.hid rfl, B3.out, K3.out⟩
            case round =>
              obtain ⟨m, hm, rfl, HM, hB, hK⟩ := hrel
              have HB2 := Lib.hid hB
              have HK2 := Lib.hid hK
              have z2 := hB.cell 1
              simp at z2
              clear hB hK B3 K3
              by_cases hlt2 : m < 32
              · have HO := Lib.hid (HOP2.out _ HK2.out ((m : Int) + 1))
                have HA : Hid (outAny l (m + 1) = decide (outL l ((m : Int) + 1) = 1)) := Lib.hid (by rw [outAny_succ, HM.out]; rfl)
                generalize decide (outL l ((m : Int) + 1) = 1) = q at HO HA
                cases q
                · go_wp2_with fail
                  refine HO.out.mono ?_
                  rintro e w4 ⟨rfl, k4⟩
                  have K4 := Lib.hid (HK2.out.trans k4 (fun _ _ g => g))
                  have B4 := Lib.hid (HB2.out.kept k4 id)
                  clear k4
                  go_wp2_with fail
                  go_roundw
                  case rel => exact ⟨m + 1, by omega, by go_num, HA, B4.out, K4.out⟩
                  case measure => simp [intOf]; omega
                · have HE : Hid (r = 6) := Lib.hid (by
                    rw [HV4.out, if_pos]
                    cases e : outAny l 32
                    · have := outAny_le e (show m + 1 ≤ 32 by omega)
                      rw [HA.out] at this
                      cases this
                    · rfl)
                  go_wp2_with fail
                  refine HO.out.mono ?_
                  rintro e w4 ⟨rfl, k4⟩
                  go_wp2_with fail
                  go_ret
                  exact ⟨ret_int HE.out.symm, HK2.out.trans k4 (fun _ _ g => g)⟩
              · obtain rfl : m = 32 := by omega
                have HE : Hid (r = 0) := Lib.hid (by rw [HV4.out, HM.out]; rfl)
                go_wp2_with fail
                go_ret
                exact ⟨ret_int HE.out.symm, HK2.out⟩
end Go.Proofs.Ytpdofapbbpihlaa
