/- Layer cond: the reference's Check. -/
import Derived.Test.YtefojaeinhgeiaaCRef
namespace Go.Proofs.Ytefojaeinhgeiaa
open Go.RowKit
set_option maxRecDepth 100000

abbrev RefCheckIH (subs : List Sh) : Prop := ∀ hd sb, Sh.mk hd sb ∈ subs → ∀ ok a cap w (d : Int), 1 ≤ d → Holds cR w ok (.slice a sb.length cap) sb →
  Calls Try.prog 19 #[vR hd (.slice a sb.length cap), .int .i64 d] w fun e w' => e = .returned (.int .i64 ((Sh.mk hd sb).chk d)) ∧ Kept Nil w w'
theorem sameT_zero (h : Hd) : h.sameT zeroH = (decide (h.x0 = false ∧ h.n0 = 0) && (decide (h.x1 = false ∧ h.n1 = 0) && decide (h.x2 = false ∧ h.n2 = 0))) := by
  unfold Hd.sameT zeroH
  simp
set_option maxHeartbeats 2000000 in
theorem refTerms_part (k : Int) (x0 x1 x2 : Bool) (n0 n1 n2 : Int) (a : Option Addr) (len cap : Nat) (w : World) (d : Int) (hd3 : decide (3 < d) = false) (hk1 : 1 ≤ k) (hk2 : k < 3) :
    Calls Try.prog 19 #[vR ⟨k, x0, x1, x2, n0, n1, n2⟩ (.slice a len cap), .int .i64 d] w fun e w' => e = .returned (.int .i64 (termsT ⟨k, x0, x1, x2, n0, n1, n2⟩ len)) ∧ Kept Nil w w' := by
  have R0 := Lib.hid (fun W => refRight_any x0 n0 W)
  have R1 := Lib.hid (fun W => refRight_any x1 n1 W)
  have R2 := Lib.hid (fun W => refRight_any x2 n2 W)
  have HT : Hid (termsT ⟨k, x0, x1, x2, n0, n1, n2⟩ len = if (okTm x0 n0 && okTm x1 n1 && okTm x2 n2) = false then 4 else if 0 < len then 4 else 0) := Lib.hid rfl
  generalize hb0 : okTm x0 n0 = b0 at HT R0
  generalize hb1 : okTm x1 n1 = b1 at HT R1
  generalize hb2 : okTm x2 n2 = b2 at HT R2
  clear hb0 hb1 hb2
  have B0 := Lib.hid (Blk.new w 45 (arrR ⟨k, x0, x1, x2, n0, n1, n2⟩ (.slice a len cap)))
  have K0 := Lib.hid ((Kept.refl Nil w).alloc (.cells (arrR ⟨k, x0, x1, x2, n0, n1, n2⟩ (.slice a len cap)) 45))
  have q1 : decide (k < 1) = false := decide_eq_false (by omega)
  have q3 : decide (3 < k) = false := decide_eq_false (by omega)
  go_enter Try.func19, Try.ntmps19
  go_wp2_with fail
  go_loopw [5] (fun i wr => ((i = .int .i64 0) ∨ (i = .int .i64 1 ∧ b0 = true) ∨ (i = .int .i64 2 ∧ b0 = true ∧ b1 = true) ∨ (i = .int .i64 3 ∧ b0 = true ∧ b1 = true ∧ b2 = true)) ∧ Blk wr w.heap.size 45 (arrR ⟨k, x0, x1, x2, n0, n1, n2⟩ (.slice a len cap)) ∧ Kept Nil w wr) (fun i _ => (3 - intOf i).toNat)
  case atStart => exact ⟨.inl rfl, B0.out, K0.out⟩
  case round =>
    obtain ⟨hrel, hB, hK⟩ := hrel
    have HB := Lib.hid hB
    have HK := Lib.hid hK
    have c1 := hB.cell 1
    have c2 := hB.cell 2
    have c3 := hB.cell 3
    have c4 := hB.cell 4
    have c5 := hB.cell 5
    have c6 := hB.cell 6
    have c7 := hB.cell 7
    simp at c1 c2 c3 c4 c5 c6 c7
    clear hB hK B0 K0
    rcases hrel with rfl | ⟨rfl, rfl⟩ | ⟨rfl, rfl, rfl⟩ | ⟨rfl, rfl, rfl, rfl⟩
    · go_wp2_with fail
      refine (R0.out _).mono ?_
      rintro e w2 ⟨rfl, k2⟩
      have KB := Lib.hid (HB.out.kept k2 id)
      clear c1 c2 c3 c4 c5 c6 c7
      cases b0
      · go_wp2_with fail
        go_ret
        exact ⟨by rw [HT.out]; rfl, HK.out.trans k2 (fun _ _ g => g)⟩
      · go_wp2_with fail
        go_roundw
        case rel => exact ⟨by simp, KB.out, HK.out.trans k2 (fun _ _ g => g)⟩
        case measure => decide
    · go_wp2_with fail
      refine (R1.out _).mono ?_
      rintro e w2 ⟨rfl, k2⟩
      have KB := Lib.hid (HB.out.kept k2 id)
      clear c1 c2 c3 c4 c5 c6 c7
      cases b1
      · go_wp2_with fail
        go_ret
        exact ⟨by rw [HT.out]; rfl, HK.out.trans k2 (fun _ _ g => g)⟩
      · go_wp2_with fail
        go_roundw
        case rel => exact ⟨by simp, KB.out, HK.out.trans k2 (fun _ _ g => g)⟩
        case measure => decide
    · go_wp2_with fail
      refine (R2.out _).mono ?_
      rintro e w2 ⟨rfl, k2⟩
      have KB := Lib.hid (HB.out.kept k2 id)
      clear c1 c2 c3 c4 c5 c6 c7
      cases b2
      · go_wp2_with fail
        go_ret
        exact ⟨by rw [HT.out]; rfl, HK.out.trans k2 (fun _ _ g => g)⟩
      · go_wp2_with fail
        go_roundw
        case rel => exact ⟨by simp, KB.out, HK.out.trans k2 (fun _ _ g => g)⟩
        case measure => decide
    · by_cases hl : 0 < len
      · go_wp2_with fail
        go_ret
        exact ⟨by rw [HT.out]; simp [hl], HK.out⟩
      · have hd : decide (0 < len) = false := decide_eq_false hl
        go_wp2_with fail
        go_ret
        exact ⟨by rw [HT.out]; simp [hl], HK.out⟩
theorem isV_true : isV true = 1 := rfl
theorem isV_false : isV false = 0 := rfl
set_option maxHeartbeats 2000000 in
theorem refNcc_part (x0 x1 x2 : Bool) (n0 n1 n2 : Int) (subs : List Sh) (len : Nat) (HL : Hid (subs.length = len)) (hLen : len ≤ 5000) (IH : Hid (RefCheckIH subs))
    (ok : Nat → Nat → Prop) (a : Option Addr) (cap : Nat) (w : World) (HH : Hid (Holds cR w ok (.slice a len cap) subs)) (d : Int) (hd1 : 1 ≤ d) (hd2 : d ≤ 3) :
    Calls Try.prog 19 #[vR ⟨3, x0, x1, x2, n0, n1, n2⟩ (.slice a len cap), .int .i64 d] w fun e w' => e = .returned (.int .i64 (nccT ⟨3, x0, x1, x2, n0, n1, n2⟩ subs d)) ∧ Kept Nil w w' := by
  have HT : Hid (nccT ⟨3, x0, x1, x2, n0, n1, n2⟩ subs d = if (decide (x0 = false ∧ n0 = 0) && (decide (x1 = false ∧ n1 = 0) && decide (x2 = false ∧ n2 = 0))) = false then 4 else if len = 0 then 2 else chkL subs (d + 1)) := Lib.hid (by rw [← HL.out]; unfold nccT; rw [sameT_zero])
  have B0 := Lib.hid (Blk.new w 45 (arrR ⟨3, x0, x1, x2, n0, n1, n2⟩ (.slice a len cap)))
  have K0 := Lib.hid ((Kept.refl Nil w).alloc (.cells (arrR ⟨3, x0, x1, x2, n0, n1, n2⟩ (.slice a len cap)) 45))
  have hd3 : decide (3 < d) = false := decide_eq_false (by omega)
  have v1 := isV_true
  have v0 := isV_false
  go_enter Try.func19, Try.ntmps19
  go_wp2_with fail
  go_loopw [6] (fun i wr => ((i = .int .i64 0) ∨ (i = .int .i64 1 ∧ (x0 = false ∧ n0 = 0)) ∨ (i = .int .i64 2 ∧ (x0 = false ∧ n0 = 0) ∧ (x1 = false ∧ n1 = 0)) ∨ (i = .int .i64 3 ∧ (x0 = false ∧ n0 = 0) ∧ (x1 = false ∧ n1 = 0) ∧ (x2 = false ∧ n2 = 0))) ∧ Blk wr w.heap.size 45 (arrR ⟨3, x0, x1, x2, n0, n1, n2⟩ (.slice a len cap)) ∧ Kept Nil w wr) (fun i _ => (3 - intOf i).toNat)
  case atStart => exact ⟨.inl rfl, B0.out, K0.out⟩
  case round =>
    obtain ⟨hrel, hB, hK⟩ := hrel
    have HB := Lib.hid hB
    have HK := Lib.hid hK
    have c1 := hB.cell 1
    have c2 := hB.cell 2
    have c3 := hB.cell 3
    have c4 := hB.cell 4
    have c5 := hB.cell 5
    have c6 := hB.cell 6
    have c7 := hB.cell 7
    simp only [arrR] at c1 c2 c3 c4 c5 c6 c7
    simp at c1 c2 c3 c4 c5 c6 c7
    clear hB hK B0 K0
    rcases hrel with rfl | ⟨rfl, rfl, rfl⟩ | ⟨rfl, ⟨rfl, rfl⟩, rfl, rfl⟩ | ⟨rfl, ⟨rfl, rfl⟩, ⟨rfl, rfl⟩, rfl, rfl⟩
    · cases x0
      · by_cases hn : n0 = 0
        · subst hn
          go_wp2_with fail
          go_roundw
          case rel => exact ⟨by simp, HB.out, HK.out⟩
          case measure => decide
        · have hn' : (n0 == 0) = false := by simpa using hn
          go_wp2_with fail
          go_ret
          exact ⟨by rw [HT.out]; simp [hn], HK.out⟩
      · go_wp2_with fail
        go_ret
        exact ⟨by rw [HT.out]; simp, HK.out⟩
    · cases x1
      · by_cases hn : n1 = 0
        · subst hn
          go_wp2_with fail
          go_roundw
          case rel => exact ⟨by simp, HB.out, HK.out⟩
          case measure => decide
        · have hn' : (n1 == 0) = false := by simpa using hn
          go_wp2_with fail
          go_ret
          exact ⟨by rw [HT.out]; simp [hn], HK.out⟩
      · go_wp2_with fail
        go_ret
        exact ⟨by rw [HT.out]; simp, HK.out⟩
    · cases x2
      · by_cases hn : n2 = 0
        · subst hn
          go_wp2_with fail
          go_roundw
          case rel => exact ⟨by simp, HB.out, HK.out⟩
          case measure => decide
        · have hn' : (n2 == 0) = false := by simpa using hn
          go_wp2_with fail
          go_ret
          exact ⟨by rw [HT.out]; simp [hn], HK.out⟩
      · go_wp2_with fail
        go_ret
        exact ⟨by rw [HT.out]; simp, HK.out⟩
    · clear c1 c2 c3 c4 c5 c6
      rcases Nat.eq_zero_or_pos len with rfl | hpos
      · go_wp2_with fail
        go_ret
        exact ⟨by rw [HT.out]; simp, HK.out⟩
      · have h0 : len ≠ 0 := by omega
        have h0' : ((len : Int) == 0) = false := by simp; omega
        have HT2 : Hid (nccT ⟨3, false, false, false, 0, 0, 0⟩ subs d = chkL subs (d + 1)) := Lib.hid (by rw [HT.out]; simp [h0])
        clear HT
        go_wp2_with fail
        go_loopw [62] (fun i wr => ∃ j : Nat, j ≤ len ∧ i = .int .i64 j ∧ chkL subs (d + 1) = chkL (subs.drop j) (d + 1) ∧ Kept Nil w wr) (fun i _ => len - (intOf i).toNat)
        case atStart => exact ⟨0, by omega, rfl, rfl, HK.out⟩
        case round =>
          obtain ⟨j, hj, rfl, hch, hK⟩ := hrel
          have HK := Lib.hid hK
          have HCh := Lib.hid hch
          clear hK hch c7
          by_cases hlt : j < len
          · obtain ⟨⟨⟨k', x0', x1', x2', n0', n1', n2'⟩, sb⟩, hx⟩ : ∃ x, subs[j]? = some x := ⟨_, List.getElem?_eq_getElem (by have := HL.out; omega)⟩
            obtain ⟨b, o, a', cap', rfl, hok, hr, hs⟩ := (HH.out.keptN HK.out).at_ hx
            have HX := Lib.hid (IH.out _ _ (List.mem_of_getElem? hx))
            have HR := Lib.hid hr
            have HS := Lib.hid hs
            have HN := Lib.hid (chkL_drop hx (d + 1))
            clear hx hr hs hok
            have HX2 : Hid (∀ w, Holds cR w ok (.slice a' sb.length cap') sb → Calls Try.prog 19 #[vR ⟨k', x0', x1', x2', n0', n1', n2'⟩ (.slice a' sb.length cap'), .int .i64 (d + 1)] w fun e w' => e = .returned (.int .i64 ((Sh.mk ⟨k', x0', x1', x2', n0', n1', n2'⟩ sb).chk (d + 1))) ∧ Kept Nil w w') := Lib.hid fun w h => HX.out ok a' cap' w (d + 1) (by omega) h
            clear HX
            generalize hv : (Sh.mk ⟨k', x0', x1', x2', n0', n1', n2'⟩ sb).chk (d + 1) = v at HX2 HN
            clear hv
            generalize sb.length = len' at HR HS HX2
            go_wp2_with ((with_reducible refine wpList_load_R rfl (.tmp 64) rfl _ _ rfl ⟨k', x0', x1', x2', n0', n1', n2'⟩ (.slice a' len' cap') ?_ ?_)
                         · exact HR.out)
            refine (HX2.out _ (HS.out.keptN ((Kept.refl Nil _).alloc _))).mono ?_
            rintro e w2 ⟨rfl, k2⟩
            by_cases hv : v = 0
            · subst hv
              go_wp2_with fail
              go_roundw
              case rel => exact ⟨j + 1, by omega, by go_num, by rw [HCh.out, HN.out]; simp, (HK.out.alloc _).trans k2 (fun _ _ g => g)⟩
              case measure => simp [intOf]; omega
            · have hv' : (v == 0) = false := by simpa using hv
              go_wp2_with fail
              go_ret
              exact ⟨by rw [HT2.out, HCh.out, HN.out]; simp [hv], (HK.out.alloc _).trans k2 (fun _ _ g => g)⟩
          · obtain rfl : j = len := by omega
            have HE : Hid (chkL (subs.drop j) (d + 1) = 0) := Lib.hid (by rw [← HL.out, List.drop_length]; rfl)
            go_wp2_with fail
            go_ret
            exact ⟨by rw [HT2.out, HCh.out, HE.out]; rfl, HK.out⟩
theorem refCheck_step (hd : Hd) (subs : List Sh) (hLen : subs.length ≤ 5000) (IH : Hid (RefCheckIH subs))
    (ok : Nat → Nat → Prop) (a : Option Addr) (cap : Nat) (w : World) (h : Holds cR w ok (.slice a subs.length cap) subs) (d : Int) (hd1 : 1 ≤ d) :
    Calls Try.prog 19 #[vR hd (.slice a subs.length cap), .int .i64 d] w fun e w' => e = .returned (.int .i64 ((Sh.mk hd subs).chk d)) ∧ Kept Nil w w' := by
  rw [chk_mk]
  obtain ⟨k, x0, x1, x2, n0, n1, n2⟩ := hd
  by_cases h3 : 3 < d
  · rw [if_pos h3]
    clear IH h
    generalize subs.length = len
    have K0 := Lib.hid ((Kept.refl Nil w).alloc (.cells (arrR ⟨k, x0, x1, x2, n0, n1, n2⟩ (.slice a len cap)) 45))
    go_enter Try.func19, Try.ntmps19
    go_wp2_with fail
    go_ret
    exact ⟨rfl, K0.out⟩
  · rw [if_neg h3]
    by_cases hk : k = 3
    · subst hk
      rw [if_pos rfl]
      exact refNcc_part x0 x1 x2 n0 n1 n2 subs _ rfl hLen IH ok a cap w h d hd1 (by omega)
    · rw [if_neg hk]
      by_cases hk2 : k = 1 ∨ k = 2
      · rw [if_pos hk2]
        exact refTerms_part k x0 x1 x2 n0 n1 n2 a _ cap w d (decide_eq_false h3) (by omega) (by omega)
      · rw [if_neg hk2]
        clear IH h
        generalize subs.length = len
        have K0 := Lib.hid ((Kept.refl Nil w).alloc (.cells (arrR ⟨k, x0, x1, x2, n0, n1, n2⟩ (.slice a len cap)) 45))
        have hd3 : decide (3 < d) = false := decide_eq_false h3
        by_cases hlo : k < 1
        · go_enter Try.func19, Try.ntmps19
          go_wp2_with fail
          go_ret
          exact ⟨rfl, K0.out⟩
        · have hlo' : decide (k < 1) = false := decide_eq_false hlo
          have hhi : 3 < k := by omega
          go_enter Try.func19, Try.ntmps19
          go_wp2_with fail
          go_ret
          exact ⟨rfl, K0.out⟩
theorem refCheck_any : ∀ s : Sh, s.count ≤ 5000 → ∀ ok a cap w (d : Int), 1 ≤ d → Holds cR w ok (.slice a s.subs.length cap) s.subs →
    Calls Try.prog 19 #[vR s.hd (.slice a s.subs.length cap), .int .i64 d] w fun e w' => e = .returned (.int .i64 (s.chk d)) ∧ Kept Nil w w' := by
  refine Sh.ind fun hd subs ih hc ok a cap w d h1 h => ?_
  have hc' : 1 + countL subs ≤ 5000 := by simpa [Sh.count] using hc
  have hl := length_countL subs
  exact refCheck_step hd subs (by omega) (fun hd' sb hx ok a cap w d' h1 hh => ih _ hx (by have := count_mem hx; omega) ok a cap w d' h1 hh) ok a cap w h d h1
end Go.Proofs.Ytefojaeinhgeiaa
