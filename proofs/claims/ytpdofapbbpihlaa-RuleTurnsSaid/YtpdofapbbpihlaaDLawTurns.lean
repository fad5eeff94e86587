/- RuleTurns, given that the program's Check and Ids tell what the document says. -/
import Derived.Test.YtpdofapbbpihlaaDLawFewer
import Derived.Test.YtpdofapbbpihlaaDTurned
import Derived.Test.YtpdofapbbpihlaaDBuildB
namespace Go.Proofs.Ytpdofapbbpihlaa
open Go.RowKit

set_option maxHeartbeats 4000000 in
theorem turnsRule_any (hCheck : CheckOK) (hIds : IdsOK) (nm : ByteArray) (hnm : nm.size ≤ maxLen) (l : List Sh) (a : Option Addr) (cap : Nat) (_hcap : l.length ≤ cap ∧ cap ≤ maxLen) (k : Int) (hk : 0 ≤ k ∧ k < 256) (w : World) (h : Holds cA w (fun b _ => b < w.heap.size) (.slice a l.length cap) l) :
    Calls Try.prog 6 #[vRule nm (.slice a l.length cap), .int .u8 k] w fun e w' => e = .returned (.bool true) ∧ Kept Nil w w' := by
  have HA := Lib.hid (fun W => awakeRule_any hCheck hIds W)
  have CS := Lib.hid (fun w' (k : Kept Nil w w') => smallRule_any 60 (by decide) nm hnm l _ a cap w' (h.keptN k) (fun b o hb => Nat.lt_of_lt_of_le hb k.size))
  unfold BoolEnd at CS
  have CC : Hid (∀ w', Kept Nil w w' → countL l ≤ 60 ∧ nm.size ≤ 200 → Calls Try.prog 9 #[vRule nm (.slice a l.length cap)] w' fun e w'' => e = .returned (.int .i64 (chkRule (okName nm) l)) ∧ Kept Nil w' w'') := Lib.hid fun w' k hc => hCheck nm l _ a cap w' hc.2 hc.1 (h.keptN k)
  obtain ⟨b, hb⟩ : ∃ b, b = k.tmod 32 := ⟨_, rfl⟩
  have hbe : b = k % 32 := by rw [hb, Int.tmod_eq_emod_of_nonneg hk.1]
  have hb0 : 0 ≤ b := by omega
  have hb1 : b < 32 := by omega
  have ht : k.tmod 32 = b := hb.symm
  have hwk : IntKind.i64.wrap k = k := by rw [IntKind.wrap_i64]; omega
  have CX : Hid (∀ w' ok a' cap', countL l ≤ 60 ∧ nm.size ≤ 200 → Holds cA w' ok (.slice a' l.length cap') (turnL b l) → Calls Try.prog 9 #[vRule nm (.slice a' l.length cap')] w' fun e w'' => e = .returned (.int .i64 (chkRule (okName nm) l)) ∧ Kept Nil w' w'') := Lib.hid fun w' ok a' cap' hc hh => by
    have := hCheck nm (turnL b l) ok a' cap' w' hc.2 (by rw [(count_turn b).2]; exact hc.1) (by rw [turnL_length]; exact hh)
    rwa [chkRule_turn, turnL_length] at this
  have CT : Hid (∀ x ∈ l, ∀ ok a cap w, countL l ≤ 60 ∧ nm.size ≤ 200 → Holds cA w ok (.slice a x.subs.length cap) x.subs → Calls Try.prog 16 #[vA x.hd (.slice a x.subs.length cap), .int .i64 b] w (TurnEnd b x.hd x.subs w)) := Lib.hid fun x hx ok a cap w hc hh => turned_any b hb0 hb1 x (by have := count_mem hx; omega) ok a cap w hh
  have HH := Lib.hid h
  have HB32 := Lib.hid (show 0 ≤ b ∧ b < 32 from ⟨hb0, hb1⟩)
  clear hCheck hIds h hnm hb hbe hb0 hb1
  generalize chkRule (okName nm) l = q at CC CX
  have HLs : Hid ((countL l ≤ 60 ∧ nm.size ≤ 200) → l.length ≤ 60) := Lib.hid fun hc => by have := length_countL l; omega
  generalize hT : (countL l ≤ 60 ∧ nm.size ≤ 200) = T at CS CC CX CT HLs
  clear hT
  obtain ⟨len, hlen⟩ : ∃ len, l.length = len := ⟨_, rfl⟩
  rw [hlen] at CS CC CX HH HLs ⊢
  have HL := Lib.hid hlen
  clear hlen _hcap
  have R0 := Lib.hid (RB.start w 24 #[.string nm, .slice a len cap])
  go_enter Try.func6, Try.ntmps6
  go_wp2_with fail
  refine (CS.out _ R0.out.kept).mono ?_
  rintro e w1 ⟨bb, rfl, k1, hbb⟩
  have R1 := Lib.hid (R0.out.step k1)
  have HB := Lib.hid hbb
  clear k1 hbb R0 CS
  cases bb
  · go_wp2_with fail
    refine (HA.out _).mono ?_
    rintro e w3 ⟨rfl, k3⟩
    go_wp2_with fail
    go_ret
    exact ⟨rfl, R1.out.kept.trans k3 (fun _ _ g => g)⟩
  · have HT := HB.out rfl
    have CC2 := Lib.hid (fun w' k => CC.out w' k HT)
    have CX2 := Lib.hid (fun w' ok' a' cap' hh => CX.out w' ok' a' cap' HT hh)
    have CT2 := Lib.hid (fun x hx ok a cap w hh => CT.out x hx ok a cap w HT hh)
    have hl60 : len ≤ 60 := HLs.out HT
    clear CC CX CT HB HT HLs
    have c0 := R1.out.b0.cell 0
    have c1 := R1.out.b0.cell 1
    simp at c0 c1
    obtain ⟨X, hX⟩ : ∃ X, X = w1.heap.size := ⟨_, rfl⟩
    have hXw : w.heap.size < X := by rw [hX]; exact R1.out.b0.lt
    have RX := Lib.hid (R1.out.step ((Kept.refl Nil w1).alloc (.cells #[.string nm, .slice none 0 0] 24)))
    have BX : Hid (Blk (w1.alloc (.cells #[.string nm, .slice none 0 0] 24)) X 24 #[.string nm, .slice none 0 0]) := Lib.hid (by rw [hX]; exact Blk.new _ _ _)
    have hlw : w.heap.size < w1.heap.size := R1.out.b0.lt
    go_wp2_with fail
    rw [← hX]
    clear hX c0 c1 hlw R1
    go_loopw [18] (fun i wr => ∃ (j : Nat) (v : Value) (ps : List (Sh × Value)), j ≤ len ∧ i = .int .i64 j ∧ ps.map (·.1) = (l.take j).map (Sh.turn b) ∧ RB w 24 #[.string nm, .slice a len cap] wr ∧ Blk wr X 24 #[.string nm, v] ∧ CRow cA 45 wr (X + 1) v ps) (fun i _ => len - (intOf i).toNat)
    case atStart => exact ⟨0, .slice none 0 0, [], by omega, rfl, rfl, RX.out, BX.out, .nil _ _ _ _⟩
    case round =>
      obtain ⟨j, v, ps, hj, rfl, hps, hR, hB, hCr⟩ := hrel
      have HR := Lib.hid hR
      have HBX := Lib.hid hB
      have HCr := Lib.hid hCr
      have HP := Lib.hid hps
      have hXs : X < wr.heap.size := hB.lt
      clear hR hB hCr hps RX BX
      obtain ⟨av, capv, rfl⟩ := HCr.out.shape
      have HPL : Hid (ps.length ≤ 5000) := Lib.hid (by have := congrArg List.length HP.out; rw [List.length_map, List.length_map, List.length_take] at this; omega)
      by_cases hlt : j < len
      · obtain ⟨⟨⟨k', x0', x1', x2', n0', n1', n2'⟩, sb⟩, hx⟩ : ∃ x, l[j]? = some x := ⟨_, List.getElem?_eq_getElem (by have := HL.out; omega)⟩
        obtain ⟨b2, o, a', cap', rfl, hok, hr, hs⟩ := (HH.out.keptN HR.out.kept).at_ hx
        have HX2 : Hid (∀ (ok' : Nat → Nat → Prop) w, Holds cA w ok' (.slice a' sb.length cap') sb → Calls Try.prog 16 #[vA ⟨k', x0', x1', x2', n0', n1', n2'⟩ (.slice a' sb.length cap'), .int .i64 b] w fun e w' => ∃ a2 c2, e = .returned (vA ((⟨k', x0', x1', x2', n0', n1', n2'⟩ : Hd).turn b) (.slice a2 sb.length c2)) ∧ Holds cA w' (okM w.heap.size w') (.slice a2 sb.length c2) (turnL b sb) ∧ Kept Nil w w') := Lib.hid fun ok' w hh => CT2.out (.mk ⟨k', x0', x1', x2', n0', n1', n2'⟩ sb) (List.mem_of_getElem? hx) ok' a' cap' w hh
        have HRow := Lib.hid hr
        have HS := Lib.hid hs
        have HN : Hid ((l.take (j + 1)).map (Sh.turn b) = (l.take j).map (Sh.turn b) ++ [Sh.mk ((⟨k', x0', x1', x2', n0', n1', n2'⟩ : Hd).turn b) (turnL b sb)]) := Lib.hid (by rw [List.take_add_one, hx, List.map_append]; simp [turn_mk])
        clear hx hr hs hok
        generalize hth : (⟨k', x0', x1', x2', n0', n1', n2'⟩ : Hd).turn b = th at HX2 HN
        clear hth
        generalize turnL b sb = tsb at HX2 HN
        generalize hl' : sb.length = len' at HRow HS HX2
        clear hl'
        obtain ⟨tk, y0, y1, y2, q0, q1, q2⟩ := th
        generalize hpl : ps.length = pl at HBX HCr HPL
        have HPl := Lib.hid hpl
        clear hpl
        go_wp2_with ((with_reducible refine wpList_load_A rfl (.tmp 20) rfl _ _ rfl ⟨k', x0', x1', x2', n0', n1', n2'⟩ (.slice a' len' cap') ?_ ?_)
                     · exact HRow.out)
        obtain ⟨W1, hW1⟩ : ∃ W1, wr.alloc (.cells (arrA ⟨k', x0', x1', x2', n0', n1', n2'⟩ (.slice a' len' cap')) 45) = W1 := ⟨_, rfl⟩
        have KW : Kept Nil wr W1 := by rw [← hW1]; exact (Kept.refl Nil wr).alloc _
        have by0 : Blk W1 wr.heap.size 45 (arrA ⟨k', x0', x1', x2', n0', n1', n2'⟩ (.slice a' len' cap')) := by rw [← hW1]; exact Blk.new _ _ _
        rw [show wr.alloc (.cells #[.int .i64 k', .bool x0', .int .i64 n0', .bool x1', .int .i64 n1', .bool x2', .int .i64 n2', .slice a' len' cap'] 45) = W1 from hW1]
        have RW := Lib.hid (HR.out.step KW)
        have BW := Lib.hid (HBX.out.kept KW id)
        have CW1 := Lib.hid (HCr.out.kept KW)
        have HSW := Lib.hid (HS.out.keptN KW)
        have hXW : X < W1.heap.size := by have := KW.size; omega
        have e0 := by0.cell 0
        have e1 := by0.cell 1
        have e2 := by0.cell 2
        have e3 := by0.cell 3
        have e4 := by0.cell 4
        have e5 := by0.cell 5
        have e6 := by0.cell 6
        have e7 := by0.cell 7
        have x7 := BW.out.cell 1
        simp at e0 e1 e2 e3 e4 e5 e6 e7 x7
        clear hW1 KW by0 HR HBX HCr HS HRow hXs
        obtain ⟨i0, hi, hz0, hz1, hz2⟩ := info_parts infoCA
        have RND : Hid (∀ a2 c2 w2, Holds cA w2 (okM W1.drew.heap.size w2) (.slice a2 len' c2) tsb → Kept Nil W1.drew w2 → _) := Lib.hid fun a2 c2 w2 h2 k2 =>
          build_roundB (P := Try.prog) (t := 22) kindA Try.underlying22 hi hz0 hz1 hz2 rfl (by decide) 1 hXw RW.out BW.out rfl CW1.out HPl.out (by have := HPL.out; omega) ((Kept.refl Nil W1).drew) rfl k2 (.mk ⟨tk, y0, y1, y2, q0, q1, q2⟩ tsb) (.slice a2 len' c2) h2 45 (arrA ⟨tk, y0, y1, y2, q0, q1, q2⟩ (.slice a2 len' c2)) rfl
        clear RW BW CW1 hi hz0 hz1 hz2
        go_region_law (first
          | (refine step_append_run rfl (.tmp 23) (.tmp 29) 22 rfl _ _ rfl rfl r3 ?_)
          | (go_simp; go_at_call 16; refine (HX2.out _ _ (HSW.out.keptN ((Kept.refl Nil _).drew))).mono ?_; rintro e w2 ⟨a2, c2, rfl, h2, k2⟩; obtain ⟨c72, hX2, g, cap3, w3, r3, c73, f73, F1, F2, F3⟩ := RND.out a2 c2 w2 h2 k2; have F1' := Lib.hid F1; have F2' := Lib.hid F2; have F3' := Lib.hid F3; clear F1 F2 F3 h2 k2))
        all_goals
          go_wp2_with fail
          go_roundw
          case rel =>
            refine ⟨j + 1, _, ps ++ [(.mk ⟨tk, y0, y1, y2, q0, q1, q2⟩ tsb, .slice a2 len' c2)], by omega, by go_num, ?_, F1'.out, ?_, F3'.out⟩
            · rw [List.map_append, HP.out, HN.out]; rfl
            · exact F2'.out
          case measure => simp [intOf]; omega
      · obtain rfl : j = len := by omega
        have HE : Hid (ps.map (·.1) = turnL b l) := Lib.hid (by rw [HP.out, ← HL.out, List.take_length, turnL_eq])
        have HPl : Hid (ps.length = l.length) := Lib.hid (by have := congrArg List.length HE.out; rwa [List.length_map, turnL_length] at this)
        rw [HPl.out, HL.out] at HBX HCr
        have hh := HCr.out.holds kindA
        rw [HE.out] at hh
        have HTr := Lib.hid hh
        clear hh
        go_wp2_with fail
        have S0 : Hid (SeenR2 wr w.heap.size nm (.slice a j cap) X nm (.slice av j capv) wr.drew) := Lib.hid ⟨HR.out.b0.drew.cell 0, HR.out.b0.drew.cell 1, HBX.out.drew.cell 0, HBX.out.drew.cell 1, (Kept.refl Nil wr).drew⟩
        have KK := Lib.hid (fun w' (kk : Kept Nil wr w') => (HR.out.step kk).kept)
        go_region_held3 (SeenR2 wr w.heap.size nm (.slice a j cap) X nm (.slice av j capv))
          (first | (with_reducible assumption) | (with_reducible exact S0.out) | (with_reducible exact seenR2_kept k11 (by with_reducible assumption)) | (with_reducible exact seenR2_kept k10 (by with_reducible assumption)) | (with_reducible exact seenR2_kept k9 (by with_reducible assumption)))
          (first
            | (go_at_call 9; (with_reducible refine (CX2.out _ _ _ _ (HTr.out.keptN (seenR2_k (by with_reducible assumption)))).mono ?_); rintro e w9 ⟨rfl, k9⟩)
            | (go_at_call 9; (with_reducible refine (CC2.out _ (KK.out _ (seenR2_k (by with_reducible assumption)))).mono ?_); rintro e w10 ⟨rfl, k10⟩)
            | (go_at_call 8; refine (HA.out _).mono ?_; rintro e w11 ⟨rfl, k11⟩))
        all_goals
          have HK := Lib.hid (KK.out _ (seenR2_k (by with_reducible assumption)))
          go_wp2_with fail
          go_ret
          exact ⟨rfl, HK.out⟩
end Go.Proofs.Ytpdofapbbpihlaa
