/- Layer comp: the reference's Same of steps, and All. – Layer comp: the reference's All: two lists of steps. – Layer trie: the reference's Distinct: each chain once. – Layer trie: the reference's chains, as a law that goes on calling the trie sees them. – Layer trie: the numbers that there are, in their order; a list added and removed leaves them as they were. No program. – Layer trie: All: the numbers that there are, in their order. -/
import Derived.Test.YtljefbfjehblpaaGreatA12
import Derived.Test.YtljefbfjehblpaaGreatA15
import Derived.Deep.RegionHeld3
import Derived.Test.YtljefbfjehblpaaGreatA13
import Derived.Test.YtljefbfjehblpaaGreatZShelf
import Derived.StillTailTactics
namespace Go.Proofs.YtljefbfjehblpaaGreat
section
section
open Go.RowKit
set_option maxRecDepth 100000

/-- What is read in the region that asks for two Subs. -/
abbrev SeenP (w0 : World) (A B : Nat) (va vb : Value) (b p : Nat) (c0 c1 c2 c3 c4 c5 : Value) (b' p' : Nat) (d0 d1 d2 d3 d4 d5 : Value) (w' : World) : Prop :=
  w'.cell? ⟨A, 5, none⟩ = some va ∧ w'.cell? ⟨B, 5, none⟩ = some vb ∧ w'.cell? ⟨b, p, none⟩ = some c0 ∧ w'.cell? ⟨b, p + 1, none⟩ = some c1 ∧ w'.cell? ⟨b, p + 2, none⟩ = some c2 ∧ w'.cell? ⟨b, p + 3, none⟩ = some c3 ∧ w'.cell? ⟨b, p + 4, none⟩ = some c4 ∧ w'.cell? ⟨b, p + 5, none⟩ = some c5 ∧
  w'.cell? ⟨b', p', none⟩ = some d0 ∧ w'.cell? ⟨b', p' + 1, none⟩ = some d1 ∧ w'.cell? ⟨b', p' + 2, none⟩ = some d2 ∧ w'.cell? ⟨b', p' + 3, none⟩ = some d3 ∧ w'.cell? ⟨b', p' + 4, none⟩ = some d4 ∧ w'.cell? ⟨b', p' + 5, none⟩ = some d5 ∧ Kept Nil w0 w'
section
variable {w0 w w' : World} {A B b p : Nat} {va vb c0 c1 c2 c3 c4 c5 : Value} {b' p' : Nat} {d0 d1 d2 d3 d4 d5 : Value}
theorem seenP_of (ha : w.cell? ⟨A, 5, none⟩ = some va) (hb : w.cell? ⟨B, 5, none⟩ = some vb) (r : w.rangeAt b p [c0, c1, c2, c3, c4, c5]) (r' : w.rangeAt b' p' [d0, d1, d2, d3, d4, d5]) (k : Kept Nil w0 w) : SeenP w0 A B va vb b p c0 c1 c2 c3 c4 c5 b' p' d0 d1 d2 d3 d4 d5 w :=
  ⟨ha, hb, r 0 _ rfl, r 1 _ rfl, r 2 _ rfl, r 3 _ rfl, r 4 _ rfl, r 5 _ rfl, r' 0 _ rfl, r' 1 _ rfl, r' 2 _ rfl, r' 3 _ rfl, r' 4 _ rfl, r' 5 _ rfl, k⟩
theorem seenP_kept (k : Kept Nil w w') (h : SeenP w0 A B va vb b p c0 c1 c2 c3 c4 c5 b' p' d0 d1 d2 d3 d4 d5 w) : SeenP w0 A B va vb b p c0 c1 c2 c3 c4 c5 b' p' d0 d1 d2 d3 d4 d5 w' := by
  obtain ⟨h0, h1, h2, h3, h4, h5, h6, h7, g0, g1, g2, g3, g4, g5, kk⟩ := h
  exact ⟨k.cellOf h0, k.cellOf h1, k.cellOf h2, k.cellOf h3, k.cellOf h4, k.cellOf h5, k.cellOf h6, k.cellOf h7, k.cellOf g0, k.cellOf g1, k.cellOf g2, k.cellOf g3, k.cellOf g4, k.cellOf g5, kk.trans k (fun _ _ g => g)⟩
end
abbrev RefSameSIH (subs : List St) : Prop := ∀ hd sb, St.mk hd sb ∈ subs → ∀ hd' sb' ok ok' ta tc a cap ta' tc' a' cap' w, (St.mk hd' sb').mass ≤ 5000 → TsAt w ok (.slice ta hd.ts.length tc) hd.ts → SHolds w ok (.slice a sb.length cap) sb → TsAt w ok' (.slice ta' hd'.ts.length tc') hd'.ts → SHolds w ok' (.slice a' sb'.length cap') sb' →
  Calls Tryz.prog 49 #[vS hd (.slice ta hd.ts.length tc) (.slice a sb.length cap), vS hd' (.slice ta' hd'.ts.length tc') (.slice a' sb'.length cap')] w fun e w' => e = .returned (.bool ((St.mk hd sb).same (.mk hd' sb'))) ∧ Kept Nil w w'
set_option maxHeartbeats 4000000 in
theorem refSameS_step (k x0 x1 x2 : Int) (ts : List Tst) (subs : List St) (htl : ts.length ≤ 5000) (hLen : subs.length ≤ 5000) (IH : Hid (RefSameSIH subs))
    (ok ok' : Nat → Nat → Prop) (ta : Option Addr) (tc : Nat) (a : Option Addr) (cap : Nat) (w : World) (ht : TsAt w ok (.slice ta ts.length tc) ts) (h : SHolds w ok (.slice a subs.length cap) subs)
    (k' y0 y1 y2 : Int) (us : List Tst) (subs' : List St) (hul : us.length ≤ 5000) (hLen' : subs'.length ≤ 5000) (hC' : ∀ y ∈ subs', y.mass ≤ 5000) (ta' : Option Addr) (tc' : Nat) (a' : Option Addr) (cap' : Nat) (ht' : TsAt w ok' (.slice ta' us.length tc') us) (h' : SHolds w ok' (.slice a' subs'.length cap') subs') :
    Calls Tryz.prog 49 #[vS ⟨k, x0, x1, x2, ts⟩ (.slice ta ts.length tc) (.slice a subs.length cap), vS ⟨k', y0, y1, y2, us⟩ (.slice ta' us.length tc') (.slice a' subs'.length cap')] w fun e w' => e = .returned (.bool ((St.mk ⟨k, x0, x1, x2, ts⟩ subs).same (.mk ⟨k', y0, y1, y2, us⟩ subs'))) ∧ Kept Nil w w' := by
  have hq : ∀ W, (Op.equalIn 10000 56 (.agg #[.int .i64 x0, .int .i64 x1, .int .i64 x2]) (.agg #[.int .i64 y0, .int .i64 y1, .int .i64 y2])).run Tryz.prog W = .ok (decide (x0 = y0 ∧ x1 = y1 ∧ x2 = y2)) W := fun W => eqArr x0 x1 x2 y0 y1 y2 W
  have HV : Hid ((St.mk ⟨k, x0, x1, x2, ts⟩ subs).same (.mk ⟨k', y0, y1, y2, us⟩ subs') = (decide (k = k') && (decide (x0 = y0 ∧ x1 = y1 ∧ x2 = y2) && eqTs ts us) && sameSL subs subs')) := Lib.hid (by rw [sameS_mk, SH.same_eq])
  have HT := Lib.hid ht
  have HT' := Lib.hid ht'
  have HS := Lib.hid h
  have HS' := Lib.hid h'
  have HC' := Lib.hid hC'
  generalize (St.mk ⟨k, x0, x1, x2, ts⟩ subs).same (.mk ⟨k', y0, y1, y2, us⟩ subs') = v at HV ⊢
  generalize decide (x0 = y0 ∧ x1 = y1 ∧ x2 = y2) = z at HV hq
  clear ht ht' h h' hC'
  obtain ⟨n1, hn1⟩ : ∃ n, ts.length = n := ⟨_, rfl⟩
  obtain ⟨n2, hn2⟩ : ∃ n, us.length = n := ⟨_, rfl⟩
  obtain ⟨l1, hl1⟩ : ∃ n, subs.length = n := ⟨_, rfl⟩
  obtain ⟨l2, hl2⟩ : ∃ n, subs'.length = n := ⟨_, rfl⟩
  rw [hn1] at HT htl ⊢
  rw [hn2] at HT' hul ⊢
  rw [hl1] at HS hLen ⊢
  rw [hl2] at HS' hLen' ⊢
  have HN1 := Lib.hid hn1
  have HN2 := Lib.hid hn2
  have HL1 := Lib.hid hl1
  have HL2 := Lib.hid hl2
  clear hn1 hn2 hl1 hl2
  have T0 := Lib.hid (TwoS.start w 82 (arrS ⟨k, x0, x1, x2, ts⟩ (.slice ta n1 tc) (.slice a l1 cap)) (arrS ⟨k', y0, y1, y2, us⟩ (.slice ta' n2 tc') (.slice a' l2 cap')))
  by_cases hk : k = k'
  · have hkk : (k != k') = false := by simpa using hk
    have HV1 : Hid (v = ((z && eqTs ts us) && sameSL subs subs')) := Lib.hid (by rw [HV.out, decide_eq_true hk]; rfl)
    clear HV hk
    cases z
    · go_enter Tryz.func49, Tryz.ntmps49
      go_wp2_with fail
      go_ret
      exact ⟨ret_bool (by rw [HV1.out]; rfl), T0.out.kept⟩
    · by_cases hn : n1 = n2
      · subst hn
        by_cases hl : l1 = l2
        · subst hl
          go_enter Tryz.func49, Tryz.ntmps49
          go_wp2_with fail
          go_loopw [5, 40] (fun _ i wr => ∃ j : Nat, j ≤ n1 ∧ i = .int .i64 j ∧ eqTs ts us = eqTs (ts.drop j) (us.drop j) ∧ TwoS w 82 (arrS ⟨k, x0, x1, x2, ts⟩ (.slice ta n1 tc) (.slice a l1 cap)) (arrS ⟨k', y0, y1, y2, us⟩ (.slice ta' n1 tc') (.slice a' l1 cap')) wr) (fun _ i _ => n1 - (intOf i).toNat)
          case atStart => exact ⟨0, by omega, rfl, rfl, T0.out⟩
          case round =>
            obtain ⟨j, hj, rfl, hch, hTw⟩ := hrel
            have HTw := Lib.hid hTw
            have HCh := Lib.hid hch
            have a4 := hTw.b0.cell 4
            have b4 := hTw.b1.cell 4
            have hs1 : w.heap.size < wr.heap.size := hTw.b0.lt
            have hs2 : w.heap.size + 1 < wr.heap.size := hTw.b1.lt
            simp at a4 b4
            clear hTw hch T0
            by_cases hlt : j < n1
            · obtain ⟨⟨t0, t1, t2⟩, hx⟩ : ∃ x, ts[j]? = some x := ⟨_, List.getElem?_eq_getElem (by have := HN1.out; omega)⟩
              obtain ⟨⟨u0, u1, u2⟩, hx'⟩ : ∃ x, us[j]? = some x := ⟨_, List.getElem?_eq_getElem (by have := HN2.out; omega)⟩
              obtain ⟨b, o, rfl, _, hr⟩ := (HT.out.keptN HTw.out.kept).at_ hx
              obtain ⟨b', o', rfl, _, hr'⟩ := (HT'.out.keptN HTw.out.kept).at_ hx'
              have p0 : wr.cell? ⟨b, o + j * 3, none⟩ = some (.int .i64 t0) := hr 0 _ rfl
              have p1 : wr.cell? ⟨b, o + j * 3 + 1, none⟩ = some (.int .i64 t1) := hr 1 _ rfl
              have p2 : wr.cell? ⟨b, o + j * 3 + 2, none⟩ = some (.int .i64 t2) := hr 2 _ rfl
              have q0 : wr.cell? ⟨b', o' + j * 3, none⟩ = some (.int .i64 u0) := hr' 0 _ rfl
              have q1 : wr.cell? ⟨b', o' + j * 3 + 1, none⟩ = some (.int .i64 u1) := hr' 1 _ rfl
              have q2 : wr.cell? ⟨b', o' + j * 3 + 2, none⟩ = some (.int .i64 u2) := hr' 2 _ rfl
              have HN := Lib.hid (eqTs_drop hx hx')
              have hqt : ∀ W, (Op.equalIn 10000 99 (.agg #[.int .i64 t0, .int .i64 t1, .int .i64 t2]) (.agg #[.int .i64 u0, .int .i64 u1, .int .i64 u2])).run Tryz.prog W = .ok (decide ((t0, t1, t2) = (u0, u1, u2))) W := fun W => by
                rw [eqTestR]; congr 1; rw [Bool.eq_iff_iff, decide_eq_true_iff, decide_eq_true_iff]; simp
              generalize decide ((t0, t1, t2) = (u0, u1, u2)) = q at hqt HN
              clear hx hx' hr hr'
              have hj0 : (0 : Int) ≤ (j : Int) := by omega
              have hjl : (j : Int) < (n1 : Int) := by omega
              cases q
              · go_wp2_with fail
                go_quiet (fail)
                go_wp2_with fail
                go_ret
                exact ⟨ret_bool (by rw [HV1.out, HCh.out, HN.out]; rfl), HTw.out.kept.drewN _⟩
              · go_wp2_with fail
                go_quiet (fail)
                go_wp2_with fail
                go_roundw
                case rel => exact ⟨j + 1, by omega, by go_num, by rw [HCh.out, HN.out]; rfl, HTw.out.step ((Kept.refl Nil wr).drewN _)⟩
                case measure => simp [intOf]; omega
            · obtain rfl : n1 = j := by omega
              have HV2 : Hid (v = sameSL subs subs') := Lib.hid (by rw [HV1.out, HCh.out, List.drop_eq_nil_of_le (by have := HN1.out; omega), List.drop_eq_nil_of_le (by have := HN2.out; omega)]; rfl)
              have a5 := HTw.out.b0.cell 5
              have b5 := HTw.out.b1.cell 5
              simp at a5 b5
              clear HV1 HCh a4 b4
              go_wp2_with fail
              go_loopw [6, 58] (fun _ i wr => ∃ j : Nat, j ≤ l1 ∧ i = .int .i64 j ∧ sameSL subs subs' = sameSL (subs.drop j) (subs'.drop j) ∧ TwoS w 82 (arrS ⟨k, x0, x1, x2, ts⟩ (.slice ta n1 tc) (.slice a l1 cap)) (arrS ⟨k', y0, y1, y2, us⟩ (.slice ta' n1 tc') (.slice a' l1 cap')) wr) (fun _ i _ => l1 - (intOf i).toNat)
              case atStart => exact ⟨0, by omega, rfl, rfl, HTw.out⟩
              case round =>
                obtain ⟨i, hi, rfl, hch, hT2⟩ := hrel
                have HT2 := Lib.hid hT2
                have HCh := Lib.hid hch
                clear hT2 hch a5 b5 HTw HN1 HN2
                by_cases hlt2 : i < l1
                · obtain ⟨⟨⟨k1, m0, m1, m2, ts1⟩, sb⟩, hx⟩ : ∃ x, subs[i]? = some x := ⟨_, List.getElem?_eq_getElem (by have := HL1.out; omega)⟩
                  obtain ⟨⟨⟨k2, m3, m4, m5, ts2⟩, sb'⟩, hx'⟩ : ∃ x, subs'[i]? = some x := ⟨_, List.getElem?_eq_getElem (by have := HL2.out; omega)⟩
                  obtain ⟨b, o, t1, d1, a1, c1, rfl, _, hr, ht, hs⟩ := (HS.out.keptN HT2.out.kept).at_ hx
                  obtain ⟨b', o', t2, d2, a2, c2, rfl, _, hr', ht', hs'⟩ := (HS'.out.keptN HT2.out.kept).at_ hx'
                  have hc' : (St.mk ⟨k2, m3, m4, m5, ts2⟩ sb').mass ≤ 5000 := HC'.out _ (List.mem_of_getElem? hx')
                  have HX : Hid (∀ W, Kept Nil wr W → Calls Tryz.prog 49 #[vS ⟨k1, m0, m1, m2, ts1⟩ (.slice t1 ts1.length d1) (.slice a1 sb.length c1), vS ⟨k2, m3, m4, m5, ts2⟩ (.slice t2 ts2.length d2) (.slice a2 sb'.length c2)] W fun e w' => e = .returned (.bool ((St.mk ⟨k1, m0, m1, m2, ts1⟩ sb).same (.mk ⟨k2, m3, m4, m5, ts2⟩ sb'))) ∧ Kept Nil W w') := Lib.hid fun W kW =>
                    IH.out _ _ (List.mem_of_getElem? hx) _ sb' ok ok' t1 d1 a1 c1 t2 d2 a2 c2 W hc' (ht.keptN kW) (hs.keptN kW) (ht'.keptN kW) (hs'.keptN kW)
                  have HN := Lib.hid (sameSL_drop hx hx')
                  have HR : Hid (wr.rangeAt b (o + i * 6) (cS ⟨k1, m0, m1, m2, ts1⟩ (.slice t1 ts1.length d1) (.slice a1 sb.length c1))) := Lib.hid hr
                  have HR' : Hid (wr.rangeAt b' (o' + i * 6) (cS ⟨k2, m3, m4, m5, ts2⟩ (.slice t2 ts2.length d2) (.slice a2 sb'.length c2))) := Lib.hid hr'
                  generalize (St.mk ⟨k1, m0, m1, m2, ts1⟩ sb).same (.mk ⟨k2, m3, m4, m5, ts2⟩ sb') = q at HX HN
                  generalize ts1.length = e1 at HR HX
                  generalize ts2.length = e2 at HR' HX
                  generalize sb.length = f1 at HR HX
                  generalize sb'.length = f2 at HR' HX
                  have SQ := Lib.hid (seenP_of (w0 := w) (va := .slice (some ⟨b, o, none⟩) l1 cap) (vb := .slice (some ⟨b', o', none⟩) l1 cap') (HT2.out.b0.drew.cell 5) (HT2.out.b1.drew.cell 5) (rangeAt_kept ((Kept.refl Nil wr).drew) id HR.out) (rangeAt_kept ((Kept.refl Nil wr).drew) id HR'.out) HT2.out.kept.drew)
                  clear hx hx' hs hs' ht ht' hr hr' hc' HR HR'
                  have hj0 : (0 : Int) ≤ (i : Int) := by omega
                  have hjl : (i : Int) < (l1 : Int) := by omega
                  cases q
                  · go_wp2_with fail
                    go_region_held3 (SeenP w w.heap.size (w.heap.size + 1) (.slice (some ⟨b, o, none⟩) l1 cap) (.slice (some ⟨b', o', none⟩) l1 cap') b (o + i * 6) (.int .i64 k1) (.int .i64 m0) (.int .i64 m1) (.int .i64 m2) (.slice t1 e1 d1) (.slice a1 f1 c1) b' (o' + i * 6) (.int .i64 k2) (.int .i64 m3) (.int .i64 m4) (.int .i64 m5) (.slice t2 e2 d2) (.slice a2 f2 c2))
                      (first | (with_reducible assumption) | (with_reducible exact SQ.out) | (with_reducible exact seenP_kept k9 (by with_reducible assumption)))
                      (first
                        | (go_at_call 49; refine (HX.out _ ((Kept.refl Nil wr).drew)).mono ?_; rintro e w9 ⟨rfl, k9⟩))
                    have T9 := Lib.hid (HT2.out.step (((Kept.refl Nil wr).drew).trans k9 (fun _ _ g => g)))
                    clear k9
                    go_wp2_with fail
                    go_ret
                    exact ⟨ret_bool (by rw [HV2.out, HCh.out, HN.out]; rfl), T9.out.kept⟩
                  · go_wp2_with fail
                    go_region_held3 (SeenP w w.heap.size (w.heap.size + 1) (.slice (some ⟨b, o, none⟩) l1 cap) (.slice (some ⟨b', o', none⟩) l1 cap') b (o + i * 6) (.int .i64 k1) (.int .i64 m0) (.int .i64 m1) (.int .i64 m2) (.slice t1 e1 d1) (.slice a1 f1 c1) b' (o' + i * 6) (.int .i64 k2) (.int .i64 m3) (.int .i64 m4) (.int .i64 m5) (.slice t2 e2 d2) (.slice a2 f2 c2))
                      (first | (with_reducible assumption) | (with_reducible exact SQ.out) | (with_reducible exact seenP_kept k9 (by with_reducible assumption)))
                      (first
                        | (go_at_call 49; refine (HX.out _ ((Kept.refl Nil wr).drew)).mono ?_; rintro e w9 ⟨rfl, k9⟩))
                    have T9 := Lib.hid (HT2.out.step (((Kept.refl Nil wr).drew).trans k9 (fun _ _ g => g)))
                    clear k9
                    go_wp2_with fail
                    go_roundw
                    case rel => exact ⟨i + 1, by omega, by go_num, by rw [HCh.out, HN.out]; rfl, T9.out⟩
                    case measure => simp [intOf]; omega
                · obtain rfl : l1 = i := by omega
                  have HE : Hid (sameSL (subs.drop l1) (subs'.drop l1) = true) := Lib.hid (by rw [List.drop_eq_nil_of_le (by have := HL1.out; omega), List.drop_eq_nil_of_le (by have := HL2.out; omega)]; rfl)
                  go_wp2_with fail
                  go_ret
                  exact ⟨ret_bool (by rw [HV2.out, HCh.out, HE.out]), HT2.out.kept⟩
        · have HV2 : Hid (v = false) := Lib.hid (by rw [HV1.out, sameSL_ne (by have := HL1.out; have := HL2.out; omega)]; simp)
          have hl' : ((l1 : Int) != (l2 : Int)) = true := by simp; omega
          clear HV1
          go_enter Tryz.func49, Tryz.ntmps49
          go_wp2_with fail
          go_ret
          exact ⟨ret_bool HV2.out.symm, T0.out.kept⟩
      · have HV2 : Hid (v = false) := Lib.hid (by rw [HV1.out, eqTs_ne (by have := HN1.out; have := HN2.out; omega)]; simp)
        have hn' : ((n1 : Int) != (n2 : Int)) = true := by simp; omega
        clear HV1
        go_enter Tryz.func49, Tryz.ntmps49
        go_wp2_with fail
        go_ret
        exact ⟨ret_bool HV2.out.symm, T0.out.kept⟩
  · have HV2 : Hid (v = false) := Lib.hid (by rw [HV.out]; simp [hk])
    have hk' : (k != k') = true := by simpa using hk
    clear HV
    go_enter Tryz.func49, Tryz.ntmps49
    go_wp2_with fail
    go_ret
    exact ⟨by rw [HV2.out]; rfl, T0.out.kept⟩
theorem refSameS_any : ∀ s : St, s.mass ≤ 5000 → ∀ t : St, t.mass ≤ 5000 → ∀ ok ok' ta tc a cap ta' tc' a' cap' w, TsAt w ok (.slice ta s.hd.ts.length tc) s.hd.ts → SHolds w ok (.slice a s.subs.length cap) s.subs → TsAt w ok' (.slice ta' t.hd.ts.length tc') t.hd.ts → SHolds w ok' (.slice a' t.subs.length cap') t.subs →
    Calls Tryz.prog 49 #[vS s.hd (.slice ta s.hd.ts.length tc) (.slice a s.subs.length cap), vS t.hd (.slice ta' t.hd.ts.length tc') (.slice a' t.subs.length cap')] w fun e w' => e = .returned (.bool (s.same t)) ∧ Kept Nil w w' := by
  refine St.ind fun hd subs ih hc t ht ok ok' ta tc a cap ta' tc' a' cap' w h1 h2 h3 h4 => ?_
  obtain ⟨hd', subs'⟩ := t
  have hc' : 1 + hd.ts.length + massL subs ≤ 5000 := by simpa [St.mass] using hc
  have ht' : 1 + hd'.ts.length + massL subs' ≤ 5000 := by simpa [St.mass] using ht
  have hl := length_massL subs
  have hl' := length_massL subs'
  exact refSameS_step hd.k hd.k0 hd.k1 hd.k2 hd.ts subs (by omega) (by omega) (Lib.hid fun hd1 sb hx hd2 sb' ok1 ok2 t1 d1 a1 c1 t2 d2 a2 c2 W hcs g1 g2 g3 g4 => ih _ hx (by have := mass_mem hx; omega) (.mk hd2 sb') hcs ok1 ok2 t1 d1 a1 c1 t2 d2 a2 c2 W g1 g2 g3 g4)
    ok ok' ta tc a cap w h1 h2 hd'.k hd'.k0 hd'.k1 hd'.k2 hd'.ts subs' (by omega) (by omega) (fun y hy => by have := mass_mem hy; omega) ta' tc' a' cap' h3 h4
end
section
open Go.RowKit
set_option maxRecDepth 100000

abbrev SeenA (w0 : World) (b p : Nat) (c0 c1 c2 c3 c4 c5 : Value) (b' p' : Nat) (d0 d1 d2 d3 d4 d5 : Value) (w' : World) : Prop :=
  w'.cell? ⟨b, p, none⟩ = some c0 ∧ w'.cell? ⟨b, p + 1, none⟩ = some c1 ∧ w'.cell? ⟨b, p + 2, none⟩ = some c2 ∧ w'.cell? ⟨b, p + 3, none⟩ = some c3 ∧ w'.cell? ⟨b, p + 4, none⟩ = some c4 ∧ w'.cell? ⟨b, p + 5, none⟩ = some c5 ∧
  w'.cell? ⟨b', p', none⟩ = some d0 ∧ w'.cell? ⟨b', p' + 1, none⟩ = some d1 ∧ w'.cell? ⟨b', p' + 2, none⟩ = some d2 ∧ w'.cell? ⟨b', p' + 3, none⟩ = some d3 ∧ w'.cell? ⟨b', p' + 4, none⟩ = some d4 ∧ w'.cell? ⟨b', p' + 5, none⟩ = some d5 ∧ Kept Nil w0 w'
section
variable {w0 w w' : World} {b p : Nat} {c0 c1 c2 c3 c4 c5 : Value} {b' p' : Nat} {d0 d1 d2 d3 d4 d5 : Value}
theorem seenA_of (r : w.rangeAt b p [c0, c1, c2, c3, c4, c5]) (r' : w.rangeAt b' p' [d0, d1, d2, d3, d4, d5]) (k : Kept Nil w0 w) : SeenA w0 b p c0 c1 c2 c3 c4 c5 b' p' d0 d1 d2 d3 d4 d5 w :=
  ⟨r 0 _ rfl, r 1 _ rfl, r 2 _ rfl, r 3 _ rfl, r 4 _ rfl, r 5 _ rfl, r' 0 _ rfl, r' 1 _ rfl, r' 2 _ rfl, r' 3 _ rfl, r' 4 _ rfl, r' 5 _ rfl, k⟩
theorem seenA_kept (k : Kept Nil w w') (h : SeenA w0 b p c0 c1 c2 c3 c4 c5 b' p' d0 d1 d2 d3 d4 d5 w) : SeenA w0 b p c0 c1 c2 c3 c4 c5 b' p' d0 d1 d2 d3 d4 d5 w' := by
  obtain ⟨h2, h3, h4, h5, h6, h7, g0, g1, g2, g3, g4, g5, kk⟩ := h
  exact ⟨k.cellOf h2, k.cellOf h3, k.cellOf h4, k.cellOf h5, k.cellOf h6, k.cellOf h7, k.cellOf g0, k.cellOf g1, k.cellOf g2, k.cellOf g3, k.cellOf g4, k.cellOf g5, kk.trans k (fun _ _ g => g)⟩
end
set_option maxHeartbeats 4000000 in
theorem all_any (l l' : List St) (hc : massL l ≤ 5000) (hc' : massL l' ≤ 5000) (ok ok' : Nat → Nat → Prop) (a a' : Option Addr) (cap cap' : Nat) (w : World) (h : SHolds w ok (.slice a l.length cap) l) (h' : SHolds w ok' (.slice a' l'.length cap') l') :
    Calls Tryz.prog 23 #[.slice a l.length cap, .slice a' l'.length cap'] w fun e w' => e = .returned (.bool (sameSL l l')) ∧ Kept Nil w w' := by
  obtain ⟨len, hlen⟩ : ∃ n, l.length = n := ⟨_, rfl⟩
  obtain ⟨len', hlen'⟩ : ∃ n, l'.length = n := ⟨_, rfl⟩
  have HH := Lib.hid h
  have HH' := Lib.hid h'
  have HC := Lib.hid hc
  have HC' := Lib.hid hc'
  rw [hlen] at HH ⊢
  rw [hlen'] at HH' ⊢
  have HL := Lib.hid hlen
  have HL' := Lib.hid hlen'
  have hLen : len ≤ 5000 := by have := length_massL l; omega
  clear h h' hc hc' hlen hlen'
  by_cases hl : len = len'
  · subst hl
    go_enter Tryz.func23, Tryz.ntmps23
    go_wp2_with fail
    go_loopw [5, 13] (fun _ i wr => ∃ j : Nat, j ≤ len ∧ i = .int .i64 j ∧ sameSL l l' = sameSL (l.drop j) (l'.drop j) ∧ Kept Nil w wr) (fun _ i _ => len - (intOf i).toNat)
    case atStart => exact ⟨0, by omega, rfl, rfl, Kept.refl _ _⟩
    case round =>
      obtain ⟨i, hi, rfl, hch, hK⟩ := hrel
      have HK := Lib.hid hK
      have HCh := Lib.hid hch
      clear hK hch
      by_cases hlt : i < len
      · obtain ⟨⟨⟨k1, m0, m1, m2, ts1⟩, sb⟩, hx⟩ : ∃ x, l[i]? = some x := ⟨_, List.getElem?_eq_getElem (by have := HL.out; omega)⟩
        obtain ⟨⟨⟨k2, m3, m4, m5, ts2⟩, sb'⟩, hx'⟩ : ∃ x, l'[i]? = some x := ⟨_, List.getElem?_eq_getElem (by have := HL'.out; omega)⟩
        obtain ⟨b, o, t1, d1, a1, c1, rfl, _, hr, ht, hs⟩ := (HH.out.keptN HK.out).at_ hx
        obtain ⟨b', o', t2, d2, a2, c2, rfl, _, hr', ht', hs'⟩ := (HH'.out.keptN HK.out).at_ hx'
        have hcx : (St.mk ⟨k1, m0, m1, m2, ts1⟩ sb).mass ≤ 5000 := Nat.le_trans (mass_mem (List.mem_of_getElem? hx)) HC.out
        have hcx' : (St.mk ⟨k2, m3, m4, m5, ts2⟩ sb').mass ≤ 5000 := Nat.le_trans (mass_mem (List.mem_of_getElem? hx')) HC'.out
        have HX : Hid (∀ W, Kept Nil wr W → Calls Tryz.prog 49 #[vS ⟨k1, m0, m1, m2, ts1⟩ (.slice t1 ts1.length d1) (.slice a1 sb.length c1), vS ⟨k2, m3, m4, m5, ts2⟩ (.slice t2 ts2.length d2) (.slice a2 sb'.length c2)] W fun e w' => e = .returned (.bool ((St.mk ⟨k1, m0, m1, m2, ts1⟩ sb).same (.mk ⟨k2, m3, m4, m5, ts2⟩ sb'))) ∧ Kept Nil W w') := Lib.hid fun W kW =>
          refSameS_any (.mk ⟨k1, m0, m1, m2, ts1⟩ sb) hcx (.mk ⟨k2, m3, m4, m5, ts2⟩ sb') hcx' ok ok' t1 d1 a1 c1 t2 d2 a2 c2 W (ht.keptN kW) (hs.keptN kW) (ht'.keptN kW) (hs'.keptN kW)
        have HN := Lib.hid (sameSL_drop hx hx')
        have HR : Hid (wr.rangeAt b (o + i * 6) (cS ⟨k1, m0, m1, m2, ts1⟩ (.slice t1 ts1.length d1) (.slice a1 sb.length c1))) := Lib.hid hr
        have HR' : Hid (wr.rangeAt b' (o' + i * 6) (cS ⟨k2, m3, m4, m5, ts2⟩ (.slice t2 ts2.length d2) (.slice a2 sb'.length c2))) := Lib.hid hr'
        generalize (St.mk ⟨k1, m0, m1, m2, ts1⟩ sb).same (.mk ⟨k2, m3, m4, m5, ts2⟩ sb') = q at HX HN
        generalize ts1.length = e1 at HR HX
        generalize ts2.length = e2 at HR' HX
        generalize sb.length = f1 at HR HX
        generalize sb'.length = f2 at HR' HX
        have SQ := Lib.hid (seenA_of (w0 := w) (rangeAt_kept ((Kept.refl Nil wr).drew) id HR.out) (rangeAt_kept ((Kept.refl Nil wr).drew) id HR'.out) HK.out.drew)
        clear hx hx' hs hs' ht ht' hr hr' hcx hcx' HR HR'
        have hj0 : (0 : Int) ≤ (i : Int) := by omega
        have hjl : (i : Int) < (len : Int) := by omega
        cases q
        · go_wp2_with fail
          go_region_held3 (SeenA w b (o + i * 6) (.int .i64 k1) (.int .i64 m0) (.int .i64 m1) (.int .i64 m2) (.slice t1 e1 d1) (.slice a1 f1 c1) b' (o' + i * 6) (.int .i64 k2) (.int .i64 m3) (.int .i64 m4) (.int .i64 m5) (.slice t2 e2 d2) (.slice a2 f2 c2))
            (first | (with_reducible assumption) | (with_reducible exact SQ.out) | (with_reducible exact seenA_kept k9 (by with_reducible assumption)))
            (first
              | (go_at_call 49; refine (HX.out _ ((Kept.refl Nil wr).drew)).mono ?_; rintro e w9 ⟨rfl, k9⟩))
          have K9 := Lib.hid (HK.out.trans (((Kept.refl Nil wr).drew).trans k9 (fun _ _ g => g)) (fun _ _ g => g))
          clear k9
          go_wp2_with fail
          go_ret
          exact ⟨ret_bool (by rw [HCh.out, HN.out]; rfl), K9.out⟩
        · go_wp2_with fail
          go_region_held3 (SeenA w b (o + i * 6) (.int .i64 k1) (.int .i64 m0) (.int .i64 m1) (.int .i64 m2) (.slice t1 e1 d1) (.slice a1 f1 c1) b' (o' + i * 6) (.int .i64 k2) (.int .i64 m3) (.int .i64 m4) (.int .i64 m5) (.slice t2 e2 d2) (.slice a2 f2 c2))
            (first | (with_reducible assumption) | (with_reducible exact SQ.out) | (with_reducible exact seenA_kept k9 (by with_reducible assumption)))
            (first
              | (go_at_call 49; refine (HX.out _ ((Kept.refl Nil wr).drew)).mono ?_; rintro e w9 ⟨rfl, k9⟩))
          have K9 := Lib.hid (HK.out.trans (((Kept.refl Nil wr).drew).trans k9 (fun _ _ g => g)) (fun _ _ g => g))
          clear k9
          go_wp2_with fail
          go_roundw
          case rel => exact ⟨i + 1, by omega, by go_num, by rw [HCh.out, HN.out]; rfl, K9.out⟩
          case measure => simp [intOf]; omega
      · obtain rfl : len = i := by omega
        have HE : Hid (sameSL (l.drop len) (l'.drop len) = true) := Lib.hid (by rw [List.drop_eq_nil_of_le (by have := HL.out; omega), List.drop_eq_nil_of_le (by have := HL'.out; omega)]; rfl)
        go_wp2_with fail
        go_ret
        exact ⟨ret_bool (by rw [HCh.out, HE.out]), HK.out⟩
  · have HV2 : Hid (sameSL l l' = false) := Lib.hid (sameSL_ne (by have := HL.out; have := HL'.out; omega))
    have hl' : ((len : Int) != (len' : Int)) = true := by simp; omega
    go_enter Tryz.func23, Tryz.ntmps23
    go_wp2_with fail
    go_ret
    exact ⟨by rw [HV2.out]; rfl, Kept.refl _ _⟩
theorem sameSL_refl (l : List St) : sameSL l l = true := sameS_refl.2 l
end
end
section
open Go.RowKit Go.Maps Go.WideMaps
set_option maxRecDepth 100000

/-- Each once, in order. -/
def disL (L : List (List St)) : List (List St) := L.foldl (fun out c => if c ∈ out then out else out ++ [c]) []
theorem disL_snoc (L : List (List St)) (c : List St) : disL (L ++ [c]) = if c ∈ disL L then disL L else disL L ++ [c] := by unfold disL; rw [List.foldl_append]; rfl
theorem disL_spec : ∀ (n : Nat) (L : List (List St)), L.length = n → (disL L).Nodup ∧ (∀ x, x ∈ disL L ↔ x ∈ L) ∧ (disL L).length ≤ L.length
  | 0, L, h => by
    obtain rfl := List.length_eq_zero_iff.1 h
    exact ⟨List.nodup_nil, fun x => Iff.rfl, Nat.le_refl _⟩
  | n + 1, L, h => by
    have hne : L ≠ [] := fun e => by subst e; cases h
    obtain ⟨h1, h2, h3⟩ := disL_spec n L.dropLast (by rw [List.length_dropLast]; omega)
    rw [← List.dropLast_concat_getLast hne, disL_snoc]
    split
    · rename_i hm
      refine ⟨h1, fun x => ?_, Nat.le_trans h3 (by simp)⟩
      rw [h2, List.mem_append, List.mem_singleton]
      constructor
      · exact .inl
      · rintro (g | rfl)
        · exact g
        · exact (h2 _).1 hm
    · rename_i hm
      refine ⟨List.nodup_append.2 ⟨h1, by simp, fun a ha b hb => ?_⟩, fun x => ?_, by rw [List.length_append, List.length_append]; simp only [List.length_singleton]; omega⟩
      · rw [List.mem_singleton.1 hb]
        rintro rfl
        exact hm ha
      · rw [List.mem_append, h2, List.mem_append]
/-- A slice's value, as a row's cell. -/
abbrev SlV := Option Addr × Nat × Nat
def cV (v : SlV) : List Value := [.slice v.1 v.2.1 v.2.2]
theorem cV_len (v : SlV) : (cV v).length = 1 := rfl
theorem cV_one (v : SlV) : ∀ u ∈ cV v, u.oneCell' = true := fun u hu => by rw [List.mem_singleton.1 hu]; rfl
/-- Values that are slices of these chains. -/
def Sls (w : World) (ok : Nat → Nat → Prop) (vals : List SlV) (L : List (List St)) : Prop := vals.length = L.length ∧ ∀ (i : Nat) x, L[i]? = some x → ∃ b cp, vals[i]? = some (b, x.length, cp) ∧ SHolds w ok (.slice b x.length cp) x
theorem Sls.keptN {w w' : World} {ok : Nat → Nat → Prop} {vals : List SlV} {L : List (List St)} (h : Sls w ok vals L) (k : Kept Nil w w') : Sls w' ok vals L := ⟨h.1, fun i x hi => by
  obtain ⟨b, cp, h1, h2⟩ := h.2 i x hi
  exact ⟨b, cp, h1, h2.keptN k⟩⟩
theorem Sls.keptF {w w' : World} {ok : Nat → Nat → Prop} {vals : List SlV} {L : List (List St)} {F : Nat → Prop} (h : Sls w ok vals L) (k : Kept F w w') (hF : ∀ b o, ok b o → ¬ F b) : Sls w' ok vals L := ⟨h.1, fun i x hi => by
  obtain ⟨b, cp, h1, h2⟩ := h.2 i x hi
  exact ⟨b, cp, h1, h2.kept k hF⟩⟩
theorem Sls.snoc {w : World} {ok : Nat → Nat → Prop} {vals : List SlV} {L : List (List St)} (h : Sls w ok vals L) {x : List St} {b : Option Addr} {cp : Nat} (hx : SHolds w ok (.slice b x.length cp) x) : Sls w ok (vals ++ [(b, x.length, cp)]) (L ++ [x]) := by
  refine ⟨by simp [h.1], fun i y hi => ?_⟩
  by_cases hl : i < L.length
  · rw [List.getElem?_append_left hl] at hi
    obtain ⟨b2, cp2, h1, h2⟩ := h.2 i y hi
    exact ⟨b2, cp2, by rw [List.getElem?_append_left (by rw [h.1]; exact hl)]; exact h1, h2⟩
  · have hi2 : i = L.length := by
      have := (List.getElem?_eq_some_iff.1 hi).1
      simp at this; omega
    subst hi2
    rw [List.getElem?_concat_length] at hi
    cases hi
    exact ⟨b, cp, by rw [← h.1, List.getElem?_concat_length], hx⟩
theorem not_step (b : Bool) (x : Bool) : (if b = true then true else x) = (b || x) := by cases b <;> rfl
end
section
open Go.RowKit Go.Maps Go.WideMaps
set_option maxRecDepth 100000

theorem blk_lt {w : World} {a : Addr} {v : Value} (h : w.cell? a = some v) : a.block < w.heap.size := by
  by_cases hl : a.block < w.heap.size
  · exact hl
  · exfalso
    unfold World.cell? at h
    rw [Array.getElem?_eq_none (by omega)] at h
    simp at h
theorem pick_all {α β : Type} {R : Nat → α → β → Prop} : ∀ (L : List α), (∀ (i : Nat) x, L[i]? = some x → ∃ y, R i x y) → ∃ ys : List β, ys.length = L.length ∧ ∀ (i : Nat) x, L[i]? = some x → ∃ y, ys[i]? = some y ∧ R i x y := by
  intro L h
  have hf : ∀ i : Fin L.length, ∃ y, R i L[i] y := fun i => h i _ (List.getElem?_eq_getElem i.2)
  refine ⟨List.ofFn (fun i => (hf i).choose), by simp, fun i x hi => ?_⟩
  obtain ⟨hl, rfl⟩ := List.getElem?_eq_some_iff.1 hi
  exact ⟨_, by rw [List.getElem?_ofFn, dif_pos hl], (hf ⟨i, hl⟩).choose_spec⟩
theorem ListsS.toIn {w : World} {ok : Nat → Nat → Prop} {v : Value} {L : List (List St)} (h : ListsS w ok v L) : ∃ a cap vals, v = .slice a L.length cap ∧ In cV 1 w a L.length vals ∧ Sls w ok vals L := by
  obtain ⟨a, cap, e, _, hx⟩ := h
  obtain ⟨vals, h1, h2⟩ := pick_all (R := fun i (x : List St) (q : SlV) => q.2.1 = x.length ∧ SHolds w ok (.slice q.1 x.length q.2.2) x ∧ ∃ g, a = some ⟨g, 0, none⟩ ∧ w.cell? ⟨g, i, none⟩ = some (.slice q.1 x.length q.2.2)) L (fun i x hi => by
    obtain ⟨g, b, c, e1, e2, e3⟩ := hx i x hi
    exact ⟨(b, x.length, c), rfl, e3, g, e1, e2⟩)
  refine ⟨a, cap, vals, e, ⟨h1, ?_⟩, h1, fun i x hi => ?_⟩
  · by_cases h0 : L.length = 0
    · exact .inl h0
    · right
      obtain ⟨x0, hx0⟩ : ∃ x, L[0]? = some x := ⟨_, List.getElem?_eq_getElem (by omega)⟩
      obtain ⟨q0, _, _, _, g, rfl, hg⟩ := h2 0 x0 hx0
      refine ⟨g, 0, rfl, blk_lt hg, fun j q i v hj hi => ?_⟩
      have hjl : j < L.length := by rw [← h1]; exact (List.getElem?_eq_some_iff.1 hj).1
      obtain ⟨q', hq', e1, _, g', eg, hg'⟩ := h2 j _ (List.getElem?_eq_getElem hjl)
      rw [hj] at hq'
      cases hq'
      cases eg
      have hi0 : i = 0 := by
        have := (List.getElem?_eq_some_iff.1 hi).1
        simp [cV] at this; exact this
      subst hi0
      have hv : v = .slice q.1 q.2.1 q.2.2 := by simp [cV] at hi; exact hi.symm
      subst hv
      rw [e1, show (⟨g, 0 + j * 1 + 0, none⟩ : Addr) = ⟨g, j, none⟩ by simp]
      exact hg'
  · obtain ⟨q, hq, e1, e2, _⟩ := h2 i x hi
    obtain ⟨b, n, c⟩ := q
    dsimp only at e1 e2
    subst e1
    exact ⟨b, c, hq, e2⟩
/-- The chains of the reference's steps: whose memory they lie in. -/
theorem refChainsN (l : List St) (ok : Nat → Nat → Prop) (a : Option Addr) (cap : Nat) (w : World) (h : SHolds w ok (.slice a l.length cap) l) (hok : ∀ b o, ok b o → b < w.heap.size) (hc : cntL l ≤ 5000) :
    Calls Tryz.prog 34 #[.slice none 0 0, .slice a l.length cap] w fun e w' => ∃ a2 c2 vals, e = .returned (.slice a2 (chSL l []).length c2) ∧ In cV 1 w' a2 (chSL l []).length vals ∧ Sls w' (fun b o => ok b o ∨ (w.heap.size ≤ b ∧ b < w'.heap.size)) vals (chSL l []) ∧ Kept Nil w w' := by
  refine (refSCh_tree (.mk ⟨0, 0, 0, 0, []⟩ l) ok (.slice none 0 0) [] a cap w ⟨none, 0, rfl, .inl rfl⟩ KidsD.nil h hok (by simpa [St.subs] using hc)).mono ?_
  rintro e w' ⟨r, ws, rfl, h1, h2, k⟩
  have h1' : ws.map trS = chSL l [] := h1
  have hL := h2.listsS (ok' := fun b o => ok b o ∨ (w.heap.size ≤ b ∧ b < w'.heap.size)) (fun b o hb => .inl hb) (fun g hp hg => .inr ⟨hp, hg⟩)
  rw [h1'] at hL
  obtain ⟨a2, c2, vals, rfl, h3, h4⟩ := hL.toIn
  exact ⟨a2, c2, vals, rfl, h3, h4, k⟩
end
section
section
open Go.RowKit
set_option maxRecDepth 100000

/-- The numbers that there are, rising. -/
def alv (es : En) : List Nat := (List.range (es.length + 2)).filter (fun n => (ent es n).isSome)
theorem alv_mem {es : En} {n : Nat} : n ∈ alv es ↔ ent es n ≠ none := by
  unfold alv
  rw [List.mem_filter, List.mem_range]
  constructor
  · rintro ⟨_, h⟩ e
    rw [e] at h; cases h
  · intro h
    cases e : ent es n with
    | none => exact absurd e h
    | some c => exact ⟨by have := ent_le e; omega, rfl⟩
theorem alv_rise (es : En) : (alv es).Pairwise (· < ·) := List.Pairwise.filter _ List.pairwise_lt_range
theorem alv_len (es : En) : (alv es).length ≤ es.length + 2 := by
  have := List.length_filter_le (fun n => (ent es n).isSome) (List.range (es.length + 2))
  rw [List.length_range] at this
  exact this
theorem rise_eqN : ∀ {a b : List Nat}, a.Pairwise (· < ·) → b.Pairwise (· < ·) → (∀ x, x ∈ a ↔ x ∈ b) → a = b
  | [], [], _, _, _ => rfl
  | [], y :: s, _, _, h => absurd ((h y).2 (by simp)) (by simp)
  | x :: r, [], _, _, h => absurd ((h x).1 (by simp)) (by simp)
  | x :: r, y :: s, ha, hb, h => by
    obtain ⟨a1, a2⟩ := List.pairwise_cons.1 ha
    obtain ⟨b1, b2⟩ := List.pairwise_cons.1 hb
    have hxy : x = y := by
      have h1 := (h x).1 (by simp)
      have h2 := (h y).2 (by simp)
      rcases List.mem_cons.1 h1 with e | e
      · exact e
      · rcases List.mem_cons.1 h2 with e2 | e2
        · exact e2.symm
        · have := b1 x e; have := a1 y e2; omega
    subst hxy
    rw [rise_eqN a2 b2 (fun z => ?_)]
    constructor
    · intro hz
      rcases List.mem_cons.1 ((h z).1 (List.mem_cons_of_mem _ hz)) with e | e
      · have := a1 z hz; omega
      · exact e
    · intro hz
      rcases List.mem_cons.1 ((h z).2 (List.mem_cons_of_mem _ hz)) with e | e
      · have := b1 z hz; omega
      · exact e
section
variable {ls : List (List St)} {es : En} {U E : Nat → Int} {l : List St}
theorem usesL_snocE (ls : List (List St)) (l x : List St) : usesL ((ls ++ [l]).erase l) x = usesL ls x := by
  have h1 := usesL_erase (ls := ls ++ [l]) (l := l) (x := x) (by simp)
  rw [usesL_snoc] at h1
  simp only [List.mem_cons] at h1
  by_cases e : x = [] ∨ x ∈ chSL l []
  · simp only [e, if_true] at h1; omega
  · simp only [e, if_false] at h1; omega
theorem goes_new {x : List St} (h : TLS ls es U E) (hg : goes (ls ++ [l]) l x = true) : x ≠ [] ∧ fnd es x = 0 := by
  unfold goes at hg
  have hg := of_decide_eq_true hg
  rw [usesL_snocE] at hg
  refine ⟨hg.1, ?_⟩
  by_cases e : fnd es x = 0
  · exact e
  · have := (h.tl.all x hg.1).1 e; omega
/-- Behind Add and Remove each chain has the number that it had. -/
theorem back_fnd (h : TLS ls es U E) (hl : Rl l) {es2 : En} {U1 U2 : Nat → Int} {out : List Nat} (r : RemI (ls ++ [l]) l (addAll es (chSL l [])) U1 ([] :: chSL l []) es2 U2 out) (x : List St) : fnd es2 x = fnd es x := by
  rw [r.fn]
  by_cases h0 : fnd es x = 0
  · rw [h0]
    split
    · rfl
    · rename_i hn
      have hx : x ≠ [] := fun e => by rw [e, fnd_nil] at h0; cases h0
      by_cases e : fnd (addAll es (chSL l [])) x = 0
      · exact e
      · have h1 := ((h.add hl).tl.all x hx).1 e
        have h2 : usesL ls x = 0 := by
          by_cases e2 : 0 < usesL ls x
          · exact absurd h0 ((h.tl.all x hx).2 e2)
          · omega
        rw [usesL_snoc, h2] at h1
        exfalso
        refine hn ⟨?_, ?_⟩
        · simp only [List.mem_cons]
          by_cases e3 : x = [] ∨ x ∈ chSL l []
          · exact e3
          · exact absurd h1 (by simp [e3])
        · unfold goes
          rw [usesL_snocE]
          exact decide_eq_true ⟨hx, h2⟩
  · rw [if_neg, addAll_old _ h0]
    rintro ⟨_, hg⟩
    exact h0 (goes_new h hg).2
theorem back_alv (h : TLS ls es U E) (hl : Rl l) {es2 : En} {U1 U2 : Nat → Int} {out : List Nat} (r : RemI (ls ++ [l]) l (addAll es (chSL l [])) U1 ([] :: chSL l []) es2 U2 out) (n : Nat) : ent es2 n = ent es n := by
  have hb := back_fnd h hl r
  cases e : ent es n with
  | none =>
    cases e2 : ent es2 n with
    | none => rfl
    | some c =>
      have h1 := (ent_fnd r.ok).1 e2
      rw [hb] at h1
      rw [(ent_fnd h.tl.ok).2 h1] at e
      cases e
  | some c =>
    have h1 := (ent_fnd h.tl.ok).1 e
    rw [← hb] at h1
    exact (ent_fnd r.ok).2 h1
theorem back_all (h : TLS ls es U E) (hl : Rl l) {es2 : En} {U1 U2 : Nat → Int} {out : List Nat} (r : RemI (ls ++ [l]) l (addAll es (chSL l [])) U1 ([] :: chSL l []) es2 U2 out) : alv es2 = alv es :=
  rise_eqN (alv_rise _) (alv_rise _) (fun n => by rw [alv_mem, alv_mem, back_alv h hl r])
/-- Numbers that are given anew rise. -/
theorem addAll_up : ∀ (D : List (List St)) (es : En), D.Nodup → D.Pairwise (fun x y => fnd es x = 0 → fnd es y = 0 → fnd (addAll es D) x < fnd (addAll es D) y)
  | [], _, _ => List.Pairwise.nil
  | c :: r, es, hn => by
    obtain ⟨h1, h2⟩ := List.nodup_cons.1 hn
    have hz : ∀ y ∈ r, fnd es y = 0 → fnd (addC es c) y = 0 := fun y hy h0 => by
      unfold addC
      split
      · rw [fnd_more, h0]
        have : ¬ c = y := fun e => h1 (e ▸ hy)
        simp [this]
      · exact h0
    refine List.pairwise_cons.2 ⟨fun y hy hc0 hy0 => ?_, (addAll_up r (addC es c) h2).imp_of_mem (fun {a b} ha hb h g1 g2 => h (hz a ha g1) (hz b hb g2))⟩
    show fnd (addAll (addC es c) r) c < fnd (addAll (addC es c) r) y
    have e1 : addC es c = es ++ [(c, true)] := by unfold addC; rw [if_pos hc0]
    have e2 : fnd (addC es c) c = es.length + 2 := by rw [e1, fnd_more, hc0]; simp
    rw [addAll_old r (by omega : fnd (addC es c) c ≠ 0), e2]
    have := addAll_new r (addC es c) (hz y hy hy0) (addAll_has hy)
    rw [e1, List.length_append, List.length_singleton] at this
    rw [e1]
    omega
/-- Those that go: falling, and not there any more. -/
theorem back_out (h : TLS ls es U E) (hl : Rl l) {es2 : En} {U1 U2 : Nat → Int} {out : List Nat} (r : RemI (ls ++ [l]) l (addAll es (chSL l [])) U1 ([] :: chSL l []) es2 U2 out) : out.Pairwise (· > ·) ∧ ∀ n ∈ out, ent es2 n = none := by
  rw [r.out]
  constructor
  · rw [List.pairwise_map]
    have h0 := addAll_up (chSL l []) es (chSL_nodup l [])
    have h1 : ([] :: chSL l []).Pairwise (fun x y => goes (ls ++ [l]) l x = true → goes (ls ++ [l]) l y = true → fnd (addAll es (chSL l [])) x < fnd (addAll es (chSL l [])) y) :=
      List.pairwise_cons.2 ⟨fun y _ hg => absurd rfl (goes_new h hg).1, h0.imp (fun {a b} q g1 g2 => q (goes_new h g1).2 (goes_new h g2).2)⟩
    have h2 := (List.pairwise_reverse.2 (h1.imp (S := fun y x => goes (ls ++ [l]) l y = true → goes (ls ++ [l]) l x = true → fnd (addAll es (chSL l [])) y < fnd (addAll es (chSL l [])) x) (fun {a b} q => q)))
    refine (List.Pairwise.filter _ h2).imp_of_mem (fun {a b} ha hb q => ?_)
    exact q (List.mem_filter.1 hb).2 (List.mem_filter.1 ha).2
  · intro n hn
    obtain ⟨x, hx, rfl⟩ := List.mem_map.1 hn
    have hg := goes_new h (List.mem_filter.1 hx).2
    rw [back_alv h hl r]
    cases e : ent es (fnd (addAll es (chSL l [])) x) with
    | none => rfl
    | some y =>
      have hy := (ent_fnd h.tl.ok).1 e
      have hy2 := addAll_old (chSL l []) (by omega : fnd es y ≠ 0)
      have := fnd_inj (h.add hl).tl.ok (c := y) (d := x) (by omega) (by omega)
      subst this
      omega
end
end
end
section
open Go.RowKit Go.Maps Go.WideMaps Go.Sort Go.Shelf
set_option maxRecDepth 100000

theorem sortsZ (m : Nat) : AnyZI.SortsIn Tryz.prog Tryz.sortedA_ren Fence.wide m :=
  ⟨fun blk off cap ss W hH hblk hsz => callsIn_wide.2 (AnyM.slices_Sort_int Tryz.sortI blk off cap ss W hH hblk hsz),
   fun p cap W => callsIn_wide.2 (AnyM.slices_Sort_int_none Tryz.sortI p cap W)⟩
theorem keysZ (mb : Option Nat) (W : World) : Calls Tryz.prog 70 #[.map mb] W fun e w' => e = .returned (.func (.func 84) #[] #[.pointer (some ⟨W.heap.size, 0, none⟩)]) ∧ w' = W.alloc (.cells #[.map mb] 51) :=
  (callsIn_wide (n := 5)).1 (AnyZI.keys_in Tryz.keysA Fence.wide 5 trivial rfl mb W)
abbrev zN (l : List Nat) : List Int := l.map fun n : Nat => (n : Int)
theorem sorted_riseN {l : List Nat} {ss : List Int} (hr : l.Pairwise (· < ·)) (hp : ss.Perm (zN l)) : ss.mergeSort (fun x y => decide (x ≤ y)) = zN l := by
  have tr : ∀ a b c : Int, decide (a ≤ b) = true → decide (b ≤ c) = true → decide (a ≤ c) = true := fun a b c h1 h2 => by simp only [decide_eq_true_eq] at *; omega
  have tot : ∀ a b : Int, (decide (a ≤ b) || decide (b ≤ a)) = true := fun a b => by simp only [Bool.or_eq_true, decide_eq_true_eq]; omega
  have h0 : (zN l).Pairwise (· ≤ ·) := by unfold zN; rw [List.pairwise_map]; exact hr.imp (fun h => by omega)
  have hp2 := (List.mergeSort_perm ss (fun x y => decide (x ≤ y))).trans hp
  have h1 := List.pairwise_mergeSort (le := fun (x y : Int) => decide (x ≤ y)) tr tot ss
  have h2 : (ss.mergeSort (fun x y => decide (x ≤ y))).Pairwise (· ≤ ·) := h1.imp (fun h => of_decide_eq_true h)
  exact hp2.eq_of_pairwise (fun a b _ _ h3 h4 => by omega) h2 h0
theorem mapZ_flat (l : List Nat) : (zN l).map encZ = l.flatMap cNt := by
  unfold zN
  induction l with
  | nil => rfl
  | cons x r ih => rw [List.map_cons, List.map_cons, ih]; rfl
theorem nodup_leZ {a b : List Int} (hn : a.Nodup) (hs : ∀ x ∈ a, x ∈ b) : a.length ≤ b.length := nodup_le hn hs
theorem mapD_keysI {w : World} {b n : Nat} {D : DataW Unit} {f : Nat → Option Nv} {l : List Nat} (ho : w.ownsMap (H := Unit) Tryz.prog 3 VN.rd b n D) (hD : MapD KNt VN D f) (hr : l.Pairwise (· < ·)) (hl : ∀ k, k ∈ l ↔ f k ≠ none) : (zN l).Perm (intKeys D) := by
  have hnd : (zN l).Nodup := by unfold zN; rw [List.Nodup, List.pairwise_map]; exact hr.imp (fun h => by omega)
  have hin : ∀ x ∈ zN l, has D (.int .i64 x) = true := fun x hx => by
    obtain ⟨k, hk, rfl⟩ := List.mem_map.1 hx
    have h1 := (hl k).1 hk
    have h2 := hD.has k (hD.ok k h1)
    show has D (KNt.lit k) = true
    rw [h2]
    cases e : f k with
    | none => exact absurd e h1
    | some _ => rfl
  refine CollectedI.perm (left := fun _ => false) ⟨hnd, fun x => ⟨fun hx => ⟨hin x hx, rfl⟩, fun hx => ?_⟩⟩ ho (int_keyed Tryz.underlying3) Tryz.underlying3 (fun _ => rfl)
  by_cases hm : x ∈ zN l
  · exact hm
  · exfalso
    obtain ⟨es, hDe, _, _⟩ := ho.entries (int_keyed Tryz.underlying3)
    obtain ⟨es', hD', hko⟩ := ho.keysOf
    obtain rfl : es = es' := by rw [hDe] at hD'; simpa using hD'
    have hk : ∀ p ∈ es, ∃ a, p.1 = .int .i64 a := fun p hp => by
      obtain ⟨v, hv⟩ := hko p hp
      obtain ⟨y, _, hy, _⟩ := Maps.keyOf_i64 Tryz.underlying3 hv
      exact ⟨y, hy⟩
    have sub : ∀ y ∈ x :: zN l, y ∈ intKeys D := fun y hy => by
      have h1 : has D (.int .i64 y) = true := by
        rcases List.mem_cons.1 hy with e | e
        · rw [e]; exact hx.1
        · exact hin y e
      rw [hDe] at h1 ⊢
      rw [has_eq, List.any_eq_true] at h1
      obtain ⟨p, hp, hs⟩ := h1
      obtain ⟨a, ha⟩ := hk p hp
      refine List.mem_map.2 ⟨p, hp, ?_⟩
      rw [ha] at hs ⊢
      have e2 : a = y := by simpa [Lit.sameKey] using hs
      exact e2
    have h1 := nodup_leZ (List.nodup_cons.2 ⟨hm, hnd⟩) sub
    obtain ⟨ks, g1, g2, g3⟩ := hD.keys
    have h2 : (intKeys D).length = Maps.size D := by rw [hDe]; unfold intKeys; simp [Maps.size]
    have h3 : ks.length ≤ l.length := nodup_le g1 (fun k hk => (hl k).2 ((g2 k).1 hk))
    rw [h2, g3] at h1
    simp [zN] at h1
    omega
/-- slices.Sorted of the keys. -/
theorem sortedZ {w : World} {b n : Nat} {f : Nat → Option Nv} {l : List Nat} (h : MapM KNt VN w b n f) (hr : l.Pairwise (· < ·)) (hm : ∀ k, k ∈ l ↔ f k ≠ none) (hl : l.length ≤ 5000) :
    Calls Tryz.prog 69 #[.func (.func 84) #[] #[.pointer (some ⟨w.heap.size, 0, none⟩)]] (w.alloc (.cells #[.map (some b)] 51)) fun e w' => ∃ a cap, e = .returned (.slice a l.length cap) ∧ Row cNt 3 1 w' w.heap.size (.slice a l.length cap) l ∧ Kept Nil w w' := by
  obtain ⟨D, ho, hD⟩ := h.mp
  have hsz : Maps.size D ≤ l.length := hD.size_le (fun k hk => (hm k).2 hk)
  have hmax : Maps.size D ≤ maxLen := by unfold maxLen; omega
  have hbytes : Maps.size D * 8 ≤ 140737488355328 := by omega
  have hbl := h.lt
  have hseq : SeqGives Fence.wide 2 Tryz.prog 84 #[.pointer (some ⟨w.heap.size, 0, none⟩)] encZ (fun ss => ss.Perm (intKeys D)) (Maps.size D) (w.alloc (.cells #[.map (some b)] 51)) :=
    AnyZI.keys_gives (ρ := Tryz.keysA_ren) { Tryz.keysA with } Fence.wide _ trivial rfl (by omega) w.heap.size b n D _ (by simp) (by simp) (ho.alloc _)
  have cS := AnyZI.sorted_in Tryz.sortedA Fence.wide 5 trivial trivial trivial trivial rfl (by omega) (sortsZ _) (enters_of Tryz.func83 (by kernel_rfl) rfl) 84 #[.pointer (some ⟨w.heap.size, 0, none⟩)] trivial (enters_of Tryz.func84 (by kernel_rfl) rfl) _ _ hmax hbytes _ hseq
  change CallsIn _ _ Tryz.prog 69 _ _ _ at cS
  refine ((callsIn_wide (n := 5)).1 cS).mono ?_
  rintro e w' ⟨v, ss, rfl, hS, hrow, hnil, hb⟩
  have hp : ss.Perm (zN l) := hS.trans (mapD_keysI ho hD hr hm).symm
  have hrow' : Row cNt 3 1 w' w.heap.size v l := by
    have e1 : ss.length = l.length := by rw [hp.length_eq]; simp [zN]
    rw [sorted_riseN hr hp, e1, mapZ_flat] at hrow
    exact Row.down hrow (by simp)
  obtain ⟨a, cap, rfl⟩ := hrow'.shape
  exact ⟨a, cap, rfl, hrow', Kept.ofBelow (((Below.refl _ w).alloc (Nat.le_refl _) _).trans (hb.mono (by simp)))⟩
theorem trieAll_any {w : World} {c : Nat → Nat} {p : Nat} {es : En} {U E : Nat → Int} (ht : TE w c p es U E) (hn : es.length ≤ 4000) {l : List Nat} (hl : alv es = l) :
    Calls Tryz.prog 41 #[.pointer (some ⟨p, 0, none⟩)] w fun e w' => ∃ a cap, e = .returned (.slice a l.length cap) ∧ Row cNt 3 1 w' w.heap.size (.slice a l.length cap) l ∧ Kept Nil w w' := by
  obtain ⟨nm, h1, bn, bs, nv, h2⟩ := ht.ex
  have hk : ∀ k, k ∈ l ↔ nv k ≠ none := fun k => by
    have e1 : nv k ≠ none ↔ ndE es U E k ≠ none := by
      rcases h2.rows k with ⟨a, b⟩ | ⟨d, v, a, b, _⟩
      · rw [a, b]; simp
      · rw [a, b]; simp
    rw [e1, ← hl, alv_mem]
    unfold ndE
    cases ent es k <;> simp
  have HC := Lib.hid (sortedZ h2.mn (hl ▸ alv_rise es) hk (by have := alv_len es; rw [hl] at this; omega))
  have c0 : w.cell? ⟨p, 0, none⟩ = some (.map (some bn)) := by have := h2.blk.cell 0; simpa using this
  have hp := h2.blk.lt
  generalize l.length = len at *
  clear h1 h2 hk ht hl
  go_enter Tryz.func41, Tryz.ntmps41
  go_wp2_with fail
  refine (keysZ (some bn) _).mono ?_
  rintro e w2 ⟨rfl, rfl⟩
  go_wp2_with fail
  refine HC.out.mono ?_
  rintro e w3 ⟨a, cap, rfl, r3, k3⟩
  have H3 := Lib.hid (And.intro r3 k3)
  clear r3 k3 HC
  go_wp2_with fail
  go_ret
  exact ⟨a, cap, rfl, H3.out.1, H3.out.2⟩
end
end Go.Proofs.YtljefbfjehblpaaGreat
