/- Layer comp: the reference's Same of steps, and All. – Layer comp: the reference's All: two lists of steps. -/
import Derived.Test.YtoceogbanlmnoaaGB
import Derived.Test.YtoceogbanlmnoaaGC
import Derived.Deep.RegionHeld3
namespace Go.Proofs.Ytoceogbanlmnoaa
section
open Go.RowKit
set_option maxRecDepth 100000

/-- What is read in the region that asks for two Subs. -/
abbrev SeenP (w0 : World) (A B : Nat) (va vb : Value) (b p : Nat) (c0 c1 c2 c3 c4 c5 : Value) (b' p' : Nat) (d0 d1 d2 d3 d4 d5 : Value) (w' : World) : Prop :=
  w'.cell? ⟨A, 5, none⟩ = some va ∧ w'.cell? ⟨B, 5, none⟩ = some vb ∧ w'.cell? ⟨b, p, none⟩ = some c0 ∧ w'.cell? ⟨b, p + 1, none⟩ = some c1 ∧ w'.cell? ⟨b, p + 2, none⟩ = some c2 ∧ w'.cell? ⟨b, p + 3, none⟩ = some c3 ∧ w'.cell? ⟨b, p + 4, none⟩ = some c4 ∧ w'.cell? ⟨b, p + 5, none⟩ = some c5 ∧
  w'.cell? ⟨b', p', none⟩ = some d0 ∧ w'.cell? ⟨b', p' + 1, none⟩ = some d1 ∧ w'.cell? ⟨b', p' + 2, none⟩ = some d2 ∧ w'.cell? ⟨b', p' + 3, none⟩ = some d3 ∧ w'.cell? ⟨b', p' + 4, none⟩ = some d4 ∧ w'.cell? ⟨b', p' + 5, none⟩ = some d5 ∧ Kept Nil w0 w'
section
variable {w0 w w' : World} {A B b p : Nat} {va vb c0 c1 c2 c3 c4 c5 : Value} {b' p' : Nat} {d0 d1 d2 d3 d4 d5 : Value}
theorem seenP_of (ha : w.cell? ⟨A, 5, none⟩ = some va) (hb : w.cell? ⟨B, 5, none⟩ = some vb) (r : w.rangeAt b p [c0, c1, c2, c3, c4, c5]) (r' : w.rangeAt b' p' [d0, d1, d2, d3, d4, d5]) (k : Kept Nil w0 w) : SeenP w0 A B va vb b p c0 c1 c2 c3 c4 c5 b' p' d0 d1 d2 d3 d4 d5 w :=
  ⟨ha, hb, r 0 _ rfl, r 1 _ rfl, r 2 _ rfl, r 3 _ rfl, r 4 _ rfl, r 5 _ rfl, r' 0 _ rfl, r' 1 _ rfl, r' 2 _ rfl, r' 3 _ rfl, r' 4 _ rfl, r' 5 _ rfl, k⟩
theorem seenP_kept (k : Kept Nil w w') (h : SeenP w0 A B va vb b p c0 c1 c2 c3 c4 c5 b' p' d0 d1 d2 d3 d4 d5 w) : SeenP w0 A B va vb b p c0 c1 c2 c3 c4 c5 b' p' d0 d1 d2 d3 d4 d5 w' := by
  obtain ⟨h0, h1, h2, h3, h4, h5, h6, h7, g0, g1, g2, g3, g4, g5, kk⟩ := h
  exact ⟨k.cellOf h0, k.cellOf h1, k.cellOf h2, k.cellOf h3, k.cellOf h4, k.cellOf h5, k.cellOf h6, k.cellOf h7, k.cellOf g0, k.cellOf g1, k.cellOf g2, k.cellOf g3, k.cellOf g4, k.cellOf g5, kk.trans k (fun _ _ g => g)⟩
end
abbrev RefSameSIH (subs : List St) : Prop := ∀ hd sb, St.mk hd sb ∈ subs → ∀ hd' sb' ok ok' ta tc a cap ta' tc' a' cap' w, (St.mk hd' sb').mass ≤ 5000 → TsAt w ok (.slice ta hd.ts.length tc) hd.ts → SHolds w ok (.slice a sb.length cap) sb → TsAt w ok' (.slice ta' hd'.ts.length tc') hd'.ts → SHolds w ok' (.slice a' sb'.length cap') sb' →
  Calls Try.prog 17 #[vS hd (.slice ta hd.ts.length tc) (.slice a sb.length cap), vS hd' (.slice ta' hd'.ts.length tc') (.slice a' sb'.length cap')] w fun e w' => e = .returned (.bool ((St.mk hd sb).same (.mk hd' sb'))) ∧ Kept Nil w w'
set_option maxHeartbeats 4000000 in
theorem refSameS_step (k x0 x1 x2 : Int) (ts : List Tst) (subs : List St) (htl : ts.length ≤ 5000) (hLen : subs.length ≤ 5000) (IH : Hid (RefSameSIH subs))
    (ok ok' : Nat → Nat → Prop) (ta : Option Addr) (tc : Nat) (a : Option Addr) (cap : Nat) (w : World) (ht : TsAt w ok (.slice ta ts.length tc) ts) (h : SHolds w ok (.slice a subs.length cap) subs)
    (k' y0 y1 y2 : Int) (us : List Tst) (subs' : List St) (hul : us.length ≤ 5000) (hLen' : subs'.length ≤ 5000) (hC' : ∀ y ∈ subs', y.mass ≤ 5000) (ta' : Option Addr) (tc' : Nat) (a' : Option Addr) (cap' : Nat) (ht' : TsAt w ok' (.slice ta' us.length tc') us) (h' : SHolds w ok' (.slice a' subs'.length cap') subs') :
    Calls Try.prog 17 #[vS ⟨k, x0, x1, x2, ts⟩ (.slice ta ts.length tc) (.slice a subs.length cap), vS ⟨k', y0, y1, y2, us⟩ (.slice ta' us.length tc') (.slice a' subs'.length cap')] w fun e w' => e = .returned (.bool ((St.mk ⟨k, x0, x1, x2, ts⟩ subs).same (.mk ⟨k', y0, y1, y2, us⟩ subs'))) ∧ Kept Nil w w' := by
  have hq : ∀ W, (Op.equalIn 10000 38 (.agg #[.int .i64 x0, .int .i64 x1, .int .i64 x2]) (.agg #[.int .i64 y0, .int .i64 y1, .int .i64 y2])).run Try.prog W = .ok (decide (x0 = y0 ∧ x1 = y1 ∧ x2 = y2)) W := fun W => eqArr x0 x1 x2 y0 y1 y2 W
  have HV : Hid ((St.mk ⟨k, x0, x1, x2, ts⟩ subs).same (.mk ⟨k', y0, y1, y2, us⟩ subs') = (decide (k = k') && (decide (x0 = y0 ∧ x1 = y1 ∧ x2 = y2) && eqTs ts us) && sameSL subs subs')) := Lib.hid (by rw [sameS_mk, SH.same_eq])
  have HT := Lib.hid ht
  have HT' := Lib.hid ht'
  have HS := Lib.hid h
  have HS' := Lib.hid h'
  have HC' := Lib.hid hC'
  generalize (St.mk ⟨k, x0, x1, x2, ts⟩ subs).same (.mk ⟨k', y0, y1, y2, us⟩ subs') = v at HV ⊢
  generalize decide (x0 = y0 ∧ x1 = y1 ∧ x2 = y2) = z at HV hq
  clear ht ht' h h' hC'
  obtain ⟨n1, hn1⟩ : ∃ n, ts.length = n := ⟨_, rfl⟩
  obtain ⟨n2, hn2⟩ : ∃ n, us.length = n := ⟨_, rfl⟩
  obtain ⟨l1, hl1⟩ : ∃ n, subs.length = n := ⟨_, rfl⟩
  obtain ⟨l2, hl2⟩ : ∃ n, subs'.length = n := ⟨_, rfl⟩
  rw [hn1] at HT htl ⊢
  rw [hn2] at HT' hul ⊢
  rw [hl1] at HS hLen ⊢
  rw [hl2] at HS' hLen' ⊢
  have HN1 := Lib.hid hn1
  have HN2 := Lib.hid hn2
  have HL1 := Lib.hid hl1
  have HL2 := Lib.hid hl2
  clear hn1 hn2 hl1 hl2
  have T0 := Lib.hid (TwoS.start w 48 (arrS ⟨k, x0, x1, x2, ts⟩ (.slice ta n1 tc) (.slice a l1 cap)) (arrS ⟨k', y0, y1, y2, us⟩ (.slice ta' n2 tc') (.slice a' l2 cap')))
  by_cases hk : k = k'
  · have hkk : (k != k') = false := by simpa using hk
    have HV1 : Hid (v = ((z && eqTs ts us) && sameSL subs subs')) := Lib.hid (by rw [HV.out, decide_eq_true hk]; rfl)
    clear HV hk
    cases z
    · go_enter Try.func17, Try.ntmps17
      go_wp2_with fail
      go_ret
      exact ⟨ret_bool (by rw [HV1.out]; rfl), T0.out.kept⟩
    · by_cases hn : n1 = n2
      · subst hn
        by_cases hl : l1 = l2
        · subst hl
          go_enter Try.func17, Try.ntmps17
          go_wp2_with fail
          go_loopw [5, 40] (fun _ i wr => ∃ j : Nat, j ≤ n1 ∧ i = .int .i64 j ∧ eqTs ts us = eqTs (ts.drop j) (us.drop j) ∧ TwoS w 48 (arrS ⟨k, x0, x1, x2, ts⟩ (.slice ta n1 tc) (.slice a l1 cap)) (arrS ⟨k', y0, y1, y2, us⟩ (.slice ta' n1 tc') (.slice a' l1 cap')) wr) (fun _ i _ => n1 - (intOf i).toNat)
          case atStart => exact ⟨0, by omega, rfl, rfl, T0.out⟩
          case round =>
            obtain ⟨j, hj, rfl, hch, hTw⟩ := hrel
            have HTw := Lib.hid hTw
            have HCh := Lib.hid hch
            have a4 := hTw.b0.cell 4
            have b4 := hTw.b1.cell 4
            have hs1 : w.heap.size < wr.heap.size := hTw.b0.lt
            have hs2 : w.heap.size + 1 < wr.heap.size := hTw.b1.lt
            simp at a4 b4
            clear hTw hch T0
            by_cases hlt : j < n1
            · obtain ⟨⟨t0, t1, t2⟩, hx⟩ : ∃ x, ts[j]? = some x := ⟨_, List.getElem?_eq_getElem (by have := HN1.out; omega)⟩
              obtain ⟨⟨u0, u1, u2⟩, hx'⟩ : ∃ x, us[j]? = some x := ⟨_, List.getElem?_eq_getElem (by have := HN2.out; omega)⟩
              obtain ⟨b, o, rfl, _, hr⟩ := (HT.out.keptN HTw.out.kept).at_ hx
              obtain ⟨b', o', rfl, _, hr'⟩ := (HT'.out.keptN HTw.out.kept).at_ hx'
              have p0 : wr.cell? ⟨b, o + j * 3, none⟩ = some (.int .i64 t0) := hr 0 _ rfl
              have p1 : wr.cell? ⟨b, o + j * 3 + 1, none⟩ = some (.int .i64 t1) := hr 1 _ rfl
              have p2 : wr.cell? ⟨b, o + j * 3 + 2, none⟩ = some (.int .i64 t2) := hr 2 _ rfl
              have q0 : wr.cell? ⟨b', o' + j * 3, none⟩ = some (.int .i64 u0) := hr' 0 _ rfl
              have q1 : wr.cell? ⟨b', o' + j * 3 + 1, none⟩ = some (.int .i64 u1) := hr' 1 _ rfl
              have q2 : wr.cell? ⟨b', o' + j * 3 + 2, none⟩ = some (.int .i64 u2) := hr' 2 _ rfl
              have HN := Lib.hid (eqTs_drop hx hx')
              have hqt : ∀ W, (Op.equalIn 10000 79 (.agg #[.int .i64 t0, .int .i64 t1, .int .i64 t2]) (.agg #[.int .i64 u0, .int .i64 u1, .int .i64 u2])).run Try.prog W = .ok (decide ((t0, t1, t2) = (u0, u1, u2))) W := fun W => by
                rw [eqTestR]; congr 1; rw [Bool.eq_iff_iff, decide_eq_true_iff, decide_eq_true_iff]; simp
              generalize decide ((t0, t1, t2) = (u0, u1, u2)) = q at hqt HN
              clear hx hx' hr hr'
              have hj0 : (0 : Int) ≤ (j : Int) := by omega
              have hjl : (j : Int) < (n1 : Int) := by omega
              cases q
              · go_wp2_with fail
                go_quiet (fail)
                go_wp2_with fail
                go_ret
                exact ⟨ret_bool (by rw [HV1.out, HCh.out, HN.out]; rfl), HTw.out.kept.drewN _⟩
              · go_wp2_with fail
                go_quiet (fail)
                go_wp2_with fail
                go_roundw
                case rel => exact ⟨j + 1, by omega, by go_num, by rw [HCh.out, HN.out]; rfl, HTw.out.step ((Kept.refl Nil wr).drewN _)⟩
                case measure => simp [intOf]; omega
            · obtain rfl : n1 = j := by omega
              have HV2 : Hid (v = sameSL subs subs') := Lib.hid (by rw [HV1.out, HCh.out, List.drop_eq_nil_of_le (by have := HN1.out; omega), List.drop_eq_nil_of_le (by have := HN2.out; omega)]; rfl)
              have a5 := HTw.out.b0.cell 5
              have b5 := HTw.out.b1.cell 5
              simp at a5 b5
              clear HV1 HCh a4 b4
              go_wp2_with fail
              go_loopw [6, 58] (fun _ i wr => ∃ j : Nat, j ≤ l1 ∧ i = .int .i64 j ∧ sameSL subs subs' = sameSL (subs.drop j) (subs'.drop j) ∧ TwoS w 48 (arrS ⟨k, x0, x1, x2, ts⟩ (.slice ta n1 tc) (.slice a l1 cap)) (arrS ⟨k', y0, y1, y2, us⟩ (.slice ta' n1 tc') (.slice a' l1 cap')) wr) (fun _ i _ => l1 - (intOf i).toNat)
              case atStart => exact ⟨0, by omega, rfl, rfl, HTw.out⟩
              case round =>
                obtain ⟨i, hi, rfl, hch, hT2⟩ := hrel
                have HT2 := Lib.hid hT2
                have HCh := Lib.hid hch
                clear hT2 hch a5 b5 HTw HN1 HN2
                by_cases hlt2 : i < l1
                · obtain ⟨⟨⟨k1, m0, m1, m2, ts1⟩, sb⟩, hx⟩ : ∃ x, subs[i]? = some x := ⟨_, List.getElem?_eq_getElem (by have := HL1.out; omega)⟩
                  obtain ⟨⟨⟨k2, m3, m4, m5, ts2⟩, sb'⟩, hx'⟩ : ∃ x, subs'[i]? = some x := ⟨_, List.getElem?_eq_getElem (by have := HL2.out; omega)⟩
                  obtain ⟨b, o, t1, d1, a1, c1, rfl, _, hr, ht, hs⟩ := (HS.out.keptN HT2.out.kept).at_ hx
                  obtain ⟨b', o', t2, d2, a2, c2, rfl, _, hr', ht', hs'⟩ := (HS'.out.keptN HT2.out.kept).at_ hx'
                  have hc' : (St.mk ⟨k2, m3, m4, m5, ts2⟩ sb').mass ≤ 5000 := HC'.out _ (List.mem_of_getElem? hx')
                  have HX : Hid (∀ W, Kept Nil wr W → Calls Try.prog 17 #[vS ⟨k1, m0, m1, m2, ts1⟩ (.slice t1 ts1.length d1) (.slice a1 sb.length c1), vS ⟨k2, m3, m4, m5, ts2⟩ (.slice t2 ts2.length d2) (.slice a2 sb'.length c2)] W fun e w' => e = .returned (.bool ((St.mk ⟨k1, m0, m1, m2, ts1⟩ sb).same (.mk ⟨k2, m3, m4, m5, ts2⟩ sb'))) ∧ Kept Nil W w') := Lib.hid fun W kW =>
                    IH.out _ _ (List.mem_of_getElem? hx) _ sb' ok ok' t1 d1 a1 c1 t2 d2 a2 c2 W hc' (ht.keptN kW) (hs.keptN kW) (ht'.keptN kW) (hs'.keptN kW)
                  have HN := Lib.hid (sameSL_drop hx hx')
                  have HR : Hid (wr.rangeAt b (o + i * 6) (cS ⟨k1, m0, m1, m2, ts1⟩ (.slice t1 ts1.length d1) (.slice a1 sb.length c1))) := Lib.hid hr
                  have HR' : Hid (wr.rangeAt b' (o' + i * 6) (cS ⟨k2, m3, m4, m5, ts2⟩ (.slice t2 ts2.length d2) (.slice a2 sb'.length c2))) := Lib.hid hr'
                  generalize (St.mk ⟨k1, m0, m1, m2, ts1⟩ sb).same (.mk ⟨k2, m3, m4, m5, ts2⟩ sb') = q at HX HN
                  generalize ts1.length = e1 at HR HX
                  generalize ts2.length = e2 at HR' HX
                  generalize sb.length = f1 at HR HX
                  generalize sb'.length = f2 at HR' HX
                  have SQ := Lib.hid (seenP_of (w0 := w) (va := .slice (some ⟨b, o, none⟩) l1 cap) (vb := .slice (some ⟨b', o', none⟩) l1 cap') (HT2.out.b0.drew.cell 5) (HT2.out.b1.drew.cell 5) (rangeAt_kept ((Kept.refl Nil wr).drew) id HR.out) (rangeAt_kept ((Kept.refl Nil wr).drew) id HR'.out) HT2.out.kept.drew)
                  clear hx hx' hs hs' ht ht' hr hr' hc' HR HR'
                  have hj0 : (0 : Int) ≤ (i : Int) := by omega
                  have hjl : (i : Int) < (l1 : Int) := by omega
                  cases q
                  · go_wp2_with fail
                    go_region_held3 (SeenP w w.heap.size (w.heap.size + 1) (.slice (some ⟨b, o, none⟩) l1 cap) (.slice (some ⟨b', o', none⟩) l1 cap') b (o + i * 6) (.int .i64 k1) (.int .i64 m0) (.int .i64 m1) (.int .i64 m2) (.slice t1 e1 d1) (.slice a1 f1 c1) b' (o' + i * 6) (.int .i64 k2) (.int .i64 m3) (.int .i64 m4) (.int .i64 m5) (.slice t2 e2 d2) (.slice a2 f2 c2))
                      (first | (with_reducible assumption) | (with_reducible exact SQ.out) | (with_reducible exact seenP_kept k9 (by with_reducible assumption)))
                      (first
                        | (go_at_call 17; refine (HX.out _ ((Kept.refl Nil wr).drew)).mono ?_; rintro e w9 ⟨rfl, k9⟩))
                    have T9 := Lib.hid (HT2.out.step (((Kept.refl Nil wr).drew).trans k9 (fun _ _ g => g)))
                    clear k9
                    go_wp2_with fail
                    go_ret
                    exact ⟨ret_bool (by rw [HV2.out, HCh.out, HN.out]; rfl), T9.out.kept⟩
                  · go_wp2_with fail
                    go_region_held3 (SeenP w w.heap.size (w.heap.size + 1) (.slice (some ⟨b, o, none⟩) l1 cap) (.slice (some ⟨b', o', none⟩) l1 cap') b (o + i * 6) (.int .i64 k1) (.int .i64 m0) (.int .i64 m1) (.int .i64 m2) (.slice t1 e1 d1) (.slice a1 f1 c1) b' (o' + i * 6) (.int .i64 k2) (.int .i64 m3) (.int .i64 m4) (.int .i64 m5) (.slice t2 e2 d2) (.slice a2 f2 c2))
                      (first | (with_reducible assumption) | (with_reducible exact SQ.out) | (with_reducible exact seenP_kept k9 (by with_reducible assumption)))
                      (first
                        | (go_at_call 17; refine (HX.out _ ((Kept.refl Nil wr).drew)).mono ?_; rintro e w9 ⟨rfl, k9⟩))
                    have T9 := Lib.hid (HT2.out.step (((Kept.refl Nil wr).drew).trans k9 (fun _ _ g => g)))
                    clear k9
                    go_wp2_with fail
                    go_roundw
                    case rel => exact ⟨i + 1, by omega, by go_num, by rw [HCh.out, HN.out]; rfl, T9.out⟩
                    case measure => simp [intOf]; omega
                · obtain rfl : l1 = i := by omega
                  have HE : Hid (sameSL (subs.drop l1) (subs'.drop l1) = true) := Lib.hid (by rw [List.drop_eq_nil_of_le (by have := HL1.out; omega), List.drop_eq_nil_of_le (by have := HL2.out; omega)]; rfl)
                  go_wp2_with fail
                  go_ret
                  exact ⟨ret_bool (by rw [HV2.out, HCh.out, HE.out]), HT2.out.kept⟩
        · have HV2 : Hid (v = false) := Lib.hid (by rw [HV1.out, sameSL_ne (by have := HL1.out; have := HL2.out; omega)]; simp)
          have hl' : ((l1 : Int) != (l2 : Int)) = true := by simp; omega
          clear HV1
          go_enter Try.func17, Try.ntmps17
          go_wp2_with fail
          go_ret
          exact ⟨ret_bool HV2.out.symm, T0.out.kept⟩
      · have HV2 : Hid (v = false) := Lib.hid (by rw [HV1.out, eqTs_ne (by have := HN1.out; have := HN2.out; omega)]; simp)
        have hn' : ((n1 : Int) != (n2 : Int)) = true := by simp; omega
        clear HV1
        go_enter Try.func17, Try.ntmps17
        go_wp2_with fail
        go_ret
        exact ⟨ret_bool HV2.out.symm, T0.out.kept⟩
  · have HV2 : Hid (v = false) := Lib.hid (by rw [HV.out]; simp [hk])
    have hk' : (k != k') = true := by simpa using hk
    clear HV
    go_enter Try.func17, Try.ntmps17
    go_wp2_with fail
    go_ret
    exact ⟨by rw [HV2.out]; rfl, T0.out.kept⟩
theorem refSameS_any : ∀ s : St, s.mass ≤ 5000 → ∀ t : St, t.mass ≤ 5000 → ∀ ok ok' ta tc a cap ta' tc' a' cap' w, TsAt w ok (.slice ta s.hd.ts.length tc) s.hd.ts → SHolds w ok (.slice a s.subs.length cap) s.subs → TsAt w ok' (.slice ta' t.hd.ts.length tc') t.hd.ts → SHolds w ok' (.slice a' t.subs.length cap') t.subs →
    Calls Try.prog 17 #[vS s.hd (.slice ta s.hd.ts.length tc) (.slice a s.subs.length cap), vS t.hd (.slice ta' t.hd.ts.length tc') (.slice a' t.subs.length cap')] w fun e w' => e = .returned (.bool (s.same t)) ∧ Kept Nil w w' := by
  refine St.ind fun hd subs ih hc t ht ok ok' ta tc a cap ta' tc' a' cap' w h1 h2 h3 h4 => ?_
  obtain ⟨hd', subs'⟩ := t
  have hc' : 1 + hd.ts.length + massL subs ≤ 5000 := by simpa [St.mass] using hc
  have ht' : 1 + hd'.ts.length + massL subs' ≤ 5000 := by simpa [St.mass] using ht
  have hl := length_massL subs
  have hl' := length_massL subs'
  exact refSameS_step hd.k hd.k0 hd.k1 hd.k2 hd.ts subs (by omega) (by omega) (Lib.hid fun hd1 sb hx hd2 sb' ok1 ok2 t1 d1 a1 c1 t2 d2 a2 c2 W hcs g1 g2 g3 g4 => ih _ hx (by have := mass_mem hx; omega) (.mk hd2 sb') hcs ok1 ok2 t1 d1 a1 c1 t2 d2 a2 c2 W g1 g2 g3 g4)
    ok ok' ta tc a cap w h1 h2 hd'.k hd'.k0 hd'.k1 hd'.k2 hd'.ts subs' (by omega) (by omega) (fun y hy => by have := mass_mem hy; omega) ta' tc' a' cap' h3 h4
end
section
open Go.RowKit
set_option maxRecDepth 100000

abbrev SeenA (w0 : World) (b p : Nat) (c0 c1 c2 c3 c4 c5 : Value) (b' p' : Nat) (d0 d1 d2 d3 d4 d5 : Value) (w' : World) : Prop :=
  w'.cell? ⟨b, p, none⟩ = some c0 ∧ w'.cell? ⟨b, p + 1, none⟩ = some c1 ∧ w'.cell? ⟨b, p + 2, none⟩ = some c2 ∧ w'.cell? ⟨b, p + 3, none⟩ = some c3 ∧ w'.cell? ⟨b, p + 4, none⟩ = some c4 ∧ w'.cell? ⟨b, p + 5, none⟩ = some c5 ∧
  w'.cell? ⟨b', p', none⟩ = some d0 ∧ w'.cell? ⟨b', p' + 1, none⟩ = some d1 ∧ w'.cell? ⟨b', p' + 2, none⟩ = some d2 ∧ w'.cell? ⟨b', p' + 3, none⟩ = some d3 ∧ w'.cell? ⟨b', p' + 4, none⟩ = some d4 ∧ w'.cell? ⟨b', p' + 5, none⟩ = some d5 ∧ Kept Nil w0 w'
section
variable {w0 w w' : World} {b p : Nat} {c0 c1 c2 c3 c4 c5 : Value} {b' p' : Nat} {d0 d1 d2 d3 d4 d5 : Value}
theorem seenA_of (r : w.rangeAt b p [c0, c1, c2, c3, c4, c5]) (r' : w.rangeAt b' p' [d0, d1, d2, d3, d4, d5]) (k : Kept Nil w0 w) : SeenA w0 b p c0 c1 c2 c3 c4 c5 b' p' d0 d1 d2 d3 d4 d5 w :=
  ⟨r 0 _ rfl, r 1 _ rfl, r 2 _ rfl, r 3 _ rfl, r 4 _ rfl, r 5 _ rfl, r' 0 _ rfl, r' 1 _ rfl, r' 2 _ rfl, r' 3 _ rfl, r' 4 _ rfl, r' 5 _ rfl, k⟩
theorem seenA_kept (k : Kept Nil w w') (h : SeenA w0 b p c0 c1 c2 c3 c4 c5 b' p' d0 d1 d2 d3 d4 d5 w) : SeenA w0 b p c0 c1 c2 c3 c4 c5 b' p' d0 d1 d2 d3 d4 d5 w' := by
  obtain ⟨h2, h3, h4, h5, h6, h7, g0, g1, g2, g3, g4, g5, kk⟩ := h
  exact ⟨k.cellOf h2, k.cellOf h3, k.cellOf h4, k.cellOf h5, k.cellOf h6, k.cellOf h7, k.cellOf g0, k.cellOf g1, k.cellOf g2, k.cellOf g3, k.cellOf g4, k.cellOf g5, kk.trans k (fun _ _ g => g)⟩
end
set_option maxHeartbeats 4000000 in
theorem all_any (l l' : List St) (hc : massL l ≤ 5000) (hc' : massL l' ≤ 5000) (ok ok' : Nat → Nat → Prop) (a a' : Option Addr) (cap cap' : Nat) (w : World) (h : SHolds w ok (.slice a l.length cap) l) (h' : SHolds w ok' (.slice a' l'.length cap') l') :
    Calls Try.prog 11 #[.slice a l.length cap, .slice a' l'.length cap'] w fun e w' => e = .returned (.bool (sameSL l l')) ∧ Kept Nil w w' := by
  obtain ⟨len, hlen⟩ : ∃ n, l.length = n := ⟨_, rfl⟩
  obtain ⟨len', hlen'⟩ : ∃ n, l'.length = n := ⟨_, rfl⟩
  have HH := Lib.hid h
  have HH' := Lib.hid h'
  have HC := Lib.hid hc
  have HC' := Lib.hid hc'
  rw [hlen] at HH ⊢
  rw [hlen'] at HH' ⊢
  have HL := Lib.hid hlen
  have HL' := Lib.hid hlen'
  have hLen : len ≤ 5000 := by have := length_massL l; omega
  clear h h' hc hc' hlen hlen'
  by_cases hl : len = len'
  · subst hl
    go_enter Try.func11, Try.ntmps11
    go_wp2_with fail
    go_loopw [5, 13] (fun _ i wr => ∃ j : Nat, j ≤ len ∧ i = .int .i64 j ∧ sameSL l l' = sameSL (l.drop j) (l'.drop j) ∧ Kept Nil w wr) (fun _ i _ => len - (intOf i).toNat)
    case atStart => exact ⟨0, by omega, rfl, rfl, Kept.refl _ _⟩
    case round =>
      obtain ⟨i, hi, rfl, hch, hK⟩ := hrel
      have HK := Lib.hid hK
      have HCh := Lib.hid hch
      clear hK hch
      by_cases hlt : i < len
      · obtain ⟨⟨⟨k1, m0, m1, m2, ts1⟩, sb⟩, hx⟩ : ∃ x, l[i]? = some x := ⟨_, List.getElem?_eq_getElem (by have := HL.out; omega)⟩
        obtain ⟨⟨⟨k2, m3, m4, m5, ts2⟩, sb'⟩, hx'⟩ : ∃ x, l'[i]? = some x := ⟨_, List.getElem?_eq_getElem (by have := HL'.out; omega)⟩
        obtain ⟨b, o, t1, d1, a1, c1, rfl, _, hr, ht, hs⟩ := (HH.out.keptN HK.out).at_ hx
        obtain ⟨b', o', t2, d2, a2, c2, rfl, _, hr', ht', hs'⟩ := (HH'.out.keptN HK.out).at_ hx'
        have hcx : (St.mk ⟨k1, m0, m1, m2, ts1⟩ sb).mass ≤ 5000 := Nat.le_trans (mass_mem (List.mem_of_getElem? hx)) HC.out
        have hcx' : (St.mk ⟨k2, m3, m4, m5, ts2⟩ sb').mass ≤ 5000 := Nat.le_trans (mass_mem (List.mem_of_getElem? hx')) HC'.out
        have HX : Hid (∀ W, Kept Nil wr W → Calls Try.prog 17 #[vS ⟨k1, m0, m1, m2, ts1⟩ (.slice t1 ts1.length d1) (.slice a1 sb.length c1), vS ⟨k2, m3, m4, m5, ts2⟩ (.slice t2 ts2.length d2) (.slice a2 sb'.length c2)] W fun e w' => e = .returned (.bool ((St.mk ⟨k1, m0, m1, m2, ts1⟩ sb).same (.mk ⟨k2, m3, m4, m5, ts2⟩ sb'))) ∧ Kept Nil W w') := Lib.hid fun W kW =>
          refSameS_any (.mk ⟨k1, m0, m1, m2, ts1⟩ sb) hcx (.mk ⟨k2, m3, m4, m5, ts2⟩ sb') hcx' ok ok' t1 d1 a1 c1 t2 d2 a2 c2 W (ht.keptN kW) (hs.keptN kW) (ht'.keptN kW) (hs'.keptN kW)
        have HN := Lib.hid (sameSL_drop hx hx')
        have HR : Hid (wr.rangeAt b (o + i * 6) (cS ⟨k1, m0, m1, m2, ts1⟩ (.slice t1 ts1.length d1) (.slice a1 sb.length c1))) := Lib.hid hr
        have HR' : Hid (wr.rangeAt b' (o' + i * 6) (cS ⟨k2, m3, m4, m5, ts2⟩ (.slice t2 ts2.length d2) (.slice a2 sb'.length c2))) := Lib.hid hr'
        generalize (St.mk ⟨k1, m0, m1, m2, ts1⟩ sb).same (.mk ⟨k2, m3, m4, m5, ts2⟩ sb') = q at HX HN
        generalize ts1.length = e1 at HR HX
        generalize ts2.length = e2 at HR' HX
        generalize sb.length = f1 at HR HX
        generalize sb'.length = f2 at HR' HX
        have SQ := Lib.hid (seenA_of (w0 := w) (rangeAt_kept ((Kept.refl Nil wr).drew) id HR.out) (rangeAt_kept ((Kept.refl Nil wr).drew) id HR'.out) HK.out.drew)
        clear hx hx' hs hs' ht ht' hr hr' hcx hcx' HR HR'
        have hj0 : (0 : Int) ≤ (i : Int) := by omega
        have hjl : (i : Int) < (len : Int) := by omega
        cases q
        · go_wp2_with fail
          go_region_held3 (SeenA w b (o + i * 6) (.int .i64 k1) (.int .i64 m0) (.int .i64 m1) (.int .i64 m2) (.slice t1 e1 d1) (.slice a1 f1 c1) b' (o' + i * 6) (.int .i64 k2) (.int .i64 m3) (.int .i64 m4) (.int .i64 m5) (.slice t2 e2 d2) (.slice a2 f2 c2))
            (first | (with_reducible assumption) | (with_reducible exact SQ.out) | (with_reducible exact seenA_kept k9 (by with_reducible assumption)))
            (first
              | (go_at_call 17; refine (HX.out _ ((Kept.refl Nil wr).drew)).mono ?_; rintro e w9 ⟨rfl, k9⟩))
          have K9 := Lib.hid (HK.out.trans (((Kept.refl Nil wr).drew).trans k9 (fun _ _ g => g)) (fun _ _ g => g))
          clear k9
          go_wp2_with fail
          go_ret
          exact ⟨ret_bool (by rw [HCh.out, HN.out]; rfl), K9.out⟩
        · go_wp2_with fail
          go_region_held3 (SeenA w b (o + i * 6) (.int .i64 k1) (.int .i64 m0) (.int .i64 m1) (.int .i64 m2) (.slice t1 e1 d1) (.slice a1 f1 c1) b' (o' + i * 6) (.int .i64 k2) (.int .i64 m3) (.int .i64 m4) (.int .i64 m5) (.slice t2 e2 d2) (.slice a2 f2 c2))
            (first | (with_reducible assumption) | (with_reducible exact SQ.out) | (with_reducible exact seenA_kept k9 (by with_reducible assumption)))
            (first
              | (go_at_call 17; refine (HX.out _ ((Kept.refl Nil wr).drew)).mono ?_; rintro e w9 ⟨rfl, k9⟩))
          have K9 := Lib.hid (HK.out.trans (((Kept.refl Nil wr).drew).trans k9 (fun _ _ g => g)) (fun _ _ g => g))
          clear k9
          go_wp2_with fail
          go_roundw
          case rel => exact ⟨i + 1, by omega, by go_num, by rw [HCh.out, HN.out]; rfl, K9.out⟩
          case measure => simp [intOf]; omega
      · obtain rfl : len = i := by omega
        have HE : Hid (sameSL (l.drop len) (l'.drop len) = true) := Lib.hid (by rw [List.drop_eq_nil_of_le (by have := HL.out; omega), List.drop_eq_nil_of_le (by have := HL'.out; omega)]; rfl)
        go_wp2_with fail
        go_ret
        exact ⟨ret_bool (by rw [HCh.out, HE.out]), HK.out⟩
  · have HV2 : Hid (sameSL l l' = false) := Lib.hid (sameSL_ne (by have := HL.out; have := HL'.out; omega))
    have hl' : ((len : Int) != (len' : Int)) = true := by simp; omega
    go_enter Try.func11, Try.ntmps11
    go_wp2_with fail
    go_ret
    exact ⟨by rw [HV2.out]; rfl, Kept.refl _ _⟩
theorem sameSL_refl (l : List St) : sameSL l l = true := sameS_refl.2 l
end
end Go.Proofs.Ytoceogbanlmnoaa
