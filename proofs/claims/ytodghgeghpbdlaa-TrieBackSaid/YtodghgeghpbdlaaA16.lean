/- Layer comp: the reference's Same of steps, and All. – Layer comp: the reference's All: two lists of steps. – Layer trie: the reference's Distinct: each chain once. – Layer trie: the reference's chains, as a law that goes on calling the trie sees them. – Layer trie: the program's New. -/
import Derived.Test.YtodghgeghpbdlaaA12
import Derived.Test.YtodghgeghpbdlaaA15
import Derived.Deep.RegionHeld3
import Derived.Test.YtodghgeghpbdlaaA13
namespace Go.Proofs.Ytodghgeghpbdlaa
section
section
open Go.RowKit
set_option maxRecDepth 100000

/-- What is read in the region that asks for two Subs. -/
abbrev SeenP (w0 : World) (A B : Nat) (va vb : Value) (b p : Nat) (c0 c1 c2 c3 c4 c5 : Value) (b' p' : Nat) (d0 d1 d2 d3 d4 d5 : Value) (w' : World) : Prop :=
  w'.cell? ⟨A, 5, none⟩ = some va ∧ w'.cell? ⟨B, 5, none⟩ = some vb ∧ w'.cell? ⟨b, p, none⟩ = some c0 ∧ w'.cell? ⟨b, p + 1, none⟩ = some c1 ∧ w'.cell? ⟨b, p + 2, none⟩ = some c2 ∧ w'.cell? ⟨b, p + 3, none⟩ = some c3 ∧ w'.cell? ⟨b, p + 4, none⟩ = some c4 ∧ w'.cell? ⟨b, p + 5, none⟩ = some c5 ∧
  w'.cell? ⟨b', p', none⟩ = some d0 ∧ w'.cell? ⟨b', p' + 1, none⟩ = some d1 ∧ w'.cell? ⟨b', p' + 2, none⟩ = some d2 ∧ w'.cell? ⟨b', p' + 3, none⟩ = some d3 ∧ w'.cell? ⟨b', p' + 4, none⟩ = some d4 ∧ w'.cell? ⟨b', p' + 5, none⟩ = some d5 ∧ Kept Nil w0 w'
section
variable {w0 w w' : World} {A B b p : Nat} {va vb c0 c1 c2 c3 c4 c5 : Value} {b' p' : Nat} {d0 d1 d2 d3 d4 d5 : Value}
theorem seenP_of (ha : w.cell? ⟨A, 5, none⟩ = some va) (hb : w.cell? ⟨B, 5, none⟩ = some vb) (r : w.rangeAt b p [c0, c1, c2, c3, c4, c5]) (r' : w.rangeAt b' p' [d0, d1, d2, d3, d4, d5]) (k : Kept Nil w0 w) : SeenP w0 A B va vb b p c0 c1 c2 c3 c4 c5 b' p' d0 d1 d2 d3 d4 d5 w :=
  ⟨ha, hb, r 0 _ rfl, r 1 _ rfl, r 2 _ rfl, r 3 _ rfl, r 4 _ rfl, r 5 _ rfl, r' 0 _ rfl, r' 1 _ rfl, r' 2 _ rfl, r' 3 _ rfl, r' 4 _ rfl, r' 5 _ rfl, k⟩
theorem seenP_kept (k : Kept Nil w w') (h : SeenP w0 A B va vb b p c0 c1 c2 c3 c4 c5 b' p' d0 d1 d2 d3 d4 d5 w) : SeenP w0 A B va vb b p c0 c1 c2 c3 c4 c5 b' p' d0 d1 d2 d3 d4 d5 w' := by
  obtain ⟨h0, h1, h2, h3, h4, h5, h6, h7, g0, g1, g2, g3, g4, g5, kk⟩ := h
  exact ⟨k.cellOf h0, k.cellOf h1, k.cellOf h2, k.cellOf h3, k.cellOf h4, k.cellOf h5, k.cellOf h6, k.cellOf h7, k.cellOf g0, k.cellOf g1, k.cellOf g2, k.cellOf g3, k.cellOf g4, k.cellOf g5, kk.trans k (fun _ _ g => g)⟩
end
abbrev RefSameSIH (subs : List St) : Prop := ∀ hd sb, St.mk hd sb ∈ subs → ∀ hd' sb' ok ok' ta tc a cap ta' tc' a' cap' w, (St.mk hd' sb').mass ≤ 5000 → TsAt w ok (.slice ta hd.ts.length tc) hd.ts → SHolds w ok (.slice a sb.length cap) sb → TsAt w ok' (.slice ta' hd'.ts.length tc') hd'.ts → SHolds w ok' (.slice a' sb'.length cap') sb' →
  Calls Try.prog 108 #[vS hd (.slice ta hd.ts.length tc) (.slice a sb.length cap), vS hd' (.slice ta' hd'.ts.length tc') (.slice a' sb'.length cap')] w fun e w' => e = .returned (.bool ((St.mk hd sb).same (.mk hd' sb'))) ∧ Kept Nil w w'
set_option maxHeartbeats 4000000 in
theorem refSameS_step (k x0 x1 x2 : Int) (ts : List Tst) (subs : List St) (htl : ts.length ≤ 5000) (hLen : subs.length ≤ 5000) (IH : Hid (RefSameSIH subs))
    (ok ok' : Nat → Nat → Prop) (ta : Option Addr) (tc : Nat) (a : Option Addr) (cap : Nat) (w : World) (ht : TsAt w ok (.slice ta ts.length tc) ts) (h : SHolds w ok (.slice a subs.length cap) subs)
    (k' y0 y1 y2 : Int) (us : List Tst) (subs' : List St) (hul : us.length ≤ 5000) (hLen' : subs'.length ≤ 5000) (hC' : ∀ y ∈ subs', y.mass ≤ 5000) (ta' : Option Addr) (tc' : Nat) (a' : Option Addr) (cap' : Nat) (ht' : TsAt w ok' (.slice ta' us.length tc') us) (h' : SHolds w ok' (.slice a' subs'.length cap') subs') :
    Calls Try.prog 108 #[vS ⟨k, x0, x1, x2, ts⟩ (.slice ta ts.length tc) (.slice a subs.length cap), vS ⟨k', y0, y1, y2, us⟩ (.slice ta' us.length tc') (.slice a' subs'.length cap')] w fun e w' => e = .returned (.bool ((St.mk ⟨k, x0, x1, x2, ts⟩ subs).same (.mk ⟨k', y0, y1, y2, us⟩ subs'))) ∧ Kept Nil w w' := by
  have hq : ∀ W, (Op.equalIn 10000 37 (.agg #[.int .i64 x0, .int .i64 x1, .int .i64 x2]) (.agg #[.int .i64 y0, .int .i64 y1, .int .i64 y2])).run Try.prog W = .ok (decide (x0 = y0 ∧ x1 = y1 ∧ x2 = y2)) W := fun W => eqArr x0 x1 x2 y0 y1 y2 W
  have HV : Hid ((St.mk ⟨k, x0, x1, x2, ts⟩ subs).same (.mk ⟨k', y0, y1, y2, us⟩ subs') = (decide (k = k') && (decide (x0 = y0 ∧ x1 = y1 ∧ x2 = y2) && eqTs ts us) && sameSL subs subs')) := Lib.hid (by rw [sameS_mk, SH.same_eq])
  have HT := Lib.hid ht
  have HT' := Lib.hid ht'
  have HS := Lib.hid h
  have HS' := Lib.hid h'
  have HC' := Lib.hid hC'
  generalize (St.mk ⟨k, x0, x1, x2, ts⟩ subs).same (.mk ⟨k', y0, y1, y2, us⟩ subs') = v at HV ⊢
  generalize decide (x0 = y0 ∧ x1 = y1 ∧ x2 = y2) = z at HV hq
  clear ht ht' h h' hC'
  obtain ⟨n1, hn1⟩ : ∃ n, ts.length = n := ⟨_, rfl⟩
  obtain ⟨n2, hn2⟩ : ∃ n, us.length = n := ⟨_, rfl⟩
  obtain ⟨l1, hl1⟩ : ∃ n, subs.length = n := ⟨_, rfl⟩
  obtain ⟨l2, hl2⟩ : ∃ n, subs'.length = n := ⟨_, rfl⟩
  rw [hn1] at HT htl ⊢
  rw [hn2] at HT' hul ⊢
  rw [hl1] at HS hLen ⊢
  rw [hl2] at HS' hLen' ⊢
  have HN1 := Lib.hid hn1
  have HN2 := Lib.hid hn2
  have HL1 := Lib.hid hl1
  have HL2 := Lib.hid hl2
  clear hn1 hn2 hl1 hl2
  have T0 := Lib.hid (TwoS.start w 118 (arrS ⟨k, x0, x1, x2, ts⟩ (.slice ta n1 tc) (.slice a l1 cap)) (arrS ⟨k', y0, y1, y2, us⟩ (.slice ta' n2 tc') (.slice a' l2 cap')))
  by_cases hk : k = k'
  · have hkk : (k != k') = false := by simpa using hk
    have HV1 : Hid (v = ((z && eqTs ts us) && sameSL subs subs')) := Lib.hid (by rw [HV.out, decide_eq_true hk]; rfl)
    clear HV hk
    cases z
    · go_enter Try.func108, Try.ntmps108
      go_wp2_with fail
      go_ret
      exact ⟨ret_bool (by rw [HV1.out]; rfl), T0.out.kept⟩
    · by_cases hn : n1 = n2
      · subst hn
        by_cases hl : l1 = l2
        · subst hl
          go_enter Try.func108, Try.ntmps108
          go_wp2_with fail
          go_loopw [5, 40] (fun _ i wr => ∃ j : Nat, j ≤ n1 ∧ i = .int .i64 j ∧ eqTs ts us = eqTs (ts.drop j) (us.drop j) ∧ TwoS w 118 (arrS ⟨k, x0, x1, x2, ts⟩ (.slice ta n1 tc) (.slice a l1 cap)) (arrS ⟨k', y0, y1, y2, us⟩ (.slice ta' n1 tc') (.slice a' l1 cap')) wr) (fun _ i _ => n1 - (intOf i).toNat)
          case atStart => exact ⟨0, by omega, rfl, rfl, T0.out⟩
          case round =>
            obtain ⟨j, hj, rfl, hch, hTw⟩ := hrel
            have HTw := Lib.hid hTw
            have HCh := Lib.hid hch
            have a4 := hTw.b0.cell 4
            have b4 := hTw.b1.cell 4
            have hs1 : w.heap.size < wr.heap.size := hTw.b0.lt
            have hs2 : w.heap.size + 1 < wr.heap.size := hTw.b1.lt
            simp at a4 b4
            clear hTw hch T0
            by_cases hlt : j < n1
            · obtain ⟨⟨t0, t1, t2⟩, hx⟩ : ∃ x, ts[j]? = some x := ⟨_, List.getElem?_eq_getElem (by have := HN1.out; omega)⟩
              obtain ⟨⟨u0, u1, u2⟩, hx'⟩ : ∃ x, us[j]? = some x := ⟨_, List.getElem?_eq_getElem (by have := HN2.out; omega)⟩
              obtain ⟨b, o, rfl, _, hr⟩ := (HT.out.keptN HTw.out.kept).at_ hx
              obtain ⟨b', o', rfl, _, hr'⟩ := (HT'.out.keptN HTw.out.kept).at_ hx'
              have p0 : wr.cell? ⟨b, o + j * 3, none⟩ = some (.int .i64 t0) := hr 0 _ rfl
              have p1 : wr.cell? ⟨b, o + j * 3 + 1, none⟩ = some (.int .i64 t1) := hr 1 _ rfl
              have p2 : wr.cell? ⟨b, o + j * 3 + 2, none⟩ = some (.int .i64 t2) := hr 2 _ rfl
              have q0 : wr.cell? ⟨b', o' + j * 3, none⟩ = some (.int .i64 u0) := hr' 0 _ rfl
              have q1 : wr.cell? ⟨b', o' + j * 3 + 1, none⟩ = some (.int .i64 u1) := hr' 1 _ rfl
              have q2 : wr.cell? ⟨b', o' + j * 3 + 2, none⟩ = some (.int .i64 u2) := hr' 2 _ rfl
              have HN := Lib.hid (eqTs_drop hx hx')
              have hqt : ∀ W, (Op.equalIn 10000 119 (.agg #[.int .i64 t0, .int .i64 t1, .int .i64 t2]) (.agg #[.int .i64 u0, .int .i64 u1, .int .i64 u2])).run Try.prog W = .ok (decide ((t0, t1, t2) = (u0, u1, u2))) W := fun W => by
                rw [eqTestR]; congr 1; rw [Bool.eq_iff_iff, decide_eq_true_iff, decide_eq_true_iff]; simp
              generalize decide ((t0, t1, t2) = (u0, u1, u2)) = q at hqt HN
              clear hx hx' hr hr'
              have hj0 : (0 : Int) ≤ (j : Int) := by omega
              have hjl : (j : Int) < (n1 : Int) := by omega
              cases q
              · go_wp2_with fail
                go_quiet (fail)
                go_wp2_with fail
                go_ret
                exact ⟨ret_bool (by rw [HV1.out, HCh.out, HN.out]; rfl), HTw.out.kept.drewN _⟩
              · go_wp2_with fail
                go_quiet (fail)
                go_wp2_with fail
                go_roundw
                case rel => exact ⟨j + 1, by omega, by go_num, by rw [HCh.out, HN.out]; rfl, HTw.out.step ((Kept.refl Nil wr).drewN _)⟩
                case measure => simp [intOf]; omega
            · obtain rfl : n1 = j := by omega
              have HV2 : Hid (v = sameSL subs subs') := Lib.hid (by rw [HV1.out, HCh.out, List.drop_eq_nil_of_le (by have := HN1.out; omega), List.drop_eq_nil_of_le (by have := HN2.out; omega)]; rfl)
              have a5 := HTw.out.b0.cell 5
              have b5 := HTw.out.b1.cell 5
              simp at a5 b5
              clear HV1 HCh a4 b4
              go_wp2_with fail
              go_loopw [6, 58] (fun _ i wr => ∃ j : Nat, j ≤ l1 ∧ i = .int .i64 j ∧ sameSL subs subs' = sameSL (subs.drop j) (subs'.drop j) ∧ TwoS w 118 (arrS ⟨k, x0, x1, x2, ts⟩ (.slice ta n1 tc) (.slice a l1 cap)) (arrS ⟨k', y0, y1, y2, us⟩ (.slice ta' n1 tc') (.slice a' l1 cap')) wr) (fun _ i _ => l1 - (intOf i).toNat)
              case atStart => exact ⟨0, by omega, rfl, rfl, HTw.out⟩
              case round =>
                obtain ⟨i, hi, rfl, hch, hT2⟩ := hrel
                have HT2 := Lib.hid hT2
                have HCh := Lib.hid hch
                clear hT2 hch a5 b5 HTw HN1 HN2
                by_cases hlt2 : i < l1
                · obtain ⟨⟨⟨k1, m0, m1, m2, ts1⟩, sb⟩, hx⟩ : ∃ x, subs[i]? = some x := ⟨_, List.getElem?_eq_getElem (by have := HL1.out; omega)⟩
                  obtain ⟨⟨⟨k2, m3, m4, m5, ts2⟩, sb'⟩, hx'⟩ : ∃ x, subs'[i]? = some x := ⟨_, List.getElem?_eq_getElem (by have := HL2.out; omega)⟩
                  obtain ⟨b, o, t1, d1, a1, c1, rfl, _, hr, ht, hs⟩ := (HS.out.keptN HT2.out.kept).at_ hx
                  obtain ⟨b', o', t2, d2, a2, c2, rfl, _, hr', ht', hs'⟩ := (HS'.out.keptN HT2.out.kept).at_ hx'
                  have hc' : (St.mk ⟨k2, m3, m4, m5, ts2⟩ sb').mass ≤ 5000 := HC'.out _ (List.mem_of_getElem? hx')
                  have HX : Hid (∀ W, Kept Nil wr W → Calls Try.prog 108 #[vS ⟨k1, m0, m1, m2, ts1⟩ (.slice t1 ts1.length d1) (.slice a1 sb.length c1), vS ⟨k2, m3, m4, m5, ts2⟩ (.slice t2 ts2.length d2) (.slice a2 sb'.length c2)] W fun e w' => e = .returned (.bool ((St.mk ⟨k1, m0, m1, m2, ts1⟩ sb).same (.mk ⟨k2, m3, m4, m5, ts2⟩ sb'))) ∧ Kept Nil W w') := Lib.hid fun W kW =>
                    IH.out _ _ (List.mem_of_getElem? hx) _ sb' ok ok' t1 d1 a1 c1 t2 d2 a2 c2 W hc' (ht.keptN kW) (hs.keptN kW) (ht'.keptN kW) (hs'.keptN kW)
                  have HN := Lib.hid (sameSL_drop hx hx')
                  have HR : Hid (wr.rangeAt b (o + i * 6) (cS ⟨k1, m0, m1, m2, ts1⟩ (.slice t1 ts1.length d1) (.slice a1 sb.length c1))) := Lib.hid hr
                  have HR' : Hid (wr.rangeAt b' (o' + i * 6) (cS ⟨k2, m3, m4, m5, ts2⟩ (.slice t2 ts2.length d2) (.slice a2 sb'.length c2))) := Lib.hid hr'
                  generalize (St.mk ⟨k1, m0, m1, m2, ts1⟩ sb).same (.mk ⟨k2, m3, m4, m5, ts2⟩ sb') = q at HX HN
                  generalize ts1.length = e1 at HR HX
                  generalize ts2.length = e2 at HR' HX
                  generalize sb.length = f1 at HR HX
                  generalize sb'.length = f2 at HR' HX
                  have SQ := Lib.hid (seenP_of (w0 := w) (va := .slice (some ⟨b, o, none⟩) l1 cap) (vb := .slice (some ⟨b', o', none⟩) l1 cap') (HT2.out.b0.drew.cell 5) (HT2.out.b1.drew.cell 5) (rangeAt_kept ((Kept.refl Nil wr).drew) id HR.out) (rangeAt_kept ((Kept.refl Nil wr).drew) id HR'.out) HT2.out.kept.drew)
                  clear hx hx' hs hs' ht ht' hr hr' hc' HR HR'
                  have hj0 : (0 : Int) ≤ (i : Int) := by omega
                  have hjl : (i : Int) < (l1 : Int) := by omega
                  cases q
                  · go_wp2_with fail
                    go_region_held3 (SeenP w w.heap.size (w.heap.size + 1) (.slice (some ⟨b, o, none⟩) l1 cap) (.slice (some ⟨b', o', none⟩) l1 cap') b (o + i * 6) (.int .i64 k1) (.int .i64 m0) (.int .i64 m1) (.int .i64 m2) (.slice t1 e1 d1) (.slice a1 f1 c1) b' (o' + i * 6) (.int .i64 k2) (.int .i64 m3) (.int .i64 m4) (.int .i64 m5) (.slice t2 e2 d2) (.slice a2 f2 c2))
                      (first | (with_reducible assumption) | (with_reducible exact SQ.out) | (with_reducible exact seenP_kept k9 (by with_reducible assumption)))
                      (first
                        | (go_at_call 108; refine (HX.out _ ((Kept.refl Nil wr).drew)).mono ?_; rintro e w9 ⟨rfl, k9⟩))
                    have T9 := Lib.hid (HT2.out.step (((Kept.refl Nil wr).drew).trans k9 (fun _ _ g => g)))
                    clear k9
                    go_wp2_with fail
                    go_ret
                    exact ⟨ret_bool (by rw [HV2.out, HCh.out, HN.out]; rfl), T9.out.kept⟩
                  · go_wp2_with fail
                    go_region_held3 (SeenP w w.heap.size (w.heap.size + 1) (.slice (some ⟨b, o, none⟩) l1 cap) (.slice (some ⟨b', o', none⟩) l1 cap') b (o + i * 6) (.int .i64 k1) (.int .i64 m0) (.int .i64 m1) (.int .i64 m2) (.slice t1 e1 d1) (.slice a1 f1 c1) b' (o' + i * 6) (.int .i64 k2) (.int .i64 m3) (.int .i64 m4) (.int .i64 m5) (.slice t2 e2 d2) (.slice a2 f2 c2))
                      (first | (with_reducible assumption) | (with_reducible exact SQ.out) | (with_reducible exact seenP_kept k9 (by with_reducible assumption)))
                      (first
                        | (go_at_call 108; refine (HX.out _ ((Kept.refl Nil wr).drew)).mono ?_; rintro e w9 ⟨rfl, k9⟩))
                    have T9 := Lib.hid (HT2.out.step (((Kept.refl Nil wr).drew).trans k9 (fun _ _ g => g)))
                    clear k9
                    go_wp2_with fail
                    go_roundw
                    case rel => exact ⟨i + 1, by omega, by go_num, by rw [HCh.out, HN.out]; rfl, T9.out⟩
                    case measure => simp [intOf]; omega
                · obtain rfl : l1 = i := by omega
                  have HE : Hid (sameSL (subs.drop l1) (subs'.drop l1) = true) := Lib.hid (by rw [List.drop_eq_nil_of_le (by have := HL1.out; omega), List.drop_eq_nil_of_le (by have := HL2.out; omega)]; rfl)
                  go_wp2_with fail
                  go_ret
                  exact ⟨ret_bool (by rw [HV2.out, HCh.out, HE.out]), HT2.out.kept⟩
        · have HV2 : Hid (v = false) := Lib.hid (by rw [HV1.out, sameSL_ne (by have := HL1.out; have := HL2.out; omega)]; simp)
          have hl' : ((l1 : Int) != (l2 : Int)) = true := by simp; omega
          clear HV1
          go_enter Try.func108, Try.ntmps108
          go_wp2_with fail
          go_ret
          exact ⟨ret_bool HV2.out.symm, T0.out.kept⟩
      · have HV2 : Hid (v = false) := Lib.hid (by rw [HV1.out, eqTs_ne (by have := HN1.out; have := HN2.out; omega)]; simp)
        have hn' : ((n1 : Int) != (n2 : Int)) = true := by simp; omega
        clear HV1
        go_enter Try.func108, Try.ntmps108
        go_wp2_with fail
        go_ret
        exact ⟨ret_bool HV2.out.symm, T0.out.kept⟩
  · have HV2 : Hid (v = false) := Lib.hid (by rw [HV.out]; simp [hk])
    have hk' : (k != k') = true := by simpa using hk
    clear HV
    go_enter Try.func108, Try.ntmps108
    go_wp2_with fail
    go_ret
    exact ⟨by rw [HV2.out]; rfl, T0.out.kept⟩
theorem refSameS_any : ∀ s : St, s.mass ≤ 5000 → ∀ t : St, t.mass ≤ 5000 → ∀ ok ok' ta tc a cap ta' tc' a' cap' w, TsAt w ok (.slice ta s.hd.ts.length tc) s.hd.ts → SHolds w ok (.slice a s.subs.length cap) s.subs → TsAt w ok' (.slice ta' t.hd.ts.length tc') t.hd.ts → SHolds w ok' (.slice a' t.subs.length cap') t.subs →
    Calls Try.prog 108 #[vS s.hd (.slice ta s.hd.ts.length tc) (.slice a s.subs.length cap), vS t.hd (.slice ta' t.hd.ts.length tc') (.slice a' t.subs.length cap')] w fun e w' => e = .returned (.bool (s.same t)) ∧ Kept Nil w w' := by
  refine St.ind fun hd subs ih hc t ht ok ok' ta tc a cap ta' tc' a' cap' w h1 h2 h3 h4 => ?_
  obtain ⟨hd', subs'⟩ := t
  have hc' : 1 + hd.ts.length + massL subs ≤ 5000 := by simpa [St.mass] using hc
  have ht' : 1 + hd'.ts.length + massL subs' ≤ 5000 := by simpa [St.mass] using ht
  have hl := length_massL subs
  have hl' := length_massL subs'
  exact refSameS_step hd.k hd.k0 hd.k1 hd.k2 hd.ts subs (by omega) (by omega) (Lib.hid fun hd1 sb hx hd2 sb' ok1 ok2 t1 d1 a1 c1 t2 d2 a2 c2 W hcs g1 g2 g3 g4 => ih _ hx (by have := mass_mem hx; omega) (.mk hd2 sb') hcs ok1 ok2 t1 d1 a1 c1 t2 d2 a2 c2 W g1 g2 g3 g4)
    ok ok' ta tc a cap w h1 h2 hd'.k hd'.k0 hd'.k1 hd'.k2 hd'.ts subs' (by omega) (by omega) (fun y hy => by have := mass_mem hy; omega) ta' tc' a' cap' h3 h4
end
section
open Go.RowKit
set_option maxRecDepth 100000

abbrev SeenA (w0 : World) (b p : Nat) (c0 c1 c2 c3 c4 c5 : Value) (b' p' : Nat) (d0 d1 d2 d3 d4 d5 : Value) (w' : World) : Prop :=
  w'.cell? ⟨b, p, none⟩ = some c0 ∧ w'.cell? ⟨b, p + 1, none⟩ = some c1 ∧ w'.cell? ⟨b, p + 2, none⟩ = some c2 ∧ w'.cell? ⟨b, p + 3, none⟩ = some c3 ∧ w'.cell? ⟨b, p + 4, none⟩ = some c4 ∧ w'.cell? ⟨b, p + 5, none⟩ = some c5 ∧
  w'.cell? ⟨b', p', none⟩ = some d0 ∧ w'.cell? ⟨b', p' + 1, none⟩ = some d1 ∧ w'.cell? ⟨b', p' + 2, none⟩ = some d2 ∧ w'.cell? ⟨b', p' + 3, none⟩ = some d3 ∧ w'.cell? ⟨b', p' + 4, none⟩ = some d4 ∧ w'.cell? ⟨b', p' + 5, none⟩ = some d5 ∧ Kept Nil w0 w'
section
variable {w0 w w' : World} {b p : Nat} {c0 c1 c2 c3 c4 c5 : Value} {b' p' : Nat} {d0 d1 d2 d3 d4 d5 : Value}
theorem seenA_of (r : w.rangeAt b p [c0, c1, c2, c3, c4, c5]) (r' : w.rangeAt b' p' [d0, d1, d2, d3, d4, d5]) (k : Kept Nil w0 w) : SeenA w0 b p c0 c1 c2 c3 c4 c5 b' p' d0 d1 d2 d3 d4 d5 w :=
  ⟨r 0 _ rfl, r 1 _ rfl, r 2 _ rfl, r 3 _ rfl, r 4 _ rfl, r 5 _ rfl, r' 0 _ rfl, r' 1 _ rfl, r' 2 _ rfl, r' 3 _ rfl, r' 4 _ rfl, r' 5 _ rfl, k⟩
theorem seenA_kept (k : Kept Nil w w') (h : SeenA w0 b p c0 c1 c2 c3 c4 c5 b' p' d0 d1 d2 d3 d4 d5 w) : SeenA w0 b p c0 c1 c2 c3 c4 c5 b' p' d0 d1 d2 d3 d4 d5 w' := by
  obtain ⟨h2, h3, h4, h5, h6, h7, g0, g1, g2, g3, g4, g5, kk⟩ := h
  exact ⟨k.cellOf h2, k.cellOf h3, k.cellOf h4, k.cellOf h5, k.cellOf h6, k.cellOf h7, k.cellOf g0, k.cellOf g1, k.cellOf g2, k.cellOf g3, k.cellOf g4, k.cellOf g5, kk.trans k (fun _ _ g => g)⟩
end
set_option maxHeartbeats 4000000 in
theorem all_any (l l' : List St) (hc : massL l ≤ 5000) (hc' : massL l' ≤ 5000) (ok ok' : Nat → Nat → Prop) (a a' : Option Addr) (cap cap' : Nat) (w : World) (h : SHolds w ok (.slice a l.length cap) l) (h' : SHolds w ok' (.slice a' l'.length cap') l') :
    Calls Try.prog 70 #[.slice a l.length cap, .slice a' l'.length cap'] w fun e w' => e = .returned (.bool (sameSL l l')) ∧ Kept Nil w w' := by
  obtain ⟨len, hlen⟩ : ∃ n, l.length = n := ⟨_, rfl⟩
  obtain ⟨len', hlen'⟩ : ∃ n, l'.length = n := ⟨_, rfl⟩
  have HH := Lib.hid h
  have HH' := Lib.hid h'
  have HC := Lib.hid hc
  have HC' := Lib.hid hc'
  rw [hlen] at HH ⊢
  rw [hlen'] at HH' ⊢
  have HL := Lib.hid hlen
  have HL' := Lib.hid hlen'
  have hLen : len ≤ 5000 := by have := length_massL l; omega
  clear h h' hc hc' hlen hlen'
  by_cases hl : len = len'
  · subst hl
    go_enter Try.func70, Try.ntmps70
    go_wp2_with fail
    go_loopw [5, 13] (fun _ i wr => ∃ j : Nat, j ≤ len ∧ i = .int .i64 j ∧ sameSL l l' = sameSL (l.drop j) (l'.drop j) ∧ Kept Nil w wr) (fun _ i _ => len - (intOf i).toNat)
    case atStart => exact ⟨0, by omega, rfl, rfl, Kept.refl _ _⟩
    case round =>
      obtain ⟨i, hi, rfl, hch, hK⟩ := hrel
      have HK := Lib.hid hK
      have HCh := Lib.hid hch
      clear hK hch
      by_cases hlt : i < len
      · obtain ⟨⟨⟨k1, m0, m1, m2, ts1⟩, sb⟩, hx⟩ : ∃ x, l[i]? = some x := ⟨_, List.getElem?_eq_getElem (by have := HL.out; omega)⟩
        obtain ⟨⟨⟨k2, m3, m4, m5, ts2⟩, sb'⟩, hx'⟩ : ∃ x, l'[i]? = some x := ⟨_, List.getElem?_eq_getElem (by have := HL'.out; omega)⟩
        obtain ⟨b, o, t1, d1, a1, c1, rfl, _, hr, ht, hs⟩ := (HH.out.keptN HK.out).at_ hx
        obtain ⟨b', o', t2, d2, a2, c2, rfl, _, hr', ht', hs'⟩ := (HH'.out.keptN HK.out).at_ hx'
        have hcx : (St.mk ⟨k1, m0, m1, m2, ts1⟩ sb).mass ≤ 5000 := Nat.le_trans (mass_mem (List.mem_of_getElem? hx)) HC.out
        have hcx' : (St.mk ⟨k2, m3, m4, m5, ts2⟩ sb').mass ≤ 5000 := Nat.le_trans (mass_mem (List.mem_of_getElem? hx')) HC'.out
        have HX : Hid (∀ W, Kept Nil wr W → Calls Try.prog 108 #[vS ⟨k1, m0, m1, m2, ts1⟩ (.slice t1 ts1.length d1) (.slice a1 sb.length c1), vS ⟨k2, m3, m4, m5, ts2⟩ (.slice t2 ts2.length d2) (.slice a2 sb'.length c2)] W fun e w' => e = .returned (.bool ((St.mk ⟨k1, m0, m1, m2, ts1⟩ sb).same (.mk ⟨k2, m3, m4, m5, ts2⟩ sb'))) ∧ Kept Nil W w') := Lib.hid fun W kW =>
          refSameS_any (.mk ⟨k1, m0, m1, m2, ts1⟩ sb) hcx (.mk ⟨k2, m3, m4, m5, ts2⟩ sb') hcx' ok ok' t1 d1 a1 c1 t2 d2 a2 c2 W (ht.keptN kW) (hs.keptN kW) (ht'.keptN kW) (hs'.keptN kW)
        have HN := Lib.hid (sameSL_drop hx hx')
        have HR : Hid (wr.rangeAt b (o + i * 6) (cS ⟨k1, m0, m1, m2, ts1⟩ (.slice t1 ts1.length d1) (.slice a1 sb.length c1))) := Lib.hid hr
        have HR' : Hid (wr.rangeAt b' (o' + i * 6) (cS ⟨k2, m3, m4, m5, ts2⟩ (.slice t2 ts2.length d2) (.slice a2 sb'.length c2))) := Lib.hid hr'
        generalize (St.mk ⟨k1, m0, m1, m2, ts1⟩ sb).same (.mk ⟨k2, m3, m4, m5, ts2⟩ sb') = q at HX HN
        generalize ts1.length = e1 at HR HX
        generalize ts2.length = e2 at HR' HX
        generalize sb.length = f1 at HR HX
        generalize sb'.length = f2 at HR' HX
        have SQ := Lib.hid (seenA_of (w0 := w) (rangeAt_kept ((Kept.refl Nil wr).drew) id HR.out) (rangeAt_kept ((Kept.refl Nil wr).drew) id HR'.out) HK.out.drew)
        clear hx hx' hs hs' ht ht' hr hr' hcx hcx' HR HR'
        have hj0 : (0 : Int) ≤ (i : Int) := by omega
        have hjl : (i : Int) < (len : Int) := by omega
        cases q
        · go_wp2_with fail
          go_region_held3 (SeenA w b (o + i * 6) (.int .i64 k1) (.int .i64 m0) (.int .i64 m1) (.int .i64 m2) (.slice t1 e1 d1) (.slice a1 f1 c1) b' (o' + i * 6) (.int .i64 k2) (.int .i64 m3) (.int .i64 m4) (.int .i64 m5) (.slice t2 e2 d2) (.slice a2 f2 c2))
            (first | (with_reducible assumption) | (with_reducible exact SQ.out) | (with_reducible exact seenA_kept k9 (by with_reducible assumption)))
            (first
              | (go_at_call 108; refine (HX.out _ ((Kept.refl Nil wr).drew)).mono ?_; rintro e w9 ⟨rfl, k9⟩))
          have K9 := Lib.hid (HK.out.trans (((Kept.refl Nil wr).drew).trans k9 (fun _ _ g => g)) (fun _ _ g => g))
          clear k9
          go_wp2_with fail
          go_ret
          exact ⟨ret_bool (by rw [HCh.out, HN.out]; rfl), K9.out⟩
        · go_wp2_with fail
          go_region_held3 (SeenA w b (o + i * 6) (.int .i64 k1) (.int .i64 m0) (.int .i64 m1) (.int .i64 m2) (.slice t1 e1 d1) (.slice a1 f1 c1) b' (o' + i * 6) (.int .i64 k2) (.int .i64 m3) (.int .i64 m4) (.int .i64 m5) (.slice t2 e2 d2) (.slice a2 f2 c2))
            (first | (with_reducible assumption) | (with_reducible exact SQ.out) | (with_reducible exact seenA_kept k9 (by with_reducible assumption)))
            (first
              | (go_at_call 108; refine (HX.out _ ((Kept.refl Nil wr).drew)).mono ?_; rintro e w9 ⟨rfl, k9⟩))
          have K9 := Lib.hid (HK.out.trans (((Kept.refl Nil wr).drew).trans k9 (fun _ _ g => g)) (fun _ _ g => g))
          clear k9
          go_wp2_with fail
          go_roundw
          case rel => exact ⟨i + 1, by omega, by go_num, by rw [HCh.out, HN.out]; rfl, K9.out⟩
          case measure => simp [intOf]; omega
      · obtain rfl : len = i := by omega
        have HE : Hid (sameSL (l.drop len) (l'.drop len) = true) := Lib.hid (by rw [List.drop_eq_nil_of_le (by have := HL.out; omega), List.drop_eq_nil_of_le (by have := HL'.out; omega)]; rfl)
        go_wp2_with fail
        go_ret
        exact ⟨ret_bool (by rw [HCh.out, HE.out]), HK.out⟩
  · have HV2 : Hid (sameSL l l' = false) := Lib.hid (sameSL_ne (by have := HL.out; have := HL'.out; omega))
    have hl' : ((len : Int) != (len' : Int)) = true := by simp; omega
    go_enter Try.func70, Try.ntmps70
    go_wp2_with fail
    go_ret
    exact ⟨by rw [HV2.out]; rfl, Kept.refl _ _⟩
theorem sameSL_refl (l : List St) : sameSL l l = true := sameS_refl.2 l
end
end
section
open Go.RowKit Go.Maps Go.WideMaps
set_option maxRecDepth 100000

/-- Each once, in order. -/
def disL (L : List (List St)) : List (List St) := L.foldl (fun out c => if c ∈ out then out else out ++ [c]) []
theorem disL_snoc (L : List (List St)) (c : List St) : disL (L ++ [c]) = if c ∈ disL L then disL L else disL L ++ [c] := by unfold disL; rw [List.foldl_append]; rfl
theorem disL_spec : ∀ (n : Nat) (L : List (List St)), L.length = n → (disL L).Nodup ∧ (∀ x, x ∈ disL L ↔ x ∈ L) ∧ (disL L).length ≤ L.length
  | 0, L, h => by
    obtain rfl := List.length_eq_zero_iff.1 h
    exact ⟨List.nodup_nil, fun x => Iff.rfl, Nat.le_refl _⟩
  | n + 1, L, h => by
    have hne : L ≠ [] := fun e => by subst e; cases h
    obtain ⟨h1, h2, h3⟩ := disL_spec n L.dropLast (by rw [List.length_dropLast]; omega)
    rw [← List.dropLast_concat_getLast hne, disL_snoc]
    split
    · rename_i hm
      refine ⟨h1, fun x => ?_, Nat.le_trans h3 (by simp)⟩
      rw [h2, List.mem_append, List.mem_singleton]
      constructor
      · exact .inl
      · rintro (g | rfl)
        · exact g
        · exact (h2 _).1 hm
    · rename_i hm
      refine ⟨List.nodup_append.2 ⟨h1, by simp, fun a ha b hb => ?_⟩, fun x => ?_, by rw [List.length_append, List.length_append]; simp only [List.length_singleton]; omega⟩
      · rw [List.mem_singleton.1 hb]
        rintro rfl
        exact hm ha
      · rw [List.mem_append, h2, List.mem_append]
/-- A slice's value, as a row's cell. -/
abbrev SlV := Option Addr × Nat × Nat
def cV (v : SlV) : List Value := [.slice v.1 v.2.1 v.2.2]
theorem cV_len (v : SlV) : (cV v).length = 1 := rfl
theorem cV_one (v : SlV) : ∀ u ∈ cV v, u.oneCell' = true := fun u hu => by rw [List.mem_singleton.1 hu]; rfl
/-- Values that are slices of these chains. -/
def Sls (w : World) (ok : Nat → Nat → Prop) (vals : List SlV) (L : List (List St)) : Prop := vals.length = L.length ∧ ∀ (i : Nat) x, L[i]? = some x → ∃ b cp, vals[i]? = some (b, x.length, cp) ∧ SHolds w ok (.slice b x.length cp) x
theorem Sls.keptN {w w' : World} {ok : Nat → Nat → Prop} {vals : List SlV} {L : List (List St)} (h : Sls w ok vals L) (k : Kept Nil w w') : Sls w' ok vals L := ⟨h.1, fun i x hi => by
  obtain ⟨b, cp, h1, h2⟩ := h.2 i x hi
  exact ⟨b, cp, h1, h2.keptN k⟩⟩
theorem Sls.keptF {w w' : World} {ok : Nat → Nat → Prop} {vals : List SlV} {L : List (List St)} {F : Nat → Prop} (h : Sls w ok vals L) (k : Kept F w w') (hF : ∀ b o, ok b o → ¬ F b) : Sls w' ok vals L := ⟨h.1, fun i x hi => by
  obtain ⟨b, cp, h1, h2⟩ := h.2 i x hi
  exact ⟨b, cp, h1, h2.kept k hF⟩⟩
theorem Sls.snoc {w : World} {ok : Nat → Nat → Prop} {vals : List SlV} {L : List (List St)} (h : Sls w ok vals L) {x : List St} {b : Option Addr} {cp : Nat} (hx : SHolds w ok (.slice b x.length cp) x) : Sls w ok (vals ++ [(b, x.length, cp)]) (L ++ [x]) := by
  refine ⟨by simp [h.1], fun i y hi => ?_⟩
  by_cases hl : i < L.length
  · rw [List.getElem?_append_left hl] at hi
    obtain ⟨b2, cp2, h1, h2⟩ := h.2 i y hi
    exact ⟨b2, cp2, by rw [List.getElem?_append_left (by rw [h.1]; exact hl)]; exact h1, h2⟩
  · have hi2 : i = L.length := by
      have := (List.getElem?_eq_some_iff.1 hi).1
      simp at this; omega
    subst hi2
    rw [List.getElem?_concat_length] at hi
    cases hi
    exact ⟨b, cp, by rw [← h.1, List.getElem?_concat_length], hx⟩
theorem not_step (b : Bool) (x : Bool) : (if b = true then true else x) = (b || x) := by cases b <;> rfl
set_option maxHeartbeats 8000000 in
theorem distinct_any (L : List (List St)) (hm : ∀ x ∈ L, massL x ≤ 5000) (hL : L.length ≤ 4000) (ok : Nat → Nat → Prop) (vals : List SlV) {w : World} {a : Option Addr} {n cap : Nat} (hr : In cV 1 w a n vals) (hs : Sls w ok vals L) (hok : ∀ b o, ok b o → b < w.heap.size) :
    Calls Try.prog 22 #[.slice a n cap] w fun e w' => ∃ a2 c2, e = .returned (.slice a2 (disL L).length c2) ∧ Kept Nil w w' := by
  have HR := Lib.hid hr
  have HS := Lib.hid hs
  have hn : n = L.length := by rw [← hr.1, hs.1]
  have HN := Lib.hid hn
  have HOK := Lib.hid hok
  have hnb : n ≤ 4000 := by omega
  clear hr hs hn hok
  go_enter Try.func22, Try.ntmps22
  go_wp2_with fail
  go_loopw [3, 5, 6, 8, 11, 17] (fun u _ _ _ i _ wr => ∃ (j : Nat) (a2 : Option Addr) (c2 : Nat) (vs : List SlV), j ≤ n ∧ i = .int .i64 j ∧ u = .slice a2 (disL (L.take j)).length c2 ∧ Row cV 32 1 wr w.heap.size u vs ∧ Sls wr ok vs (disL (L.take j)) ∧ Kept Nil w wr) (fun _ _ _ _ i _ _ => n - (intOf i).toNat)
  case atStart => exact ⟨0, none, 0, [], by omega, rfl, rfl, Row.nil _ _, ⟨rfl, fun i x hi => by cases hi⟩, Kept.refl _ _⟩
  case round =>
    obtain ⟨j, a2, c2, vs, hj, rfl, rfl, hrow, hsl, hK⟩ := hrel
    have HROW := Lib.hid hrow
    have HSL := Lib.hid hsl
    have HK := Lib.hid hK
    by_cases hlt : j < n
    · obtain ⟨x, hx⟩ : ∃ x, L[j]? = some x := ⟨_, List.getElem?_eq_getElem (by have := HN.out; omega)⟩
      obtain ⟨bx, cx, hvx, hhx⟩ := HS.out.2 j x hx
      obtain ⟨b0, o0, rfl, hb0, hc0⟩ := (HR.out.kept hK).at_ hvx
      have q0 := hc0 0 _ rfl
      rw [Nat.mul_one, Nat.add_zero] at q0
      have HHX := Lib.hid (hhx.keptN hK)
      have hmx := hm x (List.mem_of_getElem? hx)
      have htk : L.take (j + 1) = L.take j ++ [x] := by rw [List.take_add_one, hx]; rfl
      have HTK := Lib.hid htk
      have HDL := Lib.hid (show (disL (L.take j)).length ≤ 4000 from Nat.le_trans (disL_spec _ _ rfl).2.2 (by rw [List.length_take]; omega))
      obtain ⟨m, hmD⟩ : ∃ m, (disL (L.take j)).length = m := ⟨_, rfl⟩
      have HM := Lib.hid hmD
      rw [hmD]
      have HROWm := Lib.hid (show Row cV 32 1 wr w.heap.size (.slice a2 m c2) vs from hmD ▸ hrow)
      have CA : Hid (∀ W, Kept Nil wr W → ∀ (i : Nat) y b cp, (disL (L.take j))[i]? = some y → vs[i]? = some (b, y.length, cp) → Calls Try.prog 70 #[.slice b y.length cp, .slice bx x.length cx] W fun e w' => e = .returned (.bool (decide (y = x))) ∧ Kept Nil W w') := Lib.hid fun W kW i y b cp hy hv => by
        obtain ⟨b', cp', hv', hh⟩ := HSL.out.2 i y hy
        rw [hv] at hv'
        cases hv'
        have := all_any y x (hm y (List.mem_of_mem_take ((disL_spec _ _ rfl).2.1 y |>.1 (List.mem_of_getElem? hy)))) hmx ok ok b bx cp cx W (hh.keptN kW) (HHX.out.keptN kW)
        rw [sameSL_decide] at this
        exact this
      have hdl := HDL.out
      rw [hmD] at hdl
      generalize hxl : x.length = xl at *
      clear hrow hsl hK hc0 hhx hmx htk hmD
      have hjj : (j : Int) < (n : Int) := by omega
      go_wp2_with fail
      rename World => wo
      go_loopw [6, 8, 17] (fun h _ i wt => ∃ k : Nat, k ≤ m ∧ i = .int .i64 k ∧ h = .bool (decide (x ∈ (disL (L.take j)).take k)) ∧ Kept Nil wo wt) (fun _ _ i _ => m - (intOf i).toNat)
      case atStart => exact ⟨0, Nat.zero_le _, rfl, by simp, Kept.refl _ _⟩
      case round =>
        obtain ⟨k, hk, rfl, rfl, hK2⟩ := hrel
        have HK2 := Lib.hid hK2
        by_cases hkm : k < m
        · obtain ⟨y, hy⟩ : ∃ y, (disL (L.take j))[k]? = some y := ⟨_, List.getElem?_eq_getElem (by have := HM.out; omega)⟩
          obtain ⟨b, cp, hvy, hhy⟩ := HSL.out.2 k y hy
          obtain ⟨b9, rfl, hb9, _, hc9⟩ := (HROWm.out.keptN hK2).get cV_len (by decide) hvy
          have q9 := hc9 0 _ rfl
          rw [Nat.mul_one, Nat.add_zero] at q9
          have hkk : (k : Int) < (m : Int) := by omega
          have htk : (disL (L.take j)).take (k + 1) = (disL (L.take j)).take k ++ [y] := by rw [List.take_add_one, hy]; rfl
          have CY := Lib.hid (fun W (kW : Kept Nil wo W) => CA.out W kW k y b cp hy hvy)
          have HTY := Lib.hid htk
          generalize hyl : y.length = yl at *
          clear hK2 hhy hc9 hvy htk hy q0
          by_cases hin : x ∈ (disL (L.take j)).take k
          · have e1 : decide (x ∈ (disL (L.take j)).take k) = true := decide_eq_true hin
            have HD := Lib.hid (show decide (x ∈ (disL (L.take j)).take (k + 1)) = true from decide_eq_true (by rw [HTY.out]; exact List.mem_append_left _ hin))
            rw [e1]
            clear hin e1
            go_wp2_with fail
            go_roundw
            case rel => exact ⟨k + 1, hkm, by go_num, by rw [HD.out], HK2.out⟩
            case measure => simp [intOf]; omega
          · have e1 : decide (x ∈ (disL (L.take j)).take k) = false := decide_eq_false hin
            have HD := Lib.hid (show decide (x ∈ (disL (L.take j)).take (k + 1)) = decide (y = x) from by
              rw [HTY.out]
              simp [hin, eq_comm])
            rw [e1]
            clear hin e1
            go_wp2_with fail
            refine (CY.out _ HK2.out).mono ?_
            rintro e w8 ⟨rfl, k8⟩
            have K8 := Lib.hid (HK2.out.trans k8 (fun _ _ e => e))
            clear k8
            go_wp2_with fail
            go_roundw
            case rel => exact ⟨k + 1, hkm, by go_num, by rw [HD.out], K8.out⟩
            case measure => simp [intOf]; omega
        · obtain rfl : k = m := by omega
          have et : (disL (L.take j)).take k = disL (L.take j) := List.take_of_length_le (by rw [HM.out]; exact Nat.le_refl _)
          rw [et]
          have HK3 := Lib.hid (HK.out.trans HK2.out (fun _ _ e => e))
          clear hK2 q0
          by_cases hin : x ∈ disL (L.take j)
          · have e1 : decide (x ∈ disL (L.take j)) = true := decide_eq_true hin
            have HD := Lib.hid (show disL (L.take (j + 1)) = disL (L.take j) from by rw [HTK.out, disL_snoc, if_pos hin])
            rw [e1]
            clear hin e1 et
            go_wp2_with fail
            go_roundw
            case rel => exact ⟨j + 1, _, _, vs, hlt, by go_num, by rw [HD.out, HM.out], HROWm.out.keptN HK2.out, by rw [HD.out]; exact HSL.out.keptN HK2.out, HK3.out⟩
            case measure => simp [intOf]; omega
          · have e1 : decide (x ∈ disL (L.take j)) = false := decide_eq_false hin
            have HD := Lib.hid (show disL (L.take (j + 1)) = disL (L.take j) ++ [x] from by rw [HTK.out, disL_snoc, if_neg hin])
            have HSX := Lib.hid (show SHolds wr ok (.slice bx x.length cx) x from hxl ▸ HHX.out.keptN HK2.out)
            obtain ⟨a9, c9, W4, hrun, hR9, k9, ho9⟩ := (HROWm.out.keptN HK2.out).push2 elsLQ cV_len cV_one 47 HK3.out.size (by have := HSL.out.1; have := HM.out; omega) (bx, xl, cx) #[.slice bx xl cx] rfl
            have hown : ∀ b, (Value.slice a2 k c2).ownBlock = some b → w.heap.size ≤ b := fun b e => by
              rcases (HROWm.out.keptN HK2.out).2 with ⟨e1, _⟩ | ⟨g, c, cur, e1, hB, _⟩
              · rw [e1] at e; cases e
              · rw [e1] at e
                have : b = g := by simpa [Value.ownBlock] using e.symm
                subst this
                exact hB
            have HK4 := Lib.hid (show Kept Nil w W4 from HK3.out.trans k9 (fun i hi e => by have := hown i e; omega))
            have HS4 := Lib.hid ((HSL.out.keptN HK2.out).keptF k9 (fun b o hb e => by have := hown b e; have := HOK.out b o hb; omega) |>.snoc (HSX.out.kept k9 (fun b o hb e => by have := hown b e; have := HOK.out b o hb; omega)))
            have HR4 := Lib.hid hR9
            rw [e1]
            clear hin e1 et hR9 k9 ho9 hown
            go_wp2_with (refine wpList_append_run rfl (.tmp 30) (.tmp 32) 47 rfl _ _ rfl rfl hrun ?_)
            go_roundw
            case rel => exact ⟨j + 1, _, _, _, hlt, by go_num, by rw [HD.out, List.length_append, HM.out]; rfl, HR4.out, by rw [HD.out, ← hxl]; exact HS4.out, HK4.out⟩
            case measure => simp [intOf]; omega
    · obtain rfl : j = n := by omega
      have e : L.take j = L := List.take_of_length_le (by have := HN.out; omega)
      rw [e]
      clear hrow hsl hK
      go_wp2_with fail
      go_ret
      exact ⟨_, _, rfl, HK.out⟩
end
section
open Go.RowKit Go.Maps Go.WideMaps
set_option maxRecDepth 100000

theorem blk_lt {w : World} {a : Addr} {v : Value} (h : w.cell? a = some v) : a.block < w.heap.size := by
  by_cases hl : a.block < w.heap.size
  · exact hl
  · exfalso
    unfold World.cell? at h
    rw [Array.getElem?_eq_none (by omega)] at h
    simp at h
theorem pick_all {α β : Type} {R : Nat → α → β → Prop} : ∀ (L : List α), (∀ (i : Nat) x, L[i]? = some x → ∃ y, R i x y) → ∃ ys : List β, ys.length = L.length ∧ ∀ (i : Nat) x, L[i]? = some x → ∃ y, ys[i]? = some y ∧ R i x y := by
  intro L h
  have hf : ∀ i : Fin L.length, ∃ y, R i L[i] y := fun i => h i _ (List.getElem?_eq_getElem i.2)
  refine ⟨List.ofFn (fun i => (hf i).choose), by simp, fun i x hi => ?_⟩
  obtain ⟨hl, rfl⟩ := List.getElem?_eq_some_iff.1 hi
  exact ⟨_, by rw [List.getElem?_ofFn, dif_pos hl], (hf ⟨i, hl⟩).choose_spec⟩
theorem ListsS.toIn {w : World} {ok : Nat → Nat → Prop} {v : Value} {L : List (List St)} (h : ListsS w ok v L) : ∃ a cap vals, v = .slice a L.length cap ∧ In cV 1 w a L.length vals ∧ Sls w ok vals L := by
  obtain ⟨a, cap, e, _, hx⟩ := h
  obtain ⟨vals, h1, h2⟩ := pick_all (R := fun i (x : List St) (q : SlV) => q.2.1 = x.length ∧ SHolds w ok (.slice q.1 x.length q.2.2) x ∧ ∃ g, a = some ⟨g, 0, none⟩ ∧ w.cell? ⟨g, i, none⟩ = some (.slice q.1 x.length q.2.2)) L (fun i x hi => by
    obtain ⟨g, b, c, e1, e2, e3⟩ := hx i x hi
    exact ⟨(b, x.length, c), rfl, e3, g, e1, e2⟩)
  refine ⟨a, cap, vals, e, ⟨h1, ?_⟩, h1, fun i x hi => ?_⟩
  · by_cases h0 : L.length = 0
    · exact .inl h0
    · right
      obtain ⟨x0, hx0⟩ : ∃ x, L[0]? = some x := ⟨_, List.getElem?_eq_getElem (by omega)⟩
      obtain ⟨q0, _, _, _, g, rfl, hg⟩ := h2 0 x0 hx0
      refine ⟨g, 0, rfl, blk_lt hg, fun j q i v hj hi => ?_⟩
      have hjl : j < L.length := by rw [← h1]; exact (List.getElem?_eq_some_iff.1 hj).1
      obtain ⟨q', hq', e1, _, g', eg, hg'⟩ := h2 j _ (List.getElem?_eq_getElem hjl)
      rw [hj] at hq'
      cases hq'
      cases eg
      have hi0 : i = 0 := by
        have := (List.getElem?_eq_some_iff.1 hi).1
        simp [cV] at this; exact this
      subst hi0
      have hv : v = .slice q.1 q.2.1 q.2.2 := by simp [cV] at hi; exact hi.symm
      subst hv
      rw [e1, show (⟨g, 0 + j * 1 + 0, none⟩ : Addr) = ⟨g, j, none⟩ by simp]
      exact hg'
  · obtain ⟨q, hq, e1, e2, _⟩ := h2 i x hi
    obtain ⟨b, n, c⟩ := q
    dsimp only at e1 e2
    subst e1
    exact ⟨b, c, hq, e2⟩
/-- The chains of the reference's steps: whose memory they lie in. -/
theorem refChainsN (l : List St) (ok : Nat → Nat → Prop) (a : Option Addr) (cap : Nat) (w : World) (h : SHolds w ok (.slice a l.length cap) l) (hok : ∀ b o, ok b o → b < w.heap.size) (hc : cntL l ≤ 5000) :
    Calls Try.prog 18 #[.slice none 0 0, .slice a l.length cap] w fun e w' => ∃ a2 c2 vals, e = .returned (.slice a2 (chSL l []).length c2) ∧ In cV 1 w' a2 (chSL l []).length vals ∧ Sls w' (fun b o => ok b o ∨ (w.heap.size ≤ b ∧ b < w'.heap.size)) vals (chSL l []) ∧ Kept Nil w w' := by
  refine (refSCh_tree (.mk ⟨0, 0, 0, 0, []⟩ l) ok (.slice none 0 0) [] a cap w ⟨none, 0, rfl, .inl rfl⟩ KidsD.nil h hok (by simpa [St.subs] using hc)).mono ?_
  rintro e w' ⟨r, ws, rfl, h1, h2, k⟩
  have h1' : ws.map trS = chSL l [] := h1
  have hL := h2.listsS (ok' := fun b o => ok b o ∨ (w.heap.size ≤ b ∧ b < w'.heap.size)) (fun b o hb => .inl hb) (fun g hp hg => .inr ⟨hp, hg⟩)
  rw [h1'] at hL
  obtain ⟨a2, c2, vals, rfl, h3, h4⟩ := hL.toIn
  exact ⟨a2, c2, vals, rfl, h3, h4, k⟩
end
section
open Go.RowKit Go.Maps Go.WideMaps
set_option maxRecDepth 100000

section
variable {w : World} {p : Nat}
set_option maxHeartbeats 8000000 in
theorem put_new (hb : Blk w p 91 #[.map none, .map none, .int .i64 0]) :
    Calls Try.prog 51 #[.pointer (some ⟨p, 0, none⟩), .agg (aSp zSp)] w fun e w' => e = .returned (.int .i64 1) ∧ ∃ c', TE w' c' p [] (fun _ => 0) (fun _ => 0) ∧ Kept (fun b => b = p) w w' ∧ ∀ b, c' b ≠ 0 → b = p ∨ w.heap.size ≤ b := by
  have hp := hb.lt
  have kA : Kept Nil w (w.alloc (.cells (aSp zSp) 95)) := (Kept.refl _ _).alloc _
  have hbA := hb.kept kA (fun e => e)
  have hb3 : Blk (w.alloc (.cells (aSp zSp) 95)) w.heap.size 95 (aSp zSp) := Blk.new _ _ _
  have hz0 : (w.alloc (.cells (aSp zSp) 95)).heap.size = w.heap.size + 1 := by simp
  have HKA := Lib.hid kA
  have hnil := fun W : World => run_eql_map_nil (P := Try.prog) W _ _ _ none Try.underlying88
  have hmm := @run_makeMap Try.prog
  have hp3 : p ≠ w.heap.size := by omega
  clear kA hb
  go_enter Try.func51, Try.ntmps51
  go_upto_region 1 with fail
  generalize w.alloc (.cells (aSp zSp) 95) = W0 at *
  generalize hq3 : w.heap.size = b3 at *
  have HQ3 := Lib.hid hq3
  have c0 := hbA.cell 0
  have c1 := hbA.cell 1
  have c2 := hbA.cell 2
  have f0 := hbA.frozen 0
  have f1 := hbA.frozen 1
  have f2 := hbA.frozen 2
  have hp0 := hbA.lt
  simp at c0 c1 c2
  have b2 := (hbA.alloc (.map #[] 0)).alloc (.map #[] 0)
  have c10 := b2.cell 0
  have c11 := b2.cell 1
  have c12 := b2.cell 2
  have f10 := b2.frozen 0
  have f11 := b2.frozen 1
  have f12 := b2.frozen 2
  simp only [List.getElem?_toArray, List.getElem?_cons_zero, List.getElem?_cons_succ] at c10 c11 c12
  have hb2 := Lib.hid b2
  clear hq3
  clear b2
  go_wp2_with fail
  have hz1 : (W0.alloc (.map #[] 0)).heap.size = b3 + 1 + 1 := by simp [hz0]
  have hz2 : ((W0.alloc (.map #[] 0)).alloc (.map #[] 0)).heap.size = b3 + 1 + 1 + 1 := by simp [hz1]
  have hz3 : (((((W0.alloc (.map #[] 0)).alloc (.map #[] 0)).setCell ⟨p, 0, none⟩ (.map (some (b3 + 1)))).setCell ⟨p, 1, none⟩ (.map (some (b3 + 1 + 1)))).setCell ⟨p, 2, none⟩ (.int .i64 1)).heap.size = b3 + 1 + 1 + 1 := by simp [World.setCell, hz2]
  have hm1 : MapM KNt VN ((W0.alloc (.map #[] 0))) (b3 + 1) 0 (fun _ => none) := by have := MapM.new (K := KNt) (V := VN) W0; rwa [hz0] at this
  have hm2 : MapM KSp VI (((W0.alloc (.map #[] 0)).alloc (.map #[] 0))) (b3 + 1 + 1) 0 (fun _ => none) := by have := MapM.new (K := KSp) (V := VI) (W0.alloc (.map #[] 0)); rwa [hz1] at this
  have kM0 : Kept Nil (W0.alloc (.map #[] 0)) ((W0.alloc (.map #[] 0)).alloc (.map #[] 0)) := (Kept.refl _ _).alloc _
  have kM1 : Kept (fun b => b = p) ((W0.alloc (.map #[] 0)).alloc (.map #[] 0)) ((((W0.alloc (.map #[] 0)).alloc (.map #[] 0)).setCell ⟨p, 0, none⟩ (.map (some (b3 + 1)))).setCell ⟨p, 1, none⟩ (.map (some (b3 + 1 + 1)))) := Kept.setCell (Kept.setCell (F := fun b => b = p) (Kept.refl _ _) _ (.inl rfl) _) _ (.inl rfl) _
  have kM2 : Kept (fun b => b = p) W0 ((((W0.alloc (.map #[] 0)).alloc (.map #[] 0)).setCell ⟨p, 0, none⟩ (.map (some (b3 + 1)))).setCell ⟨p, 1, none⟩ (.map (some (b3 + 1 + 1)))) := (((Kept.refl _ W0).alloc _).alloc _).trans kM1 (fun _ _ e => e)
  have hB0 := hb3.kept kM2 (fun e => hp3 e.symm)
  have hm1' := (hm1.kept kM0 (fun e => e)).kept kM1 (fun e => by omega)
  have hm2' := hm2.kept kM1 (fun e => by omega)
  have hBp := (hb2.out.set_ 0 (.map (some (b3 + 1)))).set_ 1 (.map (some (b3 + 1 + 1)))
  have hzm : ((((W0.alloc (.map #[] 0)).alloc (.map #[] 0)).setCell ⟨p, 0, none⟩ (.map (some (b3 + 1)))).setCell ⟨p, 1, none⟩ (.map (some (b3 + 1 + 1)))).heap.size = b3 + 1 + 1 + 1 := by simp [World.setCell, hz2]
  clear c10 c11 c12 f10 f11 f12 c0 c1 c2 f0 f1 f2 hz1 hz2 hm1 hm2 kM0 kM1 hb2 hnil hmm
  generalize ((((W0.alloc (.map #[] 0)).alloc (.map #[] 0)).setCell ⟨p, 0, none⟩ (.map (some (b3 + 1)))).setCell ⟨p, 1, none⟩ (.map (some (b3 + 1 + 1)))) = Wm at *
  have hc3 : Hid ((fun b => if b = p then 1 else if b = b3 + 1 then 2 else if b = b3 + 1 + 1 then 3 else 0 : Nat → Nat) b3 = 0 ∧ (fun b => if b = p then 1 else if b = b3 + 1 then 2 else if b = b3 + 1 + 1 then 3 else 0 : Nat → Nat) (b3 + 1 + 1 + 1) = 0) := Lib.hid ⟨by simp only; rw [if_neg (by omega), if_neg (by omega), if_neg (by omega)], by simp only; rw [if_neg (by omega), if_neg (by omega), if_neg (by omega)]⟩
  have hA : Trx Wm (fun b => if b = p then 1 else if b = b3 + 1 then 2 else if b = b3 + 1 + 1 then 3 else 0) p (fun _ => none) (fun _ => none) 0 (b3 + 1) (b3 + 1 + 1) (fun _ => none) := by
    refine ⟨fun b hb => ?_, by simp, ?_, ?_, by simpa using hBp, hm1'.more (by omega), hm2', fun k => .inl ⟨rfl, rfl⟩, fun k hk => absurd rfl hk⟩
    · rw [hzm]
      by_cases e1 : b = p
      · omega
      · by_cases e2 : b = b3 + 1
        · omega
        · by_cases e3 : b = b3 + 1 + 1
          · omega
          · simp [e1, e2, e3] at hb
    · simp [show b3 + 1 ≠ p by omega]
    · simp [show b3 + 1 + 1 ≠ p by omega]
  have HCC := Lib.hid (fun b => by
    by_cases e1 : b = p
    · exact .inr (.inl e1)
    · by_cases e2 : b = b3 + 1
      · exact .inr (.inr (by omega))
      · by_cases e3 : b = b3 + 1 + 1
        · exact .inr (.inr (by omega))
        · exact .inl (by simp [e1, e2, e3]) : ∀ b : Nat, (fun b => if b = p then 1 else if b = b3 + 1 then 2 else if b = b3 + 1 + 1 then 3 else 0 : Nat → Nat) b = 0 ∨ b = p ∨ b3 + 1 ≤ b)
  generalize (fun b => if b = p then 1 else if b = b3 + 1 then 2 else if b = b3 + 1 + 1 then 3 else 0 : Nat → Nat) = c at *
  have k1 : Kept Nil (Wm.setCell ⟨p, 2, none⟩ (.int .i64 1)) ((Wm.setCell ⟨p, 2, none⟩ (.int .i64 1)).alloc (.cells #[.int .i64 1] 3)) := (Kept.refl _ _).alloc _
  obtain ⟨W2, r2, k2, W3, r3, k3, tg⟩ := hA.enter (by omega) zSp spOK_z (n1 := 1) (by omega) k1
  have hb5 : Blk ((Wm.setCell ⟨p, 2, none⟩ (.int .i64 1)).alloc (.cells #[.int .i64 1] 3)) (b3 + 1 + 1 + 1) 3 #[.int .i64 1] := by rw [← hz3]; exact Blk.new _ _ _
  have kS : Kept (fun b => b = p) Wm ((Wm.setCell ⟨p, 2, none⟩ (.int .i64 1)).alloc (.cells #[.int .i64 1] 3)) := (Kept.setCell (F := fun b => b = p) (Kept.refl _ _) _ (.inl rfl) _).alloc _
  have hb31 := hB0.kept kS (fun e => hp3 e.symm)
  have hblk1 := ((hA.blk.set_ 2 (.int .i64 1)).alloc (.cells #[.int .i64 1] 3))
  have HKM := Lib.hid kM2
  have hzm5 := Lib.hid hzm
  generalize ((Wm.setCell ⟨p, 2, none⟩ (.int .i64 1)).alloc (.cells #[.int .i64 1] 3)) = W1 at *
  generalize hb5e : b3 + 1 + 1 + 1 = b5 at *
  generalize hbse : b3 + 1 + 1 = bs at *
  generalize hbne : b3 + 1 = bn at *
  have hpbn : p ≠ bn := fun e => by omega
  have hpbs : p ≠ bs := fun e => by omega
  have h3n : b3 ≠ bn := fun e => by omega
  have h3s : b3 ≠ bs := fun e => by omega
  have h5n : b5 ≠ bn := fun e => by omega
  have h5s : b5 ≠ bs := fun e => by omega
  have HBS := Lib.hid (show b3 + 1 ≤ bn ∧ b3 + 1 ≤ bs by omega)
  have S1 : Hid (SPutN p b3 b5 bn bs 1 zSp W1.drew) := Lib.hid ⟨by have := hblk1.drew.cell 0; simpa using this, by have := hblk1.drew.cell 1; simpa using this, by have := hb5.drew.cell 0; simpa using this, hb31.drew⟩
  have kp2 := hblk1.kept k2 hpbn
  have S2 : Hid (SPutN p b3 b5 bn bs 1 zSp W2.drew) := Lib.hid ⟨by have := kp2.drew.cell 0; simpa using this, by have := kp2.drew.cell 1; simpa using this, by have := (hb5.kept k2 h5n).drew.cell 0; simpa using this, (hb31.kept k2 h3n).drew⟩
  have B3 := Lib.hid (hb31.kept k3 (fun e => e.elim h3n h3s))
  have B5 := Lib.hid (hb5.kept k3 (fun e => e.elim h5n h5s))
  have HTG := Lib.hid tg
  have HZ0 := Lib.hid hz0
  clear k2 k3 tg hb5 hb31 hblk1 kp2 kS hzm hb3 hpbn hpbs h3n h3s h5n h5s k1 hA hz0 hp0 hz3 hm1' hm2' hBp hB0 kM2 hbA hb5e hbse hbne
  refine wp_region_lastL (SPutN p b3 b5 bn bs 1 zSp) (by simp) (by kernel_rfl) (by kernel_rfl) ?_
  simp only [List.dropLast, List.getLast]
  refine takeH (i := 0) (some 30) (.pointer (some ⟨p, 0, none⟩)) rfl rfl (by kernel_rfl) (by kernel_rfl) (by kernel_rfl) (fun _ _ _ h => h) (by rfl) S1.out ?_ ?_
  · intro w hSw
    go_simp
  simp only [Act.put, List.setIfInBounds_toArray, List.set_cons_succ, List.set_cons_zero]
  refine takeH (i := 1) (some 31) (.pointer (some ⟨p, 0, none⟩)) rfl rfl (by kernel_rfl) (by kernel_rfl) (by kernel_rfl) (fun _ _ _ h => h) (by rfl) S1.out ?_ ?_
  · intro w hSw
    go_simp
  simp only [Act.put, List.setIfInBounds_toArray, List.set_cons_succ, List.set_cons_zero]
  refine takeH (i := 2) (some 32) (.pointer (some ⟨p, 0, none⟩)) rfl rfl (by kernel_rfl) (by kernel_rfl) (by kernel_rfl) (fun _ _ _ h => h) (by rfl) S1.out ?_ ?_
  · intro w hSw
    go_simp
  simp only [Act.put, List.setIfInBounds_toArray, List.set_cons_succ, List.set_cons_zero]
  refine takeH (i := 3) (some 33) (.map (some bn)) rfl rfl (by kernel_rfl) (by kernel_rfl) (by kernel_rfl) (fun _ _ _ h => h) (by rfl) S1.out ?_ ?_
  · intro w hSw
    have h1 := hSw.1; go_simp
  simp only [Act.put, List.setIfInBounds_toArray, List.set_cons_succ, List.set_cons_zero]
  refine takeH (i := 4) (some 34) (.int .i64 1) rfl rfl (by kernel_rfl) (by kernel_rfl) (by kernel_rfl) (fun _ _ _ h => h) (by rfl) S1.out ?_ ?_
  · intro w hSw
    have h1 := hSw.2.2.1; go_simp
  simp only [Act.put, List.setIfInBounds_toArray, List.set_cons_succ, List.set_cons_zero]
  refine takeH (i := 5) (some 35) (.agg (aSp zSp)) rfl rfl (by kernel_rfl) (by kernel_rfl) (by kernel_rfl) (fun _ _ _ h => h) (by rfl) S1.out ?_ ?_
  · intro w hSw
    exact exec_load rfl rfl (loadSp hSw.2.2.2)
  simp only [Act.put, List.setIfInBounds_toArray, List.set_cons_succ, List.set_cons_zero]
  refine takeH (i := 6) (some 36) (.agg (aN ⟨zSp, none, 0, 0, none, 0, 0, 0, 0⟩)) rfl rfl (by kernel_rfl) (by kernel_rfl) (by kernel_rfl) (fun _ _ _ h => h) (by rfl) S1.out ?_ ?_
  · intro w hSw
    unfold aSp; go_simp; rfl
  simp only [Act.put, List.setIfInBounds_toArray, List.set_cons_succ, List.set_cons_zero]
  refine wpAnyH_done (by kernel_rfl) ?_ _
  refine store_wp rfl rfl ?_
  refine upd_wp _ _ _ _ rfl rfl rfl rfl r2 ?_
  go_wp2_with fail
  refine wp_region_lastL (SPutN p b3 b5 bn bs 1 zSp) (by simp) (by kernel_rfl) (by kernel_rfl) ?_
  simp only [List.dropLast, List.getLast]
  refine takeH (i := 0) (some 37) (.pointer (some ⟨p, 0, none⟩)) rfl rfl (by kernel_rfl) (by kernel_rfl) (by kernel_rfl) (fun _ _ _ h => h) (by rfl) S2.out ?_ ?_
  · intro w hSw
    go_simp
  simp only [Act.put, List.setIfInBounds_toArray, List.set_cons_succ, List.set_cons_zero]
  refine takeH (i := 1) (some 38) (.pointer (some ⟨p, 0, none⟩)) rfl rfl (by kernel_rfl) (by kernel_rfl) (by kernel_rfl) (fun _ _ _ h => h) (by rfl) S2.out ?_ ?_
  · intro w hSw
    go_simp
  simp only [Act.put, List.setIfInBounds_toArray, List.set_cons_succ, List.set_cons_zero]
  refine takeH (i := 2) (some 39) (.pointer (some ⟨p, 1, none⟩)) rfl rfl (by kernel_rfl) (by kernel_rfl) (by kernel_rfl) (fun _ _ _ h => h) (by rfl) S2.out ?_ ?_
  · intro w hSw
    go_simp
  simp only [Act.put, List.setIfInBounds_toArray, List.set_cons_succ, List.set_cons_zero]
  refine takeH (i := 3) (some 40) (.map (some bs)) rfl rfl (by kernel_rfl) (by kernel_rfl) (by kernel_rfl) (fun _ _ _ h => h) (by rfl) S2.out ?_ ?_
  · intro w hSw
    have h1 := hSw.2.1; go_simp
  simp only [Act.put, List.setIfInBounds_toArray, List.set_cons_succ, List.set_cons_zero]
  refine takeH (i := 4) (some 41) (.agg (aSp zSp)) rfl rfl (by kernel_rfl) (by kernel_rfl) (by kernel_rfl) (fun _ _ _ h => h) (by rfl) S2.out ?_ ?_
  · intro w hSw
    exact exec_load rfl rfl (loadSp hSw.2.2.2)
  simp only [Act.put, List.setIfInBounds_toArray, List.set_cons_succ, List.set_cons_zero]
  refine takeH (i := 5) (some 42) (.int .i64 1) rfl rfl (by kernel_rfl) (by kernel_rfl) (by kernel_rfl) (fun _ _ _ h => h) (by rfl) S2.out ?_ ?_
  · intro w hSw
    have h1 := hSw.2.2.1; go_simp
  simp only [Act.put, List.setIfInBounds_toArray, List.set_cons_succ, List.set_cons_zero]
  refine wpAnyH_done (by kernel_rfl) ?_ _
  refine store_wp rfl rfl ?_
  refine upd_wp _ _ _ _ rfl rfl rfl rfl r3 ?_
  have d0 : W3.cell? ⟨b3, 0, none⟩ = some (.int .i64 ((0 : Nat) : Int)) := by rw [B3.out.cell]; simp [aSp, zSp]
  have hC1 := Lib.hid (ch_addK HTG.out.tr (by omega) 0 (by omega) (bq := b5) (id := 1) (by have := B5.out; simpa using this) hc3.out.2 (fun x hx => by
    unfold setF at hx
    split at hx
    · cases hx; simp
    · cases hx))
  clear r2 r3 S1 S2
  go_wp2_with fail
  refine hC1.out.mono ?_
  rintro e W4 ⟨rfl, c4, tg4⟩
  have hc4 : c4 b5 = 0 ∧ c4 b3 = 0 := by
    constructor
    · by_cases e : c4 b5 = 0
      · exact e
      · rcases tg4.sub b5 e with e | e
        · exact absurd hc3.out.2 e
        · have := B5.out.lt; omega
    · by_cases e : c4 b3 = 0
      · exact e
      · rcases tg4.sub b3 e with e | e
        · exact absurd hc3.out.1 e
        · have := B3.out.lt; omega
  have B34 := Lib.hid (B3.out.kept tg4.kept (fun e => e.1 hc3.out.1))
  have B54 := Lib.hid (B5.out.kept tg4.kept (fun e => e.1 hc3.out.2))
  have d1 : W4.cell? ⟨b3, 15, none⟩ = some (.int .i64 ((0 : Nat) : Int)) := by rw [B34.out.cell]; simp [aSp, zSp]
  have hC2 := Lib.hid (ch_addO tg4.tr (by omega) 0 (by omega) (bq := b5) (id := 1) (by have := B54.out; simpa using this) hc4.1 (fun x hx => by
    unfold addK setF at hx
    split at hx
    · split at hx
      · cases hx; simp
      · obtain ⟨y, hy, rfl⟩ := Option.map_eq_some_iff.1 hx
        cases hy
    · split at hx
      · cases hx; simp
      · cases hx))
  have HTG2 := Lib.hid (HTG.out.trans tg4)
  clear tg4 d0 hC1
  go_wp2_with fail
  refine hC2.out.mono ?_
  rintro e W5 ⟨rfl, c5, tg5⟩
  have B55 := Lib.hid (B54.out.kept tg5.kept (fun e => e.1 hc4.1))
  have d2 : W5.cell? ⟨b5, 0, none⟩ = some (.int .i64 1) := by rw [B55.out.cell]; rfl
  have HTG3 := Lib.hid (HTG2.out.trans tg5)
  clear tg5 d1 hC2
  go_wp2_with fail
  go_ret
  have e1 : addO (addK (setF (fun _ => none) 1 (some ⟨zSp, [], [], 0, 0⟩)) 0 1) 0 1 = ndE [] (fun _ => 0) (fun _ => 0) := by
    funext n
    unfold addO addK setF ndE ent
    by_cases h0 : n = 0
    · subst h0; rfl
    · by_cases h1 : n = 1
      · subst h1; rfl
      · simp [h0, h1]
  have e2 : NmOK [] (setF (fun _ => none) zSp (some 1)) := by
    intro s n
    unfold setF ent
    by_cases h0 : n = 0
    · subst h0
      by_cases hs : s = zSp
      · simp [hs]
      · simp [hs]
    · by_cases h1 : n = 1
      · subst h1
        by_cases hs : s = zSp
        · simp [hs, shE]
        · simp [hs, shE, Ne.symm hs]
      · by_cases hs : s = zSp
        · simp [h0, h1, hs, Ne.symm h1]
        · simp [h0, h1, hs]
  have ht := HTG3.out
  have hsz := HKM.out.size
  have hq := HQ3.out
  refine ⟨rfl, c5, ⟨EsOK.nil, _, e2, by rw [← e1]; exact ht.tr⟩, (HKA.out.mono (fun _ _ e => e.elim)).trans (HKM.out.trans ht.kept fun b hb e => ?_) fun b _ e => e, fun b e => ?_⟩
  · rcases HCC.out b with g | g | g
    · exact absurd g e.1
    · exact g
    · have := HZ0.out; omega
  · rcases ht.sub b e with g | g
    · rcases HCC.out b with g2 | g2 | g2
      · exact absurd g2 g
      · exact .inl g2
      · exact .inr (by have := HBS.out.1; omega)
    · right; have := HKA.out.size; have := HKM.out.size; omega
set_option maxHeartbeats 8000000 in
theorem new_any (w : World) :
    Calls Try.prog 9 #[] w fun e w' => ∃ p c, e = .returned (.pointer (some ⟨p, 0, none⟩)) ∧ TE w' c p [] (fun _ => 0) (fun _ => 0) ∧ Kept Nil w w' ∧ ∀ b, c b ≠ 0 → w.heap.size ≤ b := by
  have hb : Blk (w.alloc (.cells #[.map none, .map none, .int .i64 0] 91)) w.heap.size 91 #[.map none, .map none, .int .i64 0] := Blk.new _ _ _
  have HC := Lib.hid (put_new hb)
  have HK := Lib.hid ((Kept.refl Nil w).alloc (.cells #[.map none, .map none, .int .i64 0] 91))
  go_enter Try.func9, Try.ntmps9
  go_upto_region 2 with fail
  generalize w.alloc (.cells #[.map none, .map none, .int .i64 0] 91) = W0 at *
  generalize hp : w.heap.size = p at *
  have HP := Lib.hid hp
  clear hp
  go_wp2_with fail
  refine HC.out.mono ?_
  rintro e W1 ⟨rfl, c, te, k, hc⟩
  go_wp2_with fail
  go_ret
  have hq := HP.out
  have hs := HK.out.size
  exact ⟨p, c, rfl, te, HK.out.trans k (fun b hb e => by omega), fun b e => by rcases hc b e with g | g <;> omega⟩
end
end
end Go.Proofs.Ytodghgeghpbdlaa
