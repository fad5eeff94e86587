/- Layer scope: the reference's Same of two chains. -/
import Derived.Test.YthabnbljngejbaaERows
import Derived.Test.YthabnbljngejbaaCRefSame
namespace Go.Proofs.Ythabnbljngejbaa
open Go.RowKit

abbrev SeenS (w0 : World) (b p : Nat) (c0 c1 c2 c3 c4 c5 c6 c7 : Value) (b' p' : Nat) (d0 d1 d2 d3 d4 d5 d6 d7 : Value) (w' : World) : Prop :=
  w'.cell? ⟨b, p, none⟩ = some c0 ∧ w'.cell? ⟨b, p + 1, none⟩ = some c1 ∧ w'.cell? ⟨b, p + 2, none⟩ = some c2 ∧ w'.cell? ⟨b, p + 3, none⟩ = some c3 ∧ w'.cell? ⟨b, p + 4, none⟩ = some c4 ∧ w'.cell? ⟨b, p + 5, none⟩ = some c5 ∧ w'.cell? ⟨b, p + 6, none⟩ = some c6 ∧ w'.cell? ⟨b, p + 7, none⟩ = some c7 ∧
  w'.cell? ⟨b', p', none⟩ = some d0 ∧ w'.cell? ⟨b', p' + 1, none⟩ = some d1 ∧ w'.cell? ⟨b', p' + 2, none⟩ = some d2 ∧ w'.cell? ⟨b', p' + 3, none⟩ = some d3 ∧ w'.cell? ⟨b', p' + 4, none⟩ = some d4 ∧ w'.cell? ⟨b', p' + 5, none⟩ = some d5 ∧ w'.cell? ⟨b', p' + 6, none⟩ = some d6 ∧ w'.cell? ⟨b', p' + 7, none⟩ = some d7 ∧ Kept Nil w0 w'
section
variable {w0 w w' : World} {b p : Nat} {c0 c1 c2 c3 c4 c5 c6 c7 : Value} {b' p' : Nat} {d0 d1 d2 d3 d4 d5 d6 d7 : Value}
theorem seenS_of (r : w.rangeAt b p [c0, c1, c2, c3, c4, c5, c6, c7]) (r' : w.rangeAt b' p' [d0, d1, d2, d3, d4, d5, d6, d7]) (k : Kept Nil w0 w) : SeenS w0 b p c0 c1 c2 c3 c4 c5 c6 c7 b' p' d0 d1 d2 d3 d4 d5 d6 d7 w :=
  ⟨r 0 _ rfl, r 1 _ rfl, r 2 _ rfl, r 3 _ rfl, r 4 _ rfl, r 5 _ rfl, r 6 _ rfl, r 7 _ rfl, r' 0 _ rfl, r' 1 _ rfl, r' 2 _ rfl, r' 3 _ rfl, r' 4 _ rfl, r' 5 _ rfl, r' 6 _ rfl, r' 7 _ rfl, k⟩
theorem seenS_kept (k : Kept Nil w w') (h : SeenS w0 b p c0 c1 c2 c3 c4 c5 c6 c7 b' p' d0 d1 d2 d3 d4 d5 d6 d7 w) : SeenS w0 b p c0 c1 c2 c3 c4 c5 c6 c7 b' p' d0 d1 d2 d3 d4 d5 d6 d7 w' := by
  obtain ⟨h2, h3, h4, h5, h6, h7, h8, h9, g0, g1, g2, g3, g4, g5, g6, g7, kk⟩ := h
  exact ⟨k.cellOf h2, k.cellOf h3, k.cellOf h4, k.cellOf h5, k.cellOf h6, k.cellOf h7, k.cellOf h8, k.cellOf h9, k.cellOf g0, k.cellOf g1, k.cellOf g2, k.cellOf g3, k.cellOf g4, k.cellOf g5, k.cellOf g6, k.cellOf g7, kk.trans k (fun _ _ g => g)⟩
end
set_option maxHeartbeats 4000000 in
theorem refSameL_any (l l' : List Sh) (hc : countL l ≤ 5000) (hc' : countL l' ≤ 5000) (ok ok' : Nat → Nat → Prop) (a a' : Option Addr) (cap cap' : Nat) (w : World) (h : Holds cR w ok (.slice a l.length cap) l) (h' : Holds cR w ok' (.slice a' l'.length cap') l') :
    Calls Try.prog 11 #[.slice a l.length cap, .slice a' l'.length cap'] w fun e w' => e = .returned (.bool (sameL l l')) ∧ Kept Nil w w' := by
  obtain ⟨len, hlen⟩ : ∃ n, l.length = n := ⟨_, rfl⟩
  obtain ⟨len', hlen'⟩ : ∃ n, l'.length = n := ⟨_, rfl⟩
  have HH := Lib.hid h
  have HH' := Lib.hid h'
  have HC := Lib.hid hc
  have HC' := Lib.hid hc'
  rw [hlen] at HH ⊢
  rw [hlen'] at HH' ⊢
  have HL := Lib.hid hlen
  have HL' := Lib.hid hlen'
  have hLen : len ≤ 5000 := by have := length_countL l; omega
  clear h h' hc hc' hlen hlen'
  by_cases hl : len = len'
  · subst hl
    go_enter Try.func11, Try.ntmps11
    go_wp2_with fail
    go_loopw [13] (fun i wr => ∃ j : Nat, j ≤ len ∧ i = .int .i64 j ∧ sameL l l' = sameL (l.drop j) (l'.drop j) ∧ Kept Nil w wr) (fun i _ => len - (intOf i).toNat)
    case atStart => exact ⟨0, by omega, rfl, rfl, Kept.refl _ _⟩
    case round =>
      obtain ⟨j, hj, rfl, hch, hK⟩ := hrel
      have HK := Lib.hid hK
      have HCh := Lib.hid hch
      clear hK hch
      by_cases hlt : j < len
      · obtain ⟨⟨hd, sb⟩, hx⟩ : ∃ x, l[j]? = some x := ⟨_, List.getElem?_eq_getElem (by have := HL.out; omega)⟩
        obtain ⟨⟨hd', sb'⟩, hx'⟩ : ∃ x, l'[j]? = some x := ⟨_, List.getElem?_eq_getElem (by have := HL'.out; omega)⟩
        obtain ⟨b, o, a1, c1, rfl, hok, hr, hs⟩ := (HH.out.keptN HK.out).at_ hx
        obtain ⟨b', o', a2, c2, rfl, hok', hr', hs'⟩ := (HH'.out.keptN HK.out).at_ hx'
        have hcx : (Sh.mk hd sb).count ≤ 5000 := Nat.le_trans (count_mem (List.mem_of_getElem? hx)) HC.out
        have hcx' : (Sh.mk hd' sb').count ≤ 5000 := Nat.le_trans (count_mem (List.mem_of_getElem? hx')) HC'.out
        have HX : Hid (∀ W, Kept Nil wr W → Calls Try.prog 23 #[vR hd (.slice a1 sb.length c1), vR hd' (.slice a2 sb'.length c2)] W fun e w' => e = .returned (.bool ((Sh.mk hd sb).same (.mk hd' sb'))) ∧ Kept Nil W w') := Lib.hid fun W kW =>
          refSame_any (.mk hd sb) hcx (.mk hd' sb') hcx' ok ok' a1 c1 a2 c2 W (hs.keptN kW) (hs'.keptN kW)
        have HN := Lib.hid (sameL_drop hx hx')
        obtain ⟨k1, y0, y1, y2, m0, m1, m2⟩ := hd
        obtain ⟨k2, y0', y1', y2', m0', m1', m2'⟩ := hd'
        generalize (Sh.mk ⟨k1, y0, y1, y2, m0, m1, m2⟩ sb).same (.mk ⟨k2, y0', y1', y2', m0', m1', m2'⟩ sb') = q at HX HN
        generalize hl1 : sb.length = l1 at hr HX
        generalize hl2 : sb'.length = l2 at hr' HX
        have SQ := Lib.hid (seenS_of (w0 := w) (rangeAt_kept ((Kept.refl Nil wr).drew) id hr) (rangeAt_kept ((Kept.refl Nil wr).drew) id hr') HK.out.drew)
        clear hx hx' hs hs' hr hr' hok hok' hcx hcx' hl1 hl2
        have hj0 : (0 : Int) ≤ (j : Int) := by omega
        have hjl : (j : Int) < (len : Int) := by omega
        cases q
        · go_wp2_with fail
          go_region_held3 (SeenS w b (o + j * 8) (.int .i64 k1) (.int .i64 (isV y0)) (.int .i64 m0) (.int .i64 (isV y1)) (.int .i64 m1) (.int .i64 (isV y2)) (.int .i64 m2) (.slice a1 l1 c1) b' (o' + j * 8) (.int .i64 k2) (.int .i64 (isV y0')) (.int .i64 m0') (.int .i64 (isV y1')) (.int .i64 m1') (.int .i64 (isV y2')) (.int .i64 m2') (.slice a2 l2 c2))
            (first | (with_reducible assumption) | (with_reducible exact SQ.out) | (with_reducible exact seenS_kept k9 (by with_reducible assumption)))
            (first
              | (go_at_call 23; refine (HX.out _ ((Kept.refl Nil wr).drew)).mono ?_; rintro e w9 ⟨rfl, k9⟩))
          have K9 := Lib.hid (HK.out.trans (((Kept.refl Nil wr).drew).trans k9 (fun _ _ g => g)) (fun _ _ g => g))
          clear k9
          go_wp2_with fail
          go_ret
          exact ⟨by rw [HCh.out, HN.out]; rfl, K9.out⟩
        · go_wp2_with fail
          go_region_held3 (SeenS w b (o + j * 8) (.int .i64 k1) (.int .i64 (isV y0)) (.int .i64 m0) (.int .i64 (isV y1)) (.int .i64 m1) (.int .i64 (isV y2)) (.int .i64 m2) (.slice a1 l1 c1) b' (o' + j * 8) (.int .i64 k2) (.int .i64 (isV y0')) (.int .i64 m0') (.int .i64 (isV y1')) (.int .i64 m1') (.int .i64 (isV y2')) (.int .i64 m2') (.slice a2 l2 c2))
            (first | (with_reducible assumption) | (with_reducible exact SQ.out) | (with_reducible exact seenS_kept k9 (by with_reducible assumption)))
            (first
              | (go_at_call 23; refine (HX.out _ ((Kept.refl Nil wr).drew)).mono ?_; rintro e w9 ⟨rfl, k9⟩))
          have K9 := Lib.hid (HK.out.trans (((Kept.refl Nil wr).drew).trans k9 (fun _ _ g => g)) (fun _ _ g => g))
          clear k9
          go_wp2_with fail
          go_roundw
          case rel => exact ⟨j + 1, by omega, by go_num, by rw [HCh.out, HN.out]; simp, K9.out⟩
          case measure => simp [intOf]; omega
      · obtain rfl : j = len := by omega
        have HE : Hid (sameL (l.drop j) (l'.drop j) = true) := Lib.hid (by rw [show l.drop j = [] from List.drop_eq_nil_of_le (by have := HL.out; omega), show l'.drop j = [] from List.drop_eq_nil_of_le (by have := HL'.out; omega)]; rfl)
        go_wp2_with fail
        go_ret
        exact ⟨by rw [HCh.out, HE.out]; rfl, HK.out⟩
  · have HV2 : Hid (sameL l l' = false) := Lib.hid (sameL_ne (by have := HL.out; have := HL'.out; omega))
    have hl' : ((len : Int) != (len' : Int)) = true := by simp; omega
    go_enter Try.func11, Try.ntmps11
    go_wp2_with fail
    go_ret
    exact ⟨by rw [HV2.out]; rfl, Kept.refl _ _⟩
theorem sameL_refl (l : List Sh) : sameL l l = true := same_refl.2 l
end Go.Proofs.Ythabnbljngejbaa
