/- Layer cond: the reference's Same. -/
import Derived.Test.YthabnbljngejbaaCSameM
namespace Go.Proofs.Ythabnbljngejbaa
open Go.RowKit

/-- What is read in the region that compares two rows. -/
abbrev SeenQ (w0 : World) (B0 B1 : Nat) (va vb : Value) (b p : Nat) (c0 c1 c2 c3 c4 c5 c6 c7 : Value) (b' p' : Nat) (d0 d1 d2 d3 d4 d5 d6 d7 : Value) (w' : World) : Prop :=
  w'.cell? ⟨B0, 7, none⟩ = some va ∧ w'.cell? ⟨B1, 7, none⟩ = some vb ∧
  w'.cell? ⟨b, p, none⟩ = some c0 ∧ w'.cell? ⟨b, p + 1, none⟩ = some c1 ∧ w'.cell? ⟨b, p + 2, none⟩ = some c2 ∧ w'.cell? ⟨b, p + 3, none⟩ = some c3 ∧ w'.cell? ⟨b, p + 4, none⟩ = some c4 ∧ w'.cell? ⟨b, p + 5, none⟩ = some c5 ∧ w'.cell? ⟨b, p + 6, none⟩ = some c6 ∧ w'.cell? ⟨b, p + 7, none⟩ = some c7 ∧
  w'.cell? ⟨b', p', none⟩ = some d0 ∧ w'.cell? ⟨b', p' + 1, none⟩ = some d1 ∧ w'.cell? ⟨b', p' + 2, none⟩ = some d2 ∧ w'.cell? ⟨b', p' + 3, none⟩ = some d3 ∧ w'.cell? ⟨b', p' + 4, none⟩ = some d4 ∧ w'.cell? ⟨b', p' + 5, none⟩ = some d5 ∧ w'.cell? ⟨b', p' + 6, none⟩ = some d6 ∧ w'.cell? ⟨b', p' + 7, none⟩ = some d7 ∧ Kept Nil w0 w'
section
variable {w0 : World} {B0 B1 : Nat} {va vb : Value} {b p : Nat} {c0 c1 c2 c3 c4 c5 c6 c7 : Value} {b' p' : Nat} {d0 d1 d2 d3 d4 d5 d6 d7 : Value} {w w' : World}
theorem seenQ_of (h0 : w.cell? ⟨B0, 7, none⟩ = some va) (h1 : w.cell? ⟨B1, 7, none⟩ = some vb) (r : w.rangeAt b p [c0, c1, c2, c3, c4, c5, c6, c7]) (r' : w.rangeAt b' p' [d0, d1, d2, d3, d4, d5, d6, d7]) (k : Kept Nil w0 w) : SeenQ w0 B0 B1 va vb b p c0 c1 c2 c3 c4 c5 c6 c7 b' p' d0 d1 d2 d3 d4 d5 d6 d7 w :=
  ⟨h0, h1, r 0 _ rfl, r 1 _ rfl, r 2 _ rfl, r 3 _ rfl, r 4 _ rfl, r 5 _ rfl, r 6 _ rfl, r 7 _ rfl, r' 0 _ rfl, r' 1 _ rfl, r' 2 _ rfl, r' 3 _ rfl, r' 4 _ rfl, r' 5 _ rfl, r' 6 _ rfl, r' 7 _ rfl, k⟩
theorem seenQ_kept (k : Kept Nil w w') (h : SeenQ w0 B0 B1 va vb b p c0 c1 c2 c3 c4 c5 c6 c7 b' p' d0 d1 d2 d3 d4 d5 d6 d7 w) : SeenQ w0 B0 B1 va vb b p c0 c1 c2 c3 c4 c5 c6 c7 b' p' d0 d1 d2 d3 d4 d5 d6 d7 w' := by
  obtain ⟨h0, h1, h2, h3, h4, h5, h6, h7, h8, h9, g0, g1, g2, g3, g4, g5, g6, g7, kk⟩ := h
  exact ⟨k.cellOf h0, k.cellOf h1, k.cellOf h2, k.cellOf h3, k.cellOf h4, k.cellOf h5, k.cellOf h6, k.cellOf h7, k.cellOf h8, k.cellOf h9, k.cellOf g0, k.cellOf g1, k.cellOf g2, k.cellOf g3, k.cellOf g4, k.cellOf g5, k.cellOf g6, k.cellOf g7, kk.trans k (fun _ _ g => g)⟩
theorem seenQ_k (h : SeenQ w0 B0 B1 va vb b p c0 c1 c2 c3 c4 c5 c6 c7 b' p' d0 d1 d2 d3 d4 d5 d6 d7 w) : Kept Nil w0 w := by
  obtain ⟨h0, h1, h2, h3, h4, h5, h6, h7, h8, h9, g0, g1, g2, g3, g4, g5, g6, g7, kk⟩ := h
  exact kk
end
/-- Two conditions, boxed. -/
structure TwoB (w : World) (t : TypeId) (x y : Array Value) (W : World) : Prop where
  kept : Kept Nil w W
  b0 : Blk W w.heap.size t x
  b1 : Blk W (w.heap.size + 1) t y
theorem TwoB.start (w : World) (t : TypeId) (x y : Array Value) : TwoB w t x y ((w.alloc (.cells x t)).alloc (.cells y t)) := by
  refine ⟨((Kept.refl Nil w).alloc _).alloc _, (Blk.new w _ _).alloc _, ?_⟩
  have := Blk.new (w.alloc (.cells x t)) t y
  simpa using this
theorem TwoB.step {w : World} {t : TypeId} {x y : Array Value} {W W' : World} (r : TwoB w t x y W) (k : Kept Nil W W') : TwoB w t x y W' := ⟨r.kept.trans k (fun _ _ g => g), r.b0.kept k id, r.b1.kept k id⟩

abbrev RefSameIH (subs : List Sh) : Prop := ∀ hd sb, Sh.mk hd sb ∈ subs → ∀ hd' sb' ok ok' a cap a' cap' w, (Sh.mk hd' sb').count ≤ 5000 → Holds cR w ok (.slice a sb.length cap) sb → Holds cR w ok' (.slice a' sb'.length cap') sb' →
  Calls Try.prog 23 #[vR hd (.slice a sb.length cap), vR hd' (.slice a' sb'.length cap')] w fun e w' => e = .returned (.bool ((Sh.mk hd sb).same (.mk hd' sb'))) ∧ Kept Nil w w'
set_option maxHeartbeats 4000000 in
theorem refSame_step (k : Int) (x0 x1 x2 : Bool) (n0 n1 n2 : Int) (subs : List Sh) (len : Nat) (HL : Hid (subs.length = len)) (hLen : len ≤ 5000) (IH : Hid (RefSameIH subs))
    (ok ok' : Nat → Nat → Prop) (a : Option Addr) (cap : Nat) (w : World) (HH : Hid (Holds cR w ok (.slice a len cap) subs))
    (k' : Int) (x0' x1' x2' : Bool) (n0' n1' n2' : Int) (subs' : List Sh) (len' : Nat) (HL' : Hid (subs'.length = len')) (hLen' : len' ≤ 5000) (HC' : Hid (∀ y ∈ subs', y.count ≤ 5000)) (a' : Option Addr) (cap' : Nat) (HH' : Hid (Holds cR w ok' (.slice a' len' cap') subs')) :
    Calls Try.prog 23 #[vR ⟨k, x0, x1, x2, n0, n1, n2⟩ (.slice a len cap), vR ⟨k', x0', x1', x2', n0', n1', n2'⟩ (.slice a' len' cap')] w fun e w' => e = .returned (.bool ((Sh.mk ⟨k, x0, x1, x2, n0, n1, n2⟩ subs).same (.mk ⟨k', x0', x1', x2', n0', n1', n2'⟩ subs'))) ∧ Kept Nil w w' := by
  have hq : ∀ W, (Op.equalIn 10000 42 (.agg #[.int .i64 (isV x0), .int .i64 n0, .int .i64 (isV x1), .int .i64 n1, .int .i64 (isV x2), .int .i64 n2]) (.agg #[.int .i64 (isV x0'), .int .i64 n0', .int .i64 (isV x1'), .int .i64 n1', .int .i64 (isV x2'), .int .i64 n2'])).run Try.prog W = .ok ((⟨k, x0, x1, x2, n0, n1, n2⟩ : Hd).sameT ⟨k', x0', x1', x2', n0', n1', n2'⟩) W := fun W => eqR ⟨k, x0, x1, x2, n0, n1, n2⟩ ⟨k', x0', x1', x2', n0', n1', n2'⟩ W
  have HV : Hid ((Sh.mk ⟨k, x0, x1, x2, n0, n1, n2⟩ subs).same (.mk ⟨k', x0', x1', x2', n0', n1', n2'⟩ subs') = (decide (k = k') && (⟨k, x0, x1, x2, n0, n1, n2⟩ : Hd).sameT ⟨k', x0', x1', x2', n0', n1', n2'⟩ && sameL subs subs')) := Lib.hid (same_mk _ _ _ _)
  generalize (Sh.mk ⟨k, x0, x1, x2, n0, n1, n2⟩ subs).same (.mk ⟨k', x0', x1', x2', n0', n1', n2'⟩ subs') = v at HV
  generalize (⟨k, x0, x1, x2, n0, n1, n2⟩ : Hd).sameT ⟨k', x0', x1', x2', n0', n1', n2'⟩ = z at HV hq
  have T0 := Lib.hid (TwoB.start w 44 (arrR ⟨k, x0, x1, x2, n0, n1, n2⟩ (.slice a len cap)) (arrR ⟨k', x0', x1', x2', n0', n1', n2'⟩ (.slice a' len' cap')))
  by_cases hk : k = k'
  · subst hk
    cases z
    · go_enter Try.func23, Try.ntmps23
      go_wp2_with fail
      go_ret
      exact ⟨by rw [HV.out]; simp, T0.out.kept⟩
    · by_cases hl : len = len'
      · subst hl
        have HV2 : Hid (v = sameL subs subs') := Lib.hid (by rw [HV.out]; simp)
        clear HV
        go_enter Try.func23, Try.ntmps23
        go_wp2_with fail
        go_loopw [30] (fun i wr => ∃ j : Nat, j ≤ len ∧ i = .int .i64 j ∧ sameL subs subs' = sameL (subs.drop j) (subs'.drop j) ∧ TwoB w 44 (arrR ⟨k, x0, x1, x2, n0, n1, n2⟩ (.slice a len cap)) (arrR ⟨k, x0', x1', x2', n0', n1', n2'⟩ (.slice a' len cap')) wr) (fun i _ => len - (intOf i).toNat)
        case atStart => exact ⟨0, by omega, rfl, rfl, T0.out⟩
        case round =>
          obtain ⟨j, hj, rfl, hch, hT⟩ := hrel
          have HT := Lib.hid hT
          have HCh := Lib.hid hch
          clear hT hch T0
          by_cases hlt : j < len
          · obtain ⟨⟨hd, sb⟩, hx⟩ : ∃ x, subs[j]? = some x := ⟨_, List.getElem?_eq_getElem (by have := HL.out; omega)⟩
            obtain ⟨⟨hd', sb'⟩, hx'⟩ : ∃ x, subs'[j]? = some x := ⟨_, List.getElem?_eq_getElem (by have := HL'.out; omega)⟩
            obtain ⟨b, o, a1, c1, rfl, hok, hr, hs⟩ := (HH.out.keptN HT.out.kept).at_ hx
            obtain ⟨b', o', a2, c2, rfl, hok', hr', hs'⟩ := (HH'.out.keptN HT.out.kept).at_ hx'
            have hc' : (Sh.mk hd' sb').count ≤ 5000 := HC'.out _ (List.mem_of_getElem? hx')
            have HX : Hid (∀ W, Kept Nil wr W → Calls Try.prog 23 #[vR hd (.slice a1 sb.length c1), vR hd' (.slice a2 sb'.length c2)] W fun e w' => e = .returned (.bool ((Sh.mk hd sb).same (.mk hd' sb'))) ∧ Kept Nil W w') := Lib.hid fun W kW =>
              IH.out _ _ (List.mem_of_getElem? hx) hd' sb' ok ok' a1 c1 a2 c2 W hc' (hs.keptN kW) (hs'.keptN kW)
            have HN := Lib.hid (sameL_drop hx hx')
            obtain ⟨k1, y0, y1, y2, m0, m1, m2⟩ := hd
            obtain ⟨k2, y0', y1', y2', m0', m1', m2'⟩ := hd'
            generalize (Sh.mk ⟨k1, y0, y1, y2, m0, m1, m2⟩ sb).same (.mk ⟨k2, y0', y1', y2', m0', m1', m2'⟩ sb') = q at HX HN
            generalize hl1 : sb.length = l1 at hr HX
            generalize hl2 : sb'.length = l2 at hr' HX
            have SQ := Lib.hid (seenQ_of (w0 := w) (va := .slice (some ⟨b, o, none⟩) len cap) (vb := .slice (some ⟨b', o', none⟩) len cap') (HT.out.b0.drew.cell 7) (HT.out.b1.drew.cell 7) (rangeAt_kept ((Kept.refl Nil wr).drew) id hr) (rangeAt_kept ((Kept.refl Nil wr).drew) id hr') HT.out.kept.drew)
            clear hx hx' hs hs' hr hr' hok hok' hc' hl1 hl2
            have hj0 : (0 : Int) ≤ (j : Int) := by omega
            have hjl : (j : Int) < (len : Int) := by omega
            cases q
            · go_wp2_with fail
              go_region_held3 (SeenQ w w.heap.size (w.heap.size + 1) (.slice (some ⟨b, o, none⟩) len cap) (.slice (some ⟨b', o', none⟩) len cap') b (o + j * 8) (.int .i64 k1) (.int .i64 (isV y0)) (.int .i64 m0) (.int .i64 (isV y1)) (.int .i64 m1) (.int .i64 (isV y2)) (.int .i64 m2) (.slice a1 l1 c1) b' (o' + j * 8) (.int .i64 k2) (.int .i64 (isV y0')) (.int .i64 m0') (.int .i64 (isV y1')) (.int .i64 m1') (.int .i64 (isV y2')) (.int .i64 m2') (.slice a2 l2 c2))
                (first | (with_reducible assumption) | (with_reducible exact SQ.out) | (with_reducible exact seenQ_kept k9 (by with_reducible assumption)))
                (first
                  | (go_at_call 23; refine (HX.out _ ((Kept.refl Nil wr).drew)).mono ?_; rintro e w9 ⟨rfl, k9⟩))
              have T9 := Lib.hid (HT.out.step (((Kept.refl Nil wr).drew).trans k9 (fun _ _ g => g)))
              clear k9
              go_wp2_with fail
              go_ret
              exact ⟨by rw [HV2.out, HCh.out, HN.out]; rfl, T9.out.kept⟩
            · go_wp2_with fail
              go_region_held3 (SeenQ w w.heap.size (w.heap.size + 1) (.slice (some ⟨b, o, none⟩) len cap) (.slice (some ⟨b', o', none⟩) len cap') b (o + j * 8) (.int .i64 k1) (.int .i64 (isV y0)) (.int .i64 m0) (.int .i64 (isV y1)) (.int .i64 m1) (.int .i64 (isV y2)) (.int .i64 m2) (.slice a1 l1 c1) b' (o' + j * 8) (.int .i64 k2) (.int .i64 (isV y0')) (.int .i64 m0') (.int .i64 (isV y1')) (.int .i64 m1') (.int .i64 (isV y2')) (.int .i64 m2') (.slice a2 l2 c2))
                (first | (with_reducible assumption) | (with_reducible exact SQ.out) | (with_reducible exact seenQ_kept k9 (by with_reducible assumption)))
                (first
                  | (go_at_call 23; refine (HX.out _ ((Kept.refl Nil wr).drew)).mono ?_; rintro e w9 ⟨rfl, k9⟩))
              have T9 := Lib.hid (HT.out.step (((Kept.refl Nil wr).drew).trans k9 (fun _ _ g => g)))
              clear k9
              go_wp2_with fail
              go_roundw
              case rel => exact ⟨j + 1, by omega, by go_num, by rw [HCh.out, HN.out]; simp, T9.out⟩
              case measure => simp [intOf]; omega
          · obtain rfl : j = len := by omega
            have HE : Hid (sameL (subs.drop j) (subs'.drop j) = true) := Lib.hid (by rw [show subs.drop j = [] from List.drop_eq_nil_of_le (by have := HL.out; omega), show subs'.drop j = [] from List.drop_eq_nil_of_le (by have := HL'.out; omega)]; rfl)
            go_wp2_with fail
            go_ret
            exact ⟨by rw [HV2.out, HCh.out, HE.out]; rfl, HT.out.kept⟩
      · have HV2 : Hid (v = false) := Lib.hid (by rw [HV.out, sameL_ne (by have := HL.out; have := HL'.out; omega)]; simp)
        have hl' : ((len : Int) != (len' : Int)) = true := by simp; omega
        clear HV
        go_enter Try.func23, Try.ntmps23
        go_wp2_with fail
        go_ret
        exact ⟨by rw [HV2.out]; rfl, T0.out.kept⟩
  · have HV2 : Hid (v = false) := Lib.hid (by rw [HV.out]; simp [hk])
    have hk' : (k != k') = true := by simpa using hk
    clear HV
    go_enter Try.func23, Try.ntmps23
    go_wp2_with fail
    go_ret
    exact ⟨by rw [HV2.out]; rfl, T0.out.kept⟩
theorem refSame_any : ∀ s : Sh, s.count ≤ 5000 → ∀ t : Sh, t.count ≤ 5000 → ∀ ok ok' a cap a' cap' w, Holds cR w ok (.slice a s.subs.length cap) s.subs → Holds cR w ok' (.slice a' t.subs.length cap') t.subs →
    Calls Try.prog 23 #[vR s.hd (.slice a s.subs.length cap), vR t.hd (.slice a' t.subs.length cap')] w fun e w' => e = .returned (.bool (s.same t)) ∧ Kept Nil w w' := by
  refine Sh.ind fun hd subs ih hc t ht ok ok' a cap a' cap' w h h' => ?_
  obtain ⟨hd', subs'⟩ := t
  have hc' : 1 + countL subs ≤ 5000 := by simpa [Sh.count] using hc
  have ht' : 1 + countL subs' ≤ 5000 := by simpa [Sh.count] using ht
  have hl := length_countL subs
  have hl' := length_countL subs'
  exact refSame_step hd.k hd.x0 hd.x1 hd.x2 hd.n0 hd.n1 hd.n2 subs _ rfl (by omega) (fun hd1 sb hx hd2 sb' ok1 ok2 a1 c1 a2 c2 W hcs g1 g2 => ih _ hx (by have := count_mem hx; omega) (.mk hd2 sb') hcs ok1 ok2 a1 c1 a2 c2 W g1 g2) ok ok' a cap w h hd'.k hd'.x0 hd'.x1 hd'.x2 hd'.n0 hd'.n1 hd'.n2 subs' _ rfl (by omega) (fun y hy => by have := count_mem hy; omega) a' cap' h'
end Go.Proofs.Ythabnbljngejbaa
