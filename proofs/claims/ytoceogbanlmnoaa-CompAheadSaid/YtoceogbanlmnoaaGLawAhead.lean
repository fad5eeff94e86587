/- CompAhead: the walk over the law's own code. -/
import Derived.Test.YtoceogbanlmnoaaGG
import Derived.Test.YtoceogbanlmnoaaGC
import Derived.Test.YtoceogbanlmnoaaEFine
import Derived.Deep.RegionHeld3
namespace Go.Proofs.Ytoceogbanlmnoaa
open Go.RowKit
set_option maxRecDepth 100000

/-- What is read in a round: a step of each, and a condition; and nothing that was there has changed. -/
abbrev SeenHA (w0 : World) (b p : Nat) (c0 c1 c2 c3 c4 c5 : Value) (b' p' : Nat) (d0 d1 d2 d3 d4 d5 : Value) (g q : Nat) (f0 f1 f2 f3 f4 f5 f6 f7 : Value) (w' : World) : Prop :=
  w'.cell? ⟨b, p, none⟩ = some c0 ∧ w'.cell? ⟨b, p + 1, none⟩ = some c1 ∧ w'.cell? ⟨b, p + 2, none⟩ = some c2 ∧ w'.cell? ⟨b, p + 3, none⟩ = some c3 ∧ w'.cell? ⟨b, p + 4, none⟩ = some c4 ∧ w'.cell? ⟨b, p + 5, none⟩ = some c5 ∧
  w'.cell? ⟨b', p', none⟩ = some d0 ∧ w'.cell? ⟨b', p' + 1, none⟩ = some d1 ∧ w'.cell? ⟨b', p' + 2, none⟩ = some d2 ∧ w'.cell? ⟨b', p' + 3, none⟩ = some d3 ∧ w'.cell? ⟨b', p' + 4, none⟩ = some d4 ∧ w'.cell? ⟨b', p' + 5, none⟩ = some d5 ∧
  w'.cell? ⟨g, q, none⟩ = some f0 ∧ w'.cell? ⟨g, q + 1, none⟩ = some f1 ∧ w'.cell? ⟨g, q + 2, none⟩ = some f2 ∧ w'.cell? ⟨g, q + 3, none⟩ = some f3 ∧ w'.cell? ⟨g, q + 4, none⟩ = some f4 ∧ w'.cell? ⟨g, q + 5, none⟩ = some f5 ∧ w'.cell? ⟨g, q + 6, none⟩ = some f6 ∧ w'.cell? ⟨g, q + 7, none⟩ = some f7 ∧ Kept Nil w0 w'
section
variable {w0 w w' : World} {b p : Nat} {c0 c1 c2 c3 c4 c5 : Value} {b' p' : Nat} {d0 d1 d2 d3 d4 d5 : Value} {g q : Nat} {f0 f1 f2 f3 f4 f5 f6 f7 : Value}
theorem seenHA_of (r : w.rangeAt b p [c0, c1, c2, c3, c4, c5]) (r' : w.rangeAt b' p' [d0, d1, d2, d3, d4, d5]) (r2 : w.rangeAt g q [f0, f1, f2, f3, f4, f5, f6, f7]) (k : Kept Nil w0 w) : SeenHA w0 b p c0 c1 c2 c3 c4 c5 b' p' d0 d1 d2 d3 d4 d5 g q f0 f1 f2 f3 f4 f5 f6 f7 w :=
  ⟨r 0 _ rfl, r 1 _ rfl, r 2 _ rfl, r 3 _ rfl, r 4 _ rfl, r 5 _ rfl, r' 0 _ rfl, r' 1 _ rfl, r' 2 _ rfl, r' 3 _ rfl, r' 4 _ rfl, r' 5 _ rfl, r2 0 _ rfl, r2 1 _ rfl, r2 2 _ rfl, r2 3 _ rfl, r2 4 _ rfl, r2 5 _ rfl, r2 6 _ rfl, r2 7 _ rfl, k⟩
theorem seenHA_kept (k : Kept Nil w w') (h : SeenHA w0 b p c0 c1 c2 c3 c4 c5 b' p' d0 d1 d2 d3 d4 d5 g q f0 f1 f2 f3 f4 f5 f6 f7 w) : SeenHA w0 b p c0 c1 c2 c3 c4 c5 b' p' d0 d1 d2 d3 d4 d5 g q f0 f1 f2 f3 f4 f5 f6 f7 w' := by
  obtain ⟨h2, h3, h4, h5, h6, h7, g0, g1, g2, g3, g4, g5, j0, j1, j2, j3, j4, j5, j6, j7, kk⟩ := h
  exact ⟨k.cellOf h2, k.cellOf h3, k.cellOf h4, k.cellOf h5, k.cellOf h6, k.cellOf h7, k.cellOf g0, k.cellOf g1, k.cellOf g2, k.cellOf g3, k.cellOf g4, k.cellOf g5, k.cellOf j0, k.cellOf j1, k.cellOf j2, k.cellOf j3, k.cellOf j4, k.cellOf j5, k.cellOf j6, k.cellOf j7, kk.trans k (fun _ _ g => g)⟩
theorem seenHA_k (h : SeenHA w0 b p c0 c1 c2 c3 c4 c5 b' p' d0 d1 d2 d3 d4 d5 g q f0 f1 f2 f3 f4 f5 f6 f7 w) : Kept Nil w0 w := h.2.2.2.2.2.2.2.2.2.2.2.2.2.2.2.2.2.2.2.2
end
/-- The two results of a region that compiles twice. -/
abbrev SeenKN (w0 : World) (w' : World) : Prop := Kept Nil w0 w'
theorem seenKN_kept {w0 w w' : World} (k : Kept Nil w w') (h : SeenKN w0 w) : SeenKN w0 w' := h.trans k (fun _ _ g => g)
theorem goes_take {l : List Sh} (h : Goes l) (n : Nat) : Goes (l.take n) := ⟨by have := countL_take_le l n; have := h.1; omega, chkL_all.2 fun x hx => chkL_all.1 h.2 x (List.mem_of_mem_take hx)⟩
set_option maxHeartbeats 8000000 in
theorem lawAhead_any (l : List Sh) (a : Option Addr) (cap : Nat) (k : Int) (hk : 0 ≤ k ∧ k ≤ 255) (w : World) (h : Holds cA w (fun b _ => b < w.heap.size) (.slice a l.length cap) l) :
    Calls Try.prog 7 #[.slice a l.length cap, .int .u8 k] w fun e w' => e = .returned (.bool true) ∧ Kept Nil w w' := by
  have HA := Lib.hid (fun W => awakeComp_any W)
  have CF := Lib.hid (fineL_any l _ a cap w h (fun _ _ h => h))
  unfold YesEnd at CF
  have HH := Lib.hid h
  obtain ⟨hfit, hfc⟩ := h.fits
  obtain ⟨len, hlen⟩ : ∃ len, l.length = len := ⟨_, rfl⟩
  rw [hlen] at CF HH hfc ⊢
  have HL := Lib.hid hlen
  clear h hfit hlen
  go_enter Try.func7, Try.ntmps7
  go_wp2_with fail
  refine CF.out.mono ?_
  rintro e w1 ⟨b, rfl, k1, hb⟩
  have K1 := Lib.hid k1
  have HB := Lib.hid hb
  clear k1 hb CF
  cases b
  · go_wp2_with fail
    refine (HA.out _).mono ?_
    rintro e w3 ⟨rfl, k3⟩
    go_wp2_with fail
    go_ret
    exact ⟨rfl, K1.out.trans k3 (fun _ _ g => g)⟩
  · have HG : Hid (Goes l) := Lib.hid (HB.out rfl)
    have hl16 : len ≤ 16 := by have := length_countL l; have := HG.out.1; have := HL.out; omega
    obtain ⟨m, hm⟩ : ∃ m : Nat, m = (k % ((len : Int) + 1)).toNat := ⟨_, rfl⟩
    have hmr : 0 ≤ k % ((len : Int) + 1) ∧ k % ((len : Int) + 1) < (len : Int) + 1 := ⟨Int.emod_nonneg _ (by omega), Int.emod_lt_of_pos _ (by omega)⟩
    have ht : k.tmod ((len : Int) + 1) = (m : Int) := by rw [Int.tmod_eq_emod_of_nonneg hk.1]; omega
    have hml : m ≤ len := by omega
    have hm0 : (0 : Int) ≤ (m : Int) := by omega
    have hmc : (m : Int) ≤ (cap : Int) := by omega
    have hmc2 : m ≤ cap := by omega
    clear hm hmr HB
    have hlz : (((len : Int) + 1) == 0) = false := by rw [beq_eq_false_iff_ne]; omega
    have hwr : IntKind.i64.wrap ((len : Int) + 1) = (len : Int) + 1 := by rw [IntKind.wrap_i64]; omega
    have CC : Hid (∀ W, Kept Nil w1 W → Calls Try.prog 10 #[.slice a len cap] W fun e w' => ∃ a cap, e = .returned (.slice a len cap) ∧ SHolds w' (okM W.heap.size w') (.slice a len cap) (stL l []) ∧ Kept Nil W w') := Lib.hid fun W kW => by
      have := compile_any l HG.out _ a cap W (by rw [HL.out]; exact HH.out.keptN (K1.out.trans kW (fun _ _ g => g)))
      unfold StsEnd at this
      rw [stL_length, HL.out] at this
      exact this
    have CM : Hid (∀ W, Kept Nil w1 W → Calls Try.prog 10 #[.slice a m cap] W fun e w' => ∃ a cap, e = .returned (.slice a m cap) ∧ SHolds w' (okM W.heap.size w') (.slice a m cap) (stL (l.take m) []) ∧ Kept Nil W w') := Lib.hid fun W kW => by
      have hlm : (l.take m).length = m := by rw [List.length_take]; have := HL.out; omega
      have := compile_any (l.take m) (goes_take HG.out m) _ a cap W (by rw [hlm]; exact (HH.out.first hml).keptN (K1.out.trans kW (fun _ _ g => g)))
      unfold StsEnd at this
      rw [stL_length, hlm] at this
      exact this
    have KD : Hid (SeenKN w1 w1.drew) := Lib.hid ((Kept.refl Nil w1).drew)
    go_wp2_with fail
    go_region_held3 (SeenKN w1)
      (first | (with_reducible assumption) | (with_reducible exact KD.out) | (with_reducible exact seenKN_kept k7 (by with_reducible assumption)) | (with_reducible exact seenKN_kept k8 (by with_reducible assumption)))
      (first
        | (go_at_call 10; (with_reducible refine (CC.out _ (by with_reducible assumption)).mono ?_); rintro e w7 ⟨a7, c7, rfl, h7, k7⟩)
        | (go_at_call 10; (with_reducible refine (CM.out _ (by with_reducible assumption)).mono ?_); rintro e w8 ⟨a8, c8, rfl, h8, k8⟩))
    have H7 := Lib.hid (h7.keptN k8)
    have H8 := Lib.hid h8
    have KW := Lib.hid (K1.out.trans ((Kept.refl Nil w1).drew.trans (k7.trans k8 (fun _ _ g => g)) (fun _ _ g => g)) (fun _ _ g => g))
    clear h7 h8 k7 k8 KD CC CM
    go_wp2_with fail
    go_loopw [38] (fun i wr => ∃ j : Nat, j ≤ m ∧ i = .int .i64 j ∧ Kept Nil w8 wr) (fun i _ => m - (intOf i).toNat)
    case atStart => exact ⟨0, by omega, rfl, Kept.refl _ _⟩
    case round =>
      obtain ⟨j, hj, rfl, hK⟩ := hrel
      have HK := Lib.hid hK
      clear hK
      by_cases hlt : j < m
      · obtain ⟨⟨⟨k', x0', x1', x2', n0', n1', n2'⟩, sb⟩, hx⟩ : ∃ x, l[j]? = some x := ⟨_, List.getElem?_eq_getElem (by have := HL.out; omega)⟩
        have hs1 := stL_get l [] j _ hx
        rw [List.nil_append] at hs1
        have hs2 : (stL (l.take m) [])[j]? = some ((Sh.mk ⟨k', x0', x1', x2', n0', n1', n2'⟩ sb).st (l.take j)) := by rw [stL_take, List.getElem?_take_of_lt hlt]; exact hs1
        have hgt : Goes (l.take j ++ [.mk ⟨k', x0', x1', x2', n0', n1', n2'⟩ sb]) := by
          have := goes_take HG.out (j + 1)
          rw [List.take_add_one, hx] at this
          exact this
        have hright : ((Sh.mk ⟨k', x0', x1', x2', n0', n1', n2'⟩ sb).st (l.take j)).right = true := stL_right (ch := []) HG.out.2 (by have := HG.out.1; simp; omega) _ (List.mem_of_getElem? hs1)
        have hmass : ((Sh.mk ⟨k', x0', x1', x2', n0', n1', n2'⟩ sb).st (l.take j)).mass ≤ 5000 := by
          have := st_mass.1 (.mk ⟨k', x0', x1', x2', n0', n1', n2'⟩ sb) (l.take j)
          have := count_mem (List.mem_of_getElem? hx)
          have := HG.out.1
          omega
        have hljl : (l.take j).length = j := by rw [List.length_take]; have := HL.out; omega
        obtain ⟨g, q, a3, c3, rfl, _, hr3, hs3⟩ := (HH.out.keptN (KW.out.trans HK.out (fun _ _ g => g))).at_ hx
        have CP : Hid (∀ W, Kept Nil wr W → Calls Try.prog 16 #[.slice (some ⟨g, q, none⟩) j cap, vA ⟨k', x0', x1', x2', n0', n1', n2'⟩ (.slice a3 sb.length c3)] W (StEnd ((Sh.mk ⟨k', x0', x1', x2', n0', n1', n2'⟩ sb).st (l.take j)).hd ((Sh.mk ⟨k', x0', x1', x2', n0', n1', n2'⟩ sb).st (l.take j)).subs W)) := Lib.hid fun W kW => by
          have := stepP_any (l.take j) k' x0' x1' x2' n0' n1' n2' sb hgt _ _ (some ⟨g, q, none⟩) cap a3 c3 W (by rw [hljl]; exact (HH.out.first (by omega)).keptN ((KW.out.trans HK.out (fun _ _ g => g)).trans kW (fun _ _ g => g))) (hs3.keptN kW)
          rw [hljl] at this
          exact this
        unfold StEnd at CP
        generalize (Sh.mk ⟨k', x0', x1', x2', n0', n1', n2'⟩ sb).st (l.take j) = sj at CP hs1 hs2 hright hmass
        obtain ⟨⟨jk, jk0, jk1, jk2, jts⟩, jsb⟩ := sj
        replace CP : Hid (∀ W, Kept Nil wr W → Calls Try.prog 16 #[.slice (some ⟨g, q, none⟩) j cap, vA ⟨k', x0', x1', x2', n0', n1', n2'⟩ (.slice a3 sb.length c3)] W (fun e w' => ∃ ta tc a cap, e = .returned (vS ⟨jk, jk0, jk1, jk2, jts⟩ (.slice ta jts.length tc) (.slice a jsb.length cap)) ∧ TsAt w' (okM W.heap.size w') (.slice ta jts.length tc) jts ∧ SHolds w' (okM W.heap.size w') (.slice a jsb.length cap) jsb ∧ Kept Nil W w')) := CP
        have CS : Hid (∀ W ok ok' ta tc a cap ta' tc' a' cap', TsAt W ok (.slice ta jts.length tc) jts → SHolds W ok (.slice a jsb.length cap) jsb → TsAt W ok' (.slice ta' jts.length tc') jts → SHolds W ok' (.slice a' jsb.length cap') jsb → Calls Try.prog 24 #[vS ⟨jk, jk0, jk1, jk2, jts⟩ (.slice ta jts.length tc) (.slice a jsb.length cap), vS ⟨jk, jk0, jk1, jk2, jts⟩ (.slice ta' jts.length tc') (.slice a' jsb.length cap')] W fun e w' => e = .returned (.bool true) ∧ Kept Nil W w') := Lib.hid fun W ok ok' ta tc a cap ta' tc' a' cap' h1 h2 h3 h4 => by
          have := bigSameS_any (.mk ⟨jk, jk0, jk1, jk2, jts⟩ jsb) (.mk ⟨jk, jk0, jk1, jk2, jts⟩ jsb) hmass hmass hright hright ok ok' ta tc a cap ta' tc' a' cap' W h1 h2 h3 h4
          rw [sameS_refl.1] at this
          exact this
        obtain ⟨b1, o1, ta1, tc1, as1, cs1, rfl, _, hr1, ht1, hss1⟩ := (H7.out.keptN HK.out).at_ hs1
        obtain ⟨b2, o2, ta2, tc2, as2, cs2, rfl, _, hr2, ht2, hss2⟩ := (H8.out.keptN HK.out).at_ hs2
        have CS1 : Hid (∀ W, Kept Nil wr W → Calls Try.prog 24 #[vS ⟨jk, jk0, jk1, jk2, jts⟩ (.slice ta1 jts.length tc1) (.slice as1 jsb.length cs1), vS ⟨jk, jk0, jk1, jk2, jts⟩ (.slice ta2 jts.length tc2) (.slice as2 jsb.length cs2)] W fun e w' => e = .returned (.bool true) ∧ Kept Nil W w') := Lib.hid fun W kW => CS.out W _ _ _ _ _ _ _ _ _ _ (ht1.keptN kW) (hss1.keptN kW) (ht2.keptN kW) (hss2.keptN kW)
        have CS2 : Hid (∀ W, Kept Nil wr W → ∀ ok ta tc a cap, TsAt W ok (.slice ta jts.length tc) jts → SHolds W ok (.slice a jsb.length cap) jsb → Calls Try.prog 24 #[vS ⟨jk, jk0, jk1, jk2, jts⟩ (.slice ta jts.length tc) (.slice a jsb.length cap), vS ⟨jk, jk0, jk1, jk2, jts⟩ (.slice ta1 jts.length tc1) (.slice as1 jsb.length cs1)] W fun e w' => e = .returned (.bool true) ∧ Kept Nil W w') := Lib.hid fun W kW ok ta tc a cap h1 h2 => CS.out W _ _ _ _ _ _ _ _ _ _ h1 h2 (ht1.keptN kW) (hss1.keptN kW)
        have SQ := Lib.hid (seenHA_of (w0 := wr) (rangeAt_kept ((Kept.refl Nil wr).drew) id hr1) (rangeAt_kept ((Kept.refl Nil wr).drew) id hr2) (rangeAt_kept ((Kept.refl Nil wr).drew) id hr3) ((Kept.refl Nil wr).drew))
        clear hs1 hs2 hgt hright hmass hljl hr1 hr2 hr3 hs3 ht1 hss1 ht2 hss2 CS hx
        generalize jts.length = tn at *
        generalize jsb.length = sn at *
        generalize sb.length = sb3 at *
        have hj0 : (0 : Int) ≤ (j : Int) := by omega
        have hjm : (j : Int) < (m : Int) := by omega
        have hjl : (j : Int) < (len : Int) := by omega
        have hjc : (j : Int) ≤ (cap : Int) := by omega
        go_wp2_with fail
        go_region_held3 (SeenHA wr b1 (o1 + j * 6) (.int .i64 jk) (.int .i64 jk0) (.int .i64 jk1) (.int .i64 jk2) (.slice ta1 tn tc1) (.slice as1 sn cs1) b2 (o2 + j * 6) (.int .i64 jk) (.int .i64 jk0) (.int .i64 jk1) (.int .i64 jk2) (.slice ta2 tn tc2) (.slice as2 sn cs2) g (q + j * 8) (.int .i64 k') (.bool x0') (.int .i64 n0') (.bool x1') (.int .i64 n1') (.bool x2') (.int .i64 n2') (.slice a3 sb3 c3))
          (first | (with_reducible assumption) | (with_reducible exact SQ.out) | (with_reducible exact seenHA_kept k9 (by with_reducible assumption)) | (with_reducible exact seenHA_kept k10 (by with_reducible assumption)) | (with_reducible exact seenHA_kept k11 (by with_reducible assumption)))
          (first
            | (go_at_call 24; (with_reducible refine (CS1.out _ (seenHA_k (by with_reducible assumption))).mono ?_); rintro e w9 ⟨rfl, k9⟩)
            | (go_at_call 16; (with_reducible refine (CP.out _ (seenHA_k (by with_reducible assumption))).mono ?_); rintro e w10 ⟨ta5, tc5, as5, cs5, rfl, h10, g10, k10⟩)
            | (go_at_call 24; (with_reducible refine (CS2.out _ (seenHA_k (by with_reducible assumption)) _ _ _ _ _ h10 g10).mono ?_); rintro e w11 ⟨rfl, k11⟩))
        all_goals
          have HK2 := Lib.hid (seenHA_k (by with_reducible assumption))
          go_wp2_with fail
          go_roundw
          case rel => exact ⟨j + 1, by omega, by go_num, HK.out.trans HK2.out (fun _ _ g => g)⟩
          case measure => simp [intOf]; omega
      · obtain rfl : j = m := by omega
        go_wp2_with fail
        refine (HA.out _).mono ?_
        rintro e w9 ⟨rfl, k9⟩
        go_wp2_with fail
        go_ret
        exact ⟨rfl, KW.out.trans (HK.out.trans k9 (fun _ _ g => g)) (fun _ _ g => g)⟩
end Go.Proofs.Ytoceogbanlmnoaa
