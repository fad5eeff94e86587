/- Whatever two conditions come in, CondCopies returns true, and writes nothing that was there. No condition. -/
import Derived.Test.YtokpgpkdhcehbaaCSeen
import Derived.Test.YtokpgpkdhcehbaaCOpen
import Derived.Test.YtokpgpkdhcehbaaCSame
namespace Go.Proofs.Ytokpgpkdhcehbaa
open Go.RowKit Go.ChangeShapes Go.WideShapes Go.ChangeAt

theorem count_eq (s : Sh) : s.count = 1 + countL s.subs := by cases s; simp [Sh.count, Sh.subs]
set_option maxHeartbeats 8000000 in
theorem copiesLaw_any (s : Sh) (a : Option Addr) (cap : Nat) (t : Sh) (a' : Option Addr) (cap' : Nat) (w : World) (h : Holds cA w (fun b _ => b < w.heap.size) (.slice a s.subs.length cap) s.subs) (h' : Holds cA w (fun b _ => b < w.heap.size) (.slice a' t.subs.length cap') t.subs) :
    Calls Try.prog 5 #[vA s.hd (.slice a s.subs.length cap), vA t.hd (.slice a' t.subs.length cap')] w fun e w' => e = .returned (.bool true) ∧ Kept Nil w w' := by
  have HA := Lib.hid (fun W => awake_any W)
  have CSa := Lib.hid (fun w' (k : Kept Nil w w') => small60_any s _ a cap w' (h.keptN k) (fun b o hb => Nat.lt_of_lt_of_le hb k.size))
  have CSb := Lib.hid (fun w' (k : Kept Nil w w') => small60_any t _ a' cap' w' (h'.keptN k) (fun b o hb => Nat.lt_of_lt_of_le hb k.size))
  have CRa : Hid (∀ w', Holds cA w' (fun b _ => b < w.heap.size) (.slice a s.subs.length cap) s.subs → s.count ≤ 60 → Calls Try.prog 11 #[vA s.hd (.slice a s.subs.length cap)] w' fun e w'' => ∃ a' cap', e = .returned (vR s.hd (.slice a' s.subs.length cap')) ∧ Holds cR w'' (okM w'.heap.size w'') (.slice a' s.subs.length cap') s.subs ∧ Kept Nil w' w'') := Lib.hid fun w' hh hc =>
    refT_any s (by omega) _ a cap w' hh
  have CRb : Hid (∀ w', Kept Nil w w' → t.count ≤ 60 → Calls Try.prog 11 #[vA t.hd (.slice a' t.subs.length cap')] w' fun e w'' => ∃ a' cap', e = .returned (vR t.hd (.slice a' t.subs.length cap')) ∧ Holds cR w'' (okM w'.heap.size w'') (.slice a' t.subs.length cap') t.subs ∧ Kept Nil w' w'') := Lib.hid fun w' k hc =>
    refT_any t (by omega) _ a' cap' w' (h'.keptN k)
  have CRc : Hid (∀ w' ok ac cc, Holds cA w' ok (.slice ac s.subs.length cc) s.subs → s.count ≤ 60 → Calls Try.prog 11 #[vA s.hd (.slice ac s.subs.length cc)] w' fun e w'' => ∃ a' cap', e = .returned (vR s.hd (.slice a' s.subs.length cap')) ∧ Holds cR w'' (okM w'.heap.size w'') (.slice a' s.subs.length cap') s.subs ∧ Kept Nil w' w'') := Lib.hid fun w' ok ac cc hh hc =>
    refT_any s (by omega) ok ac cc w' hh
  have CKa : Hid (∀ w' ok a1 c1, s.count ≤ 60 → Holds cR w' ok (.slice a1 s.subs.length c1) s.subs → Calls Try.prog 10 #[vR s.hd (.slice a1 s.subs.length c1), .int .i64 1] w' fun e w'' => e = .returned (.int .i64 (s.chk 1)) ∧ Kept Nil w' w'') := Lib.hid fun w' ok a1 c1 hc hh =>
    refCheck_any s (by omega) ok a1 c1 w' 1 (by omega) hh
  have CKb : Hid (∀ w' ok a1 c1, t.count ≤ 60 → Holds cR w' ok (.slice a1 t.subs.length c1) t.subs → Calls Try.prog 10 #[vR t.hd (.slice a1 t.subs.length c1), .int .i64 1] w' fun e w'' => e = .returned (.int .i64 (t.chk 1)) ∧ Kept Nil w' w'') := Lib.hid fun w' ok a1 c1 hc hh =>
    refCheck_any t (by omega) ok a1 c1 w' 1 (by omega) hh
  have CSm : Hid (∀ w', Kept Nil w w' → s.count ≤ 60 → t.count ≤ 60 → s.chk 1 = 0 → t.chk 1 = 0 → Calls Try.prog 16 #[vA s.hd (.slice a s.subs.length cap), vA t.hd (.slice a' t.subs.length cap')] w' fun e w'' => e = .returned (.bool (s.same t)) ∧ Kept Nil w' w'') := Lib.hid fun w' k c1 c2 z1 z2 =>
    bigSame_any s t (by omega) (by omega) z1 z2 _ _ a cap a' cap' w' (h.keptN k) (h'.keptN k)
  have CSs : Hid (∀ w', Kept Nil w w' → s.count ≤ 60 → s.chk 1 = 0 → Calls Try.prog 16 #[vA s.hd (.slice a s.subs.length cap), vA s.hd (.slice a s.subs.length cap)] w' fun e w'' => e = .returned (.bool true) ∧ Kept Nil w' w'') := Lib.hid fun w' k c1 z1 => by
    have := bigSame_any s s (by omega) (by omega) z1 z1 _ _ a cap a cap w' (h.keptN k) (h.keptN k)
    rwa [same_refl.1 s] at this
  have CQm : Hid (∀ w' ok ok' a1 c1 a2 c2, s.count ≤ 60 → t.count ≤ 60 → Holds cR w' ok (.slice a1 s.subs.length c1) s.subs → Holds cR w' ok' (.slice a2 t.subs.length c2) t.subs → Calls Try.prog 17 #[vR s.hd (.slice a1 s.subs.length c1), vR t.hd (.slice a2 t.subs.length c2)] w' fun e w'' => e = .returned (.bool (s.same t)) ∧ Kept Nil w' w'') := Lib.hid fun w' ok ok' a1 c1 a2 c2 n1 n2 g1 g2 =>
    refSame_any s (by omega) t (by omega) ok ok' a1 c1 a2 c2 w' g1 g2
  have CQs : Hid (∀ w' ok ok' a1 c1 a2 c2, s.count ≤ 60 → Holds cR w' ok (.slice a1 s.subs.length c1) s.subs → Holds cR w' ok' (.slice a2 s.subs.length c2) s.subs → Calls Try.prog 17 #[vR s.hd (.slice a1 s.subs.length c1), vR s.hd (.slice a2 s.subs.length c2)] w' fun e w'' => e = .returned (.bool true) ∧ Kept Nil w' w'') := Lib.hid fun w' ok ok' a1 c1 a2 c2 n1 g1 g2 => by
    have := refSame_any s (by omega) s (by omega) ok ok' a1 c1 a2 c2 w' g1 g2
    rwa [same_refl.1 s] at this
  have CCp : Hid (∀ w', Kept Nil w w' → s.count ≤ 60 → s.chk 1 = 0 → Calls Try.prog 18 #[vA s.hd (.slice a s.subs.length cap)] w' fun e w'' => ∃ a' cap', e = .returned (vA s.hd (.slice a' s.subs.length cap')) ∧ Holds cA w'' (okM w'.heap.size w'') (.slice a' s.subs.length cap') s.subs ∧ Kept Nil w' w'') := Lib.hid fun w' k hc z =>
    bigCopy_any s (by omega) z _ a cap w' (h.keptN k)
  have HH := Lib.hid h
  have LS : Hid (∀ (B : Nat) (W : World) (v : Value), s.count ≤ 60 → Holds cA W (okM B W) v s.subs → Loose (fun b => B ≤ b ∧ b < W.heap.size) W 60 v) := Lib.hid fun B W v hc hh => hh.loose 60 (by have := count_eq s; omega) (by omega)
  clear h h'
  generalize s.chk 1 = qa at CKa CSm CSs CCp
  generalize t.chk 1 = qb at CKb CSm
  generalize s.same t = sm at CSm CQm
  generalize s.count = cnt at CSa CRa CRc CKa CSm CSs CQm CQs CCp LS
  generalize t.count = cnt' at CSb CRb CKb CSm CQm
  generalize s.subs = subs at CSa CRa CRc CKa CSm CSs CQm CQs CCp LS HH ⊢
  generalize t.subs = subs' at CSb CRb CKb CSm CQm ⊢
  obtain ⟨len, hlen⟩ : ∃ len, subs.length = len := ⟨_, rfl⟩
  obtain ⟨len', hlen'⟩ : ∃ len, subs'.length = len := ⟨_, rfl⟩
  rw [hlen] at CSa CRa CRc CKa CSm CSs CQm CQs CCp HH ⊢
  rw [hlen'] at CSb CRb CKb CSm CQm ⊢
  clear hlen hlen'
  generalize s.hd = hd at CSa CRa CRc CKa CSm CSs CQm CQs CCp ⊢
  generalize t.hd = hd' at CSb CRb CKb CSm CQm ⊢
  obtain ⟨k, x0, x1, x2, n0, n1, n2⟩ := hd
  obtain ⟨k', x0', x1', x2', n0', n1', n2'⟩ := hd'
  have T0 := Lib.hid (TwoB.start w 27 (arrA ⟨k, x0, x1, x2, n0, n1, n2⟩ (.slice a len cap)) (arrA ⟨k', x0', x1', x2', n0', n1', n2'⟩ (.slice a' len' cap')))
  go_enter Try.func5, Try.ntmps5
  go_wp2_with fail
  refine (CSa.out _ T0.out.kept).mono ?_
  rintro e w1 ⟨r, rfl, k1, hr⟩
  have T1 := Lib.hid (T0.out.step k1)
  have HR := Lib.hid hr
  clear k1 hr T0 CSa
  cases r
  · go_wp2_with fail
    refine (HA.out _).mono ?_
    rintro e w3 ⟨rfl, k3⟩
    go_wp2_with fail
    go_ret
    exact ⟨rfl, T1.out.kept.trans k3 (fun _ _ g => g)⟩
  have HCa := Lib.hid (HR.out rfl)
  clear HR
  go_wp2_with (refine wpList_load_AG rfl (.tmp 3) rfl _ _ rfl ⟨k', x0', x1', x2', n0', n1', n2'⟩ (.slice a' len' cap') (World.rangeAt_of_block T1.out.b1 0 8) ?_)
  refine (CSb.out _ T1.out.kept).mono ?_
  rintro e w2 ⟨r, rfl, k2, hr⟩
  have T2 := Lib.hid (T1.out.step k2)
  have HR := Lib.hid hr
  clear k2 hr T1 CSb
  cases r
  · go_wp2_with fail
    refine (HA.out _).mono ?_
    rintro e w3 ⟨rfl, k3⟩
    go_wp2_with fail
    go_ret
    exact ⟨rfl, T2.out.kept.trans k3 (fun _ _ g => g)⟩
  have HCb := Lib.hid (HR.out rfl)
  clear HR
  go_wp2_with (refine wpList_load_AG rfl (.tmp 2) rfl _ _ rfl ⟨k, x0, x1, x2, n0, n1, n2⟩ (.slice a len cap) (World.rangeAt_of_block T2.out.b0 0 8) ?_)
  refine (CRa.out _ (HH.out.keptN T2.out.kept) HCa.out).mono ?_
  rintro e w3 ⟨a3, c3, rfl, h3, k3⟩
  have T3 := Lib.hid (T2.out.step k3)
  have H3 := Lib.hid h3
  clear k3 h3 T2
  go_wp2_with fail
  refine (CKa.out _ _ _ _ HCa.out H3.out).mono ?_
  rintro e w4 ⟨rfl, k4⟩
  have T4 := Lib.hid (T3.out.step k4)
  clear k4 T3 H3 CKa
  by_cases hqa : qa = 0
  rotate_left
  · have hqa' : (qa == 0) = false := by simpa using hqa
    go_wp2_with fail
    refine (HA.out _).mono ?_
    rintro e w3 ⟨rfl, k3⟩
    go_wp2_with fail
    go_ret
    exact ⟨rfl, T4.out.kept.trans k3 (fun _ _ g => g)⟩
  subst hqa
  go_wp2_with (refine wpList_load_AG rfl (.tmp 3) rfl _ _ rfl ⟨k', x0', x1', x2', n0', n1', n2'⟩ (.slice a' len' cap') (World.rangeAt_of_block T4.out.b1 0 8) ?_)
  refine (CRb.out _ T4.out.kept HCb.out).mono ?_
  rintro e w5 ⟨a5, c5, rfl, h5, k5⟩
  have T5 := Lib.hid (T4.out.step k5)
  have H5 := Lib.hid h5
  clear k5 h5 T4
  go_wp2_with fail
  refine (CKb.out _ _ _ _ HCb.out H5.out).mono ?_
  rintro e w6 ⟨rfl, k6⟩
  have T6 := Lib.hid (T5.out.step k6)
  clear k6 T5 H5 CKb
  by_cases hqb : qb = 0
  rotate_left
  · have hqb' : (qb == 0) = false := by simpa using hqb
    go_wp2_with fail
    refine (HA.out _).mono ?_
    rintro e w3 ⟨rfl, k3⟩
    go_wp2_with fail
    go_ret
    exact ⟨rfl, T6.out.kept.trans k3 (fun _ _ g => g)⟩
  subst hqb
  go_upto_region 3 with fail
  have CSm2 := Lib.hid (fun w' k => CSm.out w' k HCa.out HCb.out (by simp) (by simp))
  have CSs2 := Lib.hid (fun w' k => CSs.out w' k HCa.out (by simp))
  have CQm2 := Lib.hid (fun w' ok ok' a1 c1 a2 c2 => CQm.out w' ok ok' a1 c1 a2 c2 HCa.out HCb.out)
  have CQs2 := Lib.hid (fun w' ok ok' a1 c1 a2 c2 => CQs.out w' ok ok' a1 c1 a2 c2 HCa.out)
  have CRa2 := Lib.hid (fun w' hh => CRa.out w' hh HCa.out)
  have CRb2 := Lib.hid (fun w' kk => CRb.out w' kk HCb.out)
  have CRc2 := Lib.hid (fun w' ok ac cc hh => CRc.out w' ok ac cc hh HCa.out)
  have CCp2 := Lib.hid (fun w' kk => CCp.out w' kk HCa.out (by simp))
  have LS2 := Lib.hid (fun B W v hh => LS.out B W v HCa.out hh)
  clear CSm CSs CQm CQs CRa CRb CRc CCp LS HCa HCb
  have S0 := Lib.hid (seenAA_of (w0 := w6) T6.out.b0.drew T6.out.b1.drew (Kept.refl Nil w6).drew)
  have TS := Lib.hid (fun w' (kk : Kept Nil w6 w') => T6.out.step kk)
  have KK := Lib.hid (fun w' (kk : Kept Nil w6 w') => (T6.out.step kk).kept)
  go_cut [42] from 28 to 42 (fun c wx => c = .bool false ∧ TwoB w 27 (arrA ⟨k, x0, x1, x2, n0, n1, n2⟩ (.slice a len cap)) (arrA ⟨k', x0', x1', x2', n0', n1', n2'⟩ (.slice a' len' cap')) wx)
  case first =>
    go_region_held3 (SeenAA w6 w.heap.size ⟨k, x0, x1, x2, n0, n1, n2⟩ (.slice a len cap) (w.heap.size + 1) ⟨k', x0', x1', x2', n0', n1', n2'⟩ (.slice a' len' cap'))
      (first | (with_reducible assumption) | (with_reducible exact S0.out) | (with_reducible exact seenAA_kept k14 (by with_reducible assumption)) | (with_reducible exact seenAA_kept k13 (by with_reducible assumption)) | (with_reducible exact seenAA_kept k12 (by with_reducible assumption)) | (with_reducible exact seenAA_kept k11 (by with_reducible assumption)) | (with_reducible exact seenAA_kept k10 (by with_reducible assumption)))
      (first
        | (go_at_call 16; (with_reducible refine (CSm2.out _ (KK.out _ (seenAA_k (by with_reducible assumption)))).mono ?_); rintro e w10 ⟨rfl, k10⟩; (first | (have h11 := h11.keptN k10) | skip); (first | (have h12 := h12.keptN k10) | skip))
        | (go_at_call 11; (with_reducible refine (CRa2.out _ (HH.out.keptN (KK.out _ (seenAA_k (by with_reducible assumption))))).mono ?_); rintro e w11 ⟨a11, c11, rfl, h11, k11⟩; (first | (have h12 := h12.keptN k11) | skip))
        | (go_at_call 11; (with_reducible refine (CRb2.out _ (KK.out _ (seenAA_k (by with_reducible assumption)))).mono ?_); rintro e w12 ⟨a12, c12, rfl, h12, k12⟩; (first | (have h11 := h11.keptN k12) | skip))
        | (go_at_call 17; (with_reducible refine (CQm2.out _ _ _ _ _ _ _ h11 h12).mono ?_); rintro e w13 ⟨rfl, k13⟩)
        | (go_at_call 16; (with_reducible refine (CSs2.out _ (KK.out _ (seenAA_k (by with_reducible assumption)))).mono ?_); rintro e w14 ⟨rfl, k14⟩))
    all_goals
      have HT := Lib.hid (TS.out _ (seenAA_k (by with_reducible assumption)))
      go_wp2_with fail
      go_meet
      exact ⟨rfl, HT.out⟩
  case rest =>
    obtain ⟨rfl, T7⟩ := hcut
    have HT := Lib.hid T7
    clear T7 S0 TS KK T6 CSm2 CSs2 CQm2 CRb2
    go_wp2_with (refine wpList_load_AG rfl (.tmp 2) rfl _ _ rfl ⟨k, x0, x1, x2, n0, n1, n2⟩ (.slice a len cap) (World.rangeAt_of_block HT.out.b0 0 8) ?_)
    refine (CRa2.out _ (HH.out.keptN HT.out.kept)).mono ?_
    rintro e w8 ⟨a8, c8, rfl, h8, k8⟩
    have T8 := Lib.hid ((HT.out.step k8).step ((Kept.refl Nil w8).alloc (.cells (arrR ⟨k, x0, x1, x2, n0, n1, n2⟩ (.slice a8 len c8)) 38)))
    have B8 := Lib.hid (Blk.new w8 38 (arrR ⟨k, x0, x1, x2, n0, n1, n2⟩ (.slice a8 len c8)))
    have H8 := Lib.hid (h8.keptN ((Kept.refl Nil w8).alloc (.cells (arrR ⟨k, x0, x1, x2, n0, n1, n2⟩ (.slice a8 len c8)) 38)))
    clear k8 h8 HT
    go_wp2_with (refine wpList_load_AG rfl (.tmp 2) rfl _ _ rfl ⟨k, x0, x1, x2, n0, n1, n2⟩ (.slice a len cap) (World.rangeAt_of_block T8.out.b0 0 8) ?_)
    refine (CCp2.out _ T8.out.kept).mono ?_
    rintro e w9 ⟨a9, c9, rfl, h9, k9⟩
    obtain ⟨N8, hN8⟩ : ∃ N8, N8 = w8.heap.size + 1 := ⟨_, rfl⟩
    have h9' : Holds cA w9 (okM N8 w9) (.slice a9 len c9) subs := h9.mono (fun b o hb => hb.less (by rw [hN8]; simp))
    have hlo := LS2.out N8 w9 _ h9'
    have SP := Lib.hid (fun W (kk : Kept Nil w9 W) => spoil_any (fun b => N8 ≤ b ∧ b < w9.heap.size) w9.heap.size (fun b hb => hb.2) 60 ⟨k, x0, x1, x2, n0, n1, n2⟩ (.slice a9 len c9) W kk.size (hlo.kept kk (fun b hb => hb.2) (fun _ _ g => g)))
    have T9 := Lib.hid (T8.out.step k9)
    have B9 := Lib.hid ((B8.out).kept k9 id)
    have H9 := Lib.hid h9'
    have HW9' := H8.out.keptN k9
    have HW9 := Lib.hid HW9'
    have hX5 : w8.heap.size < w9.heap.size := B9.out.lt
    have BC := Lib.hid (Blk.new w9 27 (arrA ⟨k, x0, x1, x2, n0, n1, n2⟩ (.slice a9 len c9)))
    have KC := Lib.hid ((Kept.refl Nil w9).alloc (.cells (arrA ⟨k, x0, x1, x2, n0, n1, n2⟩ (.slice a9 len c9)) 27))
    have hwN : w.heap.size < N8 := by
      have := T8.out.b0.lt
      simp at this
      omega
    have hH8 : ∀ W, Kept (fun b => N8 ≤ b ∧ b < w9.heap.size) w9 W → Holds cR W _ (.slice a8 len c8) subs := fun W kk => HW9'.kept kk (fun b o hb e => by have := hb.2.1; have := e.1; omega)
    have HH8 := Lib.hid hH8
    have HN8 := Lib.hid hN8
    clear k9 h9 h9' hlo hN8 T8 B8 H8 LS2 CCp2 hH8 HW9'
    go_wp2_with fail
    obtain ⟨w10, hw10⟩ : ∃ W, w9.alloc (.cells (arrA ⟨k, x0, x1, x2, n0, n1, n2⟩ (.slice a9 len c9)) 27) = W := ⟨_, rfl⟩
    have B10 := Lib.hid (B9.out.kept KC.out id)
    rw [hw10] at BC KC B10
    rw [show w9.alloc (.cells #[.int .i64 k, .bool x0, .int .i64 n0, .bool x1, .int .i64 n1, .bool x2, .int .i64 n2, .slice a9 len c9] 27) = w10 from hw10]
    clear hw10
    have S1 := Lib.hid (seenAR_of (w0 := w10) BC.out.drew B10.out.drew (Kept.refl Nil w10).drew)
    go_region_held3 (SeenAR w10 w9.heap.size ⟨k, x0, x1, x2, n0, n1, n2⟩ (.slice a9 len c9) w8.heap.size ⟨k, x0, x1, x2, n0, n1, n2⟩ (.slice a8 len c8))
      (first | (with_reducible assumption) | (with_reducible exact S1.out) | (with_reducible exact seenAR_kept k11 (by with_reducible assumption)) | (with_reducible exact seenAR_kept k12 (by with_reducible assumption)))
      (first
        | (go_at_call 11; (with_reducible refine (CRc2.out _ _ _ _ (H9.out.keptN (KC.out.trans (seenAR_k (by with_reducible assumption)) (fun _ _ g => g)))).mono ?_); rintro e w11 ⟨a11, c11, rfl, h11, k11⟩)
        | (go_at_call 17; (with_reducible refine (CQs2.out _ _ _ _ _ _ _ h11 (HW9.out.keptN (KC.out.trans (seenAR_k (by with_reducible assumption)) (fun _ _ g => g)))).mono ?_); rintro e w12 ⟨rfl, k12⟩))
    have K12 := Lib.hid (KC.out.trans (seenAR_k (by with_reducible assumption)) (fun _ _ g => g))
    have k1012 : Kept Nil w10 w12 := seenAR_k (by with_reducible assumption)
    have BC12 := Lib.hid (BC.out.kept k1012 id)
    have k1012' := k1012
    clear k11 k12 h11 k1012
    go_wp2_with ((with_reducible refine wpList_load_A rfl (.tmp 6) rfl _ _ rfl ⟨k, x0, x1, x2, n0, n1, n2⟩ (.slice a9 len c9) ?_ ?_)
                 · exact World.rangeAt_of_block BC12.out 0 8)
    refine (SP.out _ K12.out).mono ?_
    rintro e w13 ⟨rfl, k13, -⟩
    have T12 := T9.out.step K12.out
    have hnB : ¬ (N8 ≤ w.heap.size ∧ w.heap.size < w9.heap.size) := by omega
    have K13 := Lib.hid (T12.kept.trans k13 (fun i hi e => by have := e.1; omega))
    have B013 := Lib.hid (T12.b0.kept k13 hnB)
    have B813 := Lib.hid ((B10.out.kept k1012' id).kept k13 (show ¬ (N8 ≤ w8.heap.size ∧ w8.heap.size < w9.heap.size) by have := HN8.out; omega))
    have H813 := Lib.hid (HH8.out w13 ((K12.out.mono (fun _ _ g => g.elim)).trans k13 (fun _ _ g => g)))
    clear T12 k13 k1012'
    go_wp2_with fail
    have S2 := Lib.hid (seenAR_of (w0 := w13) B013.out.drew B813.out.drew (Kept.refl Nil w13).drew)
    go_region_held3 (SeenAR w13 w.heap.size ⟨k, x0, x1, x2, n0, n1, n2⟩ (.slice a len cap) w8.heap.size ⟨k, x0, x1, x2, n0, n1, n2⟩ (.slice a8 len c8))
      (first | (with_reducible assumption) | (with_reducible exact S2.out) | (with_reducible exact seenAR_kept k14 (by with_reducible assumption)) | (with_reducible exact seenAR_kept k15 (by with_reducible assumption)) | (with_reducible exact seenAR_kept k16 (by with_reducible assumption)))
      (first
        | (go_at_call 11; (with_reducible refine (CRa2.out _ (HH.out.keptN (K13.out.trans (seenAR_k (by with_reducible assumption)) (fun _ _ g => g)))).mono ?_); rintro e w14 ⟨a14, c14, rfl, h14, k14⟩)
        | (go_at_call 17; (with_reducible refine (CQs2.out _ _ _ _ _ _ _ h14 (H813.out.keptN (seenAR_k (by with_reducible assumption)))).mono ?_); rintro e w15 ⟨rfl, k15⟩)
        | (go_at_call 8; refine (HA.out _).mono ?_; rintro e w16 ⟨rfl, k16⟩))
    have K16 := Lib.hid (K13.out.trans (seenAR_k (by with_reducible assumption)) (fun _ _ g => g))
    go_wp2_with fail
    go_ret
    exact ⟨rfl, K16.out⟩

set_option maxRecDepth 100000 in
theorem condCopies_lifted (os : Os) (started : os.Started) (H : Type) (enc : TypeId × Value → H) :
    ReturnsInHanded {} Try.checked os 5 .any (Rows.condCopiesSpec.pre6 enc Try.prog Try.f5 Rows.condCopiesRow.domain false) (Rows.condCopiesSpec.post enc Try.prog Try.f5 false true false false) := by
  refine returnsInHanded_of_change (C := Try.checked) own started (by kernel_rfl) Try.func5
    (ChangeSpec.witness6 (enc := enc) (C := Try.checked) false ⟨#[], #[(vA ⟨0, false, false, false, 0, 0, 0⟩ (.slice none 0 0) : Value), (vA ⟨0, false, false, false, 0, 0, 0⟩ (.slice none 0 0) : Value)], []⟩ 8 (by kernel_rfl) (by kernel_rfl) (by kernel_rfl) (by kernel_rfl)) ?_
  intro W base args ds gs before hval0 hW hcnd _
  have hval : ∀ (j : Nat) t v, Try.f5.params[j]? = some t → args[j]? = some v → Value.okWide Try.prog W .any base t v := hval0
  have hW' := hW
  obtain ⟨p, q, hA0, hV, rfl, hfz, hnd⟩ := hW
  have hA : DataW.TrodAll enc Try.prog W 0 (fun _ => true) true Try.f5.params.toList args.toList ds p := hA0
  rw [Try.params5] at hA hval
  obtain ⟨v0, vs0, d0, ds0, p0, q0, hargs, rfl, rfl, h0, r0⟩ := trodAll_cons hA
  obtain ⟨v1, vs1, d1, ds1, p1, q1, rfl, rfl, rfl, h1, r1⟩ := trodAll_cons r0
  obtain ⟨rfl, rfl, rfl⟩ := trodAll_nil r1
  obtain rfl : args = #[v0, v1] := by cases args; simp_all
  obtain ⟨rfl, rfl⟩ := trodVars_none hV
  have lt0 : ∀ x ∈ p0, x.block < W.heap.size := by obtain ⟨m, hm⟩ := h0; exact DataW.trod_lt m _ _ _ hm
  have g0 := h0
  obtain ⟨s0, a0, c0, rfl, hh0⟩ := open_C (hval 0 27 v0 rfl rfl) g0
  have lt1 : ∀ x ∈ p1, x.block < W.heap.size := by obtain ⟨m, hm⟩ := h1; exact DataW.trod_lt m _ _ _ hm
  have g1 := h1
  obtain ⟨s1, a1, c1, rfl, hh1⟩ := open_C (hval 1 27 v1 rfl rfl) g1
  refine (copiesLaw_any s0 a0 c0 s1 a1 c1 W hh0 hh1).mono fun e W' ⟨he, hk⟩ => ?_
  subst he
  exact ⟨_, rfl, _, _, _, [], _, [], hW', trodAll_mk1 (shut_bool Try.underlying4 _), trodAll_cons_mk (Below.trod laidOut (by kernel_rfl) (of_decide_eq_true (by kernel_rfl)) h0 hk.toBelow lt0) (trodAll_cons_mk (Below.trod laidOut (by kernel_rfl) (of_decide_eq_true (by kernel_rfl)) h1 hk.toBelow lt1) (trodAll_mk0)), rfl, hk.toBelow.frame _, fun h => by cases h⟩

theorem condCopies_holds : Rows.CondCopiesSaid :=
  OpenClaim.holds_of_wide 5 Try.f5 rfl rfl rfl rfl rfl rfl rfl ⟨rfl, rfl, rfl, rfl, rfl⟩ rfl rfl rfl rfl rfl (by kernel_rfl) Try.func5 (by kernel_rfl)
    (of_decide_eq_true (by kernel_rfl)) (by unfold Func.isWrapper; first | (rw [if_neg (of_decide_eq_false (by kernel_rfl))]; exact ⟨rfl, rfl⟩) | (rw [if_pos (by decide +kernel)]; kernel_rfl))
    (fun os started H enc _ => condCopies_lifted os started H enc)
#print axioms condCopies_holds
end Go.Proofs.Ytokpgpkdhcehbaa
