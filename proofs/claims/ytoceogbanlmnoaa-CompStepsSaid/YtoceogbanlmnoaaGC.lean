/- Layer comp: slices.Equal of tests. – Layer comp: same and Same, of the program. -/
import Derived.Test.YtoceogbanlmnoaaGB
namespace Go.Proofs.Ytoceogbanlmnoaa
section
open Go.RowKit
set_option maxRecDepth 100000

set_option maxHeartbeats 2000000 in
theorem testsEqual_any (ts us : List Tst) (hl1 : ts.length ≤ 5000) (hl2 : us.length ≤ 5000) (ok ok' : Nat → Nat → Prop) (a a' : Option Addr) (cap cap' : Nat) (w : World) (h : TsAt w ok (.slice a ts.length cap) ts) (h' : TsAt w ok' (.slice a' us.length cap') us) :
    Calls Try.prog 60 #[.slice a ts.length cap, .slice a' us.length cap'] w fun e w' => e = .returned (.bool (eqTs ts us)) ∧ Kept Nil w w' := by
  obtain ⟨len, hlen⟩ : ∃ n, ts.length = n := ⟨_, rfl⟩
  obtain ⟨len', hlen'⟩ : ∃ n, us.length = n := ⟨_, rfl⟩
  have HH := Lib.hid h
  have HH' := Lib.hid h'
  rw [hlen] at HH hl1 ⊢
  rw [hlen'] at HH' hl2 ⊢
  have HL := Lib.hid hlen
  have HL' := Lib.hid hlen'
  clear h h' hlen hlen'
  by_cases hl : len = len'
  · subst hl
    go_enter Try.func60, Try.ntmps60
    go_wp2_with fail
    go_loopw [5, 13] (fun _ i wr => ∃ j : Nat, j ≤ len ∧ i = .int .i64 j ∧ eqTs ts us = eqTs (ts.drop j) (us.drop j) ∧ Kept Nil w wr) (fun _ i _ => len - (intOf i).toNat)
    case atStart => exact ⟨0, by omega, rfl, rfl, Kept.refl _ _⟩
    case round =>
      obtain ⟨j, hj, rfl, hch, hK⟩ := hrel
      have HK := Lib.hid hK
      have HCh := Lib.hid hch
      clear hK hch
      by_cases hlt : j < len
      · obtain ⟨⟨t0, t1, t2⟩, hx⟩ : ∃ x, ts[j]? = some x := ⟨_, List.getElem?_eq_getElem (by have := HL.out; omega)⟩
        obtain ⟨⟨u0, u1, u2⟩, hx'⟩ : ∃ x, us[j]? = some x := ⟨_, List.getElem?_eq_getElem (by have := HL'.out; omega)⟩
        obtain ⟨b, o, rfl, _, hr⟩ := (HH.out.keptN HK.out).at_ hx
        obtain ⟨b', o', rfl, _, hr'⟩ := (HH'.out.keptN HK.out).at_ hx'
        have p0 : wr.cell? ⟨b, o + j * 3, none⟩ = some (.int .i64 t0) := hr 0 _ rfl
        have p1 : wr.cell? ⟨b, o + j * 3 + 1, none⟩ = some (.int .i64 t1) := hr 1 _ rfl
        have p2 : wr.cell? ⟨b, o + j * 3 + 2, none⟩ = some (.int .i64 t2) := hr 2 _ rfl
        have q0 : wr.cell? ⟨b', o' + j * 3, none⟩ = some (.int .i64 u0) := hr' 0 _ rfl
        have q1 : wr.cell? ⟨b', o' + j * 3 + 1, none⟩ = some (.int .i64 u1) := hr' 1 _ rfl
        have q2 : wr.cell? ⟨b', o' + j * 3 + 2, none⟩ = some (.int .i64 u2) := hr' 2 _ rfl
        have HN := Lib.hid (eqTs_drop hx hx')
        have hq : ∀ W, (Op.equalIn 10000 74 (.agg #[.int .i64 t0, .int .i64 t1, .int .i64 t2]) (.agg #[.int .i64 u0, .int .i64 u1, .int .i64 u2])).run Try.prog W = .ok (decide ((t0, t1, t2) = (u0, u1, u2))) W := fun W => by
          rw [eqTest]; congr 1; rw [Bool.eq_iff_iff, decide_eq_true_iff, decide_eq_true_iff]; simp
        generalize decide ((t0, t1, t2) = (u0, u1, u2)) = q at hq HN
        clear hx hx' hr hr'
        have hj0 : (0 : Int) ≤ (j : Int) := by omega
        have hjl : (j : Int) < (len : Int) := by omega
        cases q
        · go_wp2_with fail
          go_quiet (fail)
          go_wp2_with fail
          go_ret
          exact ⟨ret_bool (by rw [HCh.out, HN.out]; rfl), HK.out.drewN _⟩
        · go_wp2_with fail
          go_quiet (fail)
          go_wp2_with fail
          go_roundw
          case rel => exact ⟨j + 1, by omega, by go_num, by rw [HCh.out, HN.out]; rfl, HK.out.drewN _⟩
          case measure => simp [intOf]; omega
      · obtain rfl : j = len := by omega
        have HE : Hid (eqTs (ts.drop j) (us.drop j) = true) := Lib.hid (by rw [List.drop_eq_nil_of_le (by have := HL.out; omega), List.drop_eq_nil_of_le (by have := HL'.out; omega)]; rfl)
        go_wp2_with fail
        go_ret
        exact ⟨ret_bool (by rw [HCh.out, HE.out]), HK.out⟩
  · have HV2 : Hid (eqTs ts us = false) := Lib.hid (eqTs_ne (by have := HL.out; have := HL'.out; omega))
    have hl' : ((len : Int) != (len' : Int)) = true := by simp; omega
    go_enter Try.func60, Try.ntmps60
    go_wp2_with fail
    go_ret
    exact ⟨ret_bool (by rw [HV2.out]), Kept.refl _ _⟩
end
section
open Go.RowKit
set_option maxRecDepth 100000

/-- What came in, boxed: two of a kind. -/
structure TwoS (w : World) (t : TypeId) (x y : Array Value) (W : World) : Prop where
  kept : Kept Nil w W
  b0 : Blk W w.heap.size t x
  b1 : Blk W (w.heap.size + 1) t y
theorem TwoS.start (w : World) (t : TypeId) (x y : Array Value) : TwoS w t x y ((w.alloc (.cells x t)).alloc (.cells y t)) := by
  refine ⟨((Kept.refl Nil w).alloc _).alloc _, (Blk.new w _ _).alloc _, ?_⟩
  have := Blk.new (w.alloc (.cells x t)) t y
  simpa using this
theorem TwoS.step {w : World} {t : TypeId} {x y : Array Value} {W W' : World} (r : TwoS w t x y W) (k : Kept Nil W W') : TwoS w t x y W' := ⟨r.kept.trans k (fun _ _ g => g), r.b0.kept k id, r.b1.kept k id⟩
abbrev SameSIH (subs : List St) : Prop := ∀ hd sb, St.mk hd sb ∈ subs → ∀ hd' sb' ok ok' ta tc a cap ta' tc' a' cap' w, (St.mk hd' sb').mass ≤ 5000 → TsAt w ok (.slice ta hd.ts.length tc) hd.ts → SHolds w ok (.slice a sb.length cap) sb → TsAt w ok' (.slice ta' hd'.ts.length tc') hd'.ts → SHolds w ok' (.slice a' sb'.length cap') sb' →
  Calls Try.prog 42 #[vS hd (.slice ta hd.ts.length tc) (.slice a sb.length cap), vS hd' (.slice ta' hd'.ts.length tc') (.slice a' sb'.length cap')] w fun e w' => e = .returned (.bool ((St.mk hd sb).same (.mk hd' sb'))) ∧ Kept Nil w w'
set_option maxHeartbeats 2000000 in
theorem equalFuncS_step (subs : List St) (len : Nat) (HL : Hid (subs.length = len)) (hLen : len ≤ 5000) (IH : Hid (SameSIH subs))
    (ok ok' : Nat → Nat → Prop) (a : Option Addr) (cap : Nat) (w : World) (HH : Hid (SHolds w ok (.slice a len cap) subs))
    (subs' : List St) (len' : Nat) (HL' : Hid (subs'.length = len')) (hLen' : len' ≤ 5000) (HC' : Hid (∀ y ∈ subs', y.mass ≤ 5000)) (a' : Option Addr) (cap' : Nat) (HH' : Hid (SHolds w ok' (.slice a' len' cap') subs')) :
    Calls Try.prog 61 #[.slice a len cap, .slice a' len' cap', .func (.func 42) #[] #[]] w fun e w' => e = .returned (.bool (sameSL subs subs')) ∧ Kept Nil w w' := by
  by_cases hl : len = len'
  · subst hl
    go_enter Try.func61, Try.ntmps61
    go_wp2_with fail
    go_loopw [17] (fun i wr => ∃ j : Nat, j ≤ len ∧ i = .int .i64 j ∧ sameSL subs subs' = sameSL (subs.drop j) (subs'.drop j) ∧ Kept Nil w wr) (fun i _ => len - (intOf i).toNat)
    case atStart => exact ⟨0, by omega, rfl, rfl, Kept.refl _ _⟩
    case round =>
      obtain ⟨j, hj, rfl, hch, hK⟩ := hrel
      have HK := Lib.hid hK
      have HCh := Lib.hid hch
      clear hK hch
      by_cases hlt : j < len
      · obtain ⟨⟨⟨k1, x0, x1, x2, ts⟩, sb⟩, hx⟩ : ∃ x, subs[j]? = some x := ⟨_, List.getElem?_eq_getElem (by have := HL.out; omega)⟩
        obtain ⟨⟨⟨k2, y0, y1, y2, us⟩, sb'⟩, hx'⟩ : ∃ x, subs'[j]? = some x := ⟨_, List.getElem?_eq_getElem (by have := HL'.out; omega)⟩
        obtain ⟨b, o, t1, d1, a1, c1, rfl, _, hr, ht, hs⟩ := (HH.out.keptN HK.out).at_ hx
        obtain ⟨b', o', t2, d2, a2, c2, rfl, _, hr', ht', hs'⟩ := (HH'.out.keptN HK.out).at_ hx'
        have hc' : (St.mk ⟨k2, y0, y1, y2, us⟩ sb').mass ≤ 5000 := HC'.out _ (List.mem_of_getElem? hx')
        have HX : Hid (∀ W, Kept Nil wr W → Calls Try.prog 42 #[vS ⟨k1, x0, x1, x2, ts⟩ (.slice t1 ts.length d1) (.slice a1 sb.length c1), vS ⟨k2, y0, y1, y2, us⟩ (.slice t2 us.length d2) (.slice a2 sb'.length c2)] W fun e w' => e = .returned (.bool ((St.mk ⟨k1, x0, x1, x2, ts⟩ sb).same (.mk ⟨k2, y0, y1, y2, us⟩ sb'))) ∧ Kept Nil W w') := Lib.hid fun W kW =>
          IH.out _ _ (List.mem_of_getElem? hx) _ sb' ok ok' t1 d1 a1 c1 t2 d2 a2 c2 W hc' (ht.keptN kW) (hs.keptN kW) (ht'.keptN kW) (hs'.keptN kW)
        have HN := Lib.hid (sameSL_drop hx hx')
        have HR : Hid (wr.rangeAt b (o + j * 6) (cS ⟨k1, x0, x1, x2, ts⟩ (.slice t1 ts.length d1) (.slice a1 sb.length c1))) := Lib.hid hr
        have HR' : Hid (wr.rangeAt b' (o' + j * 6) (cS ⟨k2, y0, y1, y2, us⟩ (.slice t2 us.length d2) (.slice a2 sb'.length c2))) := Lib.hid hr'
        generalize (St.mk ⟨k1, x0, x1, x2, ts⟩ sb).same (.mk ⟨k2, y0, y1, y2, us⟩ sb') = q at HX HN
        clear hx hx' hs hs' ht ht' hr hr' hc'
        generalize ts.length = n1 at HR HX
        generalize us.length = n2 at HR' HX
        generalize sb.length = l1 at HR HX
        generalize sb'.length = l2 at HR' HX
        go_wp2_with (first
          | ((with_reducible refine wpList_load_S rfl (.tmp 20) rfl _ _ rfl ⟨k1, x0, x1, x2, ts⟩ (.slice t1 n1 d1) (.slice a1 l1 c1) ?_ ?_)
             · exact HR.out)
          | ((with_reducible refine wpList_load_S rfl (.tmp 24) rfl _ _ rfl ⟨k2, y0, y1, y2, us⟩ (.slice t2 n2 d2) (.slice a2 l2 c2) ?_ ?_)
             · exact World.rangeAt_alloc HR'.out _))
        refine (HX.out _ (((Kept.refl Nil wr).alloc _).alloc _)).mono ?_
        rintro e w9 ⟨rfl, k9⟩
        have K9 := Lib.hid (((HK.out.alloc _).alloc _).trans k9 (fun _ _ g => g))
        clear k9
        cases q
        · go_wp2_with fail
          go_ret
          exact ⟨by rw [HCh.out, HN.out]; rfl, K9.out⟩
        · go_wp2_with fail
          go_roundw
          case rel => exact ⟨j + 1, by omega, by go_num, by rw [HCh.out, HN.out]; simp, K9.out⟩
          case measure => simp [intOf]; omega
      · obtain rfl : j = len := by omega
        have HE : Hid (sameSL (subs.drop j) (subs'.drop j) = true) := Lib.hid (by rw [show subs.drop j = [] from List.drop_eq_nil_of_le (by have := HL.out; omega), show subs'.drop j = [] from List.drop_eq_nil_of_le (by have := HL'.out; omega)]; rfl)
        go_wp2_with fail
        go_ret
        exact ⟨by rw [HCh.out, HE.out]; rfl, HK.out⟩
  · have HV2 : Hid (sameSL subs subs' = false) := Lib.hid (sameSL_ne (by have := HL.out; have := HL'.out; omega))
    have hl' : ((len : Int) != (len' : Int)) = true := by simp; omega
    go_enter Try.func61, Try.ntmps61
    go_wp2_with fail
    go_ret
    exact ⟨by rw [HV2.out]; rfl, Kept.refl _ _⟩
theorem SH.same_eq (k x0 x1 x2 k' y0 y1 y2 : Int) (ts us : List Tst) : (⟨k, x0, x1, x2, ts⟩ : SH).same ⟨k', y0, y1, y2, us⟩ = (decide (k = k') && (decide (x0 = y0 ∧ x1 = y1 ∧ x2 = y2) && eqTs ts us)) := by
  unfold SH.same
  rw [← eqTs_decide]
set_option maxHeartbeats 2000000 in
theorem sameS_step (k x0 x1 x2 : Int) (ts : List Tst) (subs : List St) (htl : ts.length ≤ 5000) (hLen : subs.length ≤ 5000) (IH : Hid (SameSIH subs))
    (ok ok' : Nat → Nat → Prop) (ta : Option Addr) (tc : Nat) (a : Option Addr) (cap : Nat) (w : World) (ht : TsAt w ok (.slice ta ts.length tc) ts) (h : SHolds w ok (.slice a subs.length cap) subs)
    (k' y0 y1 y2 : Int) (us : List Tst) (subs' : List St) (hul : us.length ≤ 5000) (hLen' : subs'.length ≤ 5000) (hC' : ∀ y ∈ subs', y.mass ≤ 5000) (ta' : Option Addr) (tc' : Nat) (a' : Option Addr) (cap' : Nat) (ht' : TsAt w ok' (.slice ta' us.length tc') us) (h' : SHolds w ok' (.slice a' subs'.length cap') subs') :
    Calls Try.prog 42 #[vS ⟨k, x0, x1, x2, ts⟩ (.slice ta ts.length tc) (.slice a subs.length cap), vS ⟨k', y0, y1, y2, us⟩ (.slice ta' us.length tc') (.slice a' subs'.length cap')] w fun e w' => e = .returned (.bool ((St.mk ⟨k, x0, x1, x2, ts⟩ subs).same (.mk ⟨k', y0, y1, y2, us⟩ subs'))) ∧ Kept Nil w w' := by
  have hq : ∀ W, (Op.equalIn 10000 39 (.agg #[.int .i64 x0, .int .i64 x1, .int .i64 x2]) (.agg #[.int .i64 y0, .int .i64 y1, .int .i64 y2])).run Try.prog W = .ok (decide (x0 = y0 ∧ x1 = y1 ∧ x2 = y2)) W := fun W => eqKey x0 x1 x2 y0 y1 y2 W
  have HV : Hid ((St.mk ⟨k, x0, x1, x2, ts⟩ subs).same (.mk ⟨k', y0, y1, y2, us⟩ subs') = (decide (k = k') && (decide (x0 = y0 ∧ x1 = y1 ∧ x2 = y2) && eqTs ts us) && sameSL subs subs')) := Lib.hid (by rw [sameS_mk, SH.same_eq])
  have CT : Hid (∀ W, Kept Nil w W → Calls Try.prog 60 #[.slice ta ts.length tc, .slice ta' us.length tc'] W fun e w' => e = .returned (.bool (eqTs ts us)) ∧ Kept Nil W w') := Lib.hid fun W kW => testsEqual_any ts us htl hul ok ok' ta ta' tc tc' W (ht.keptN kW) (ht'.keptN kW)
  have CE : Hid (∀ W, Kept Nil w W → Calls Try.prog 61 #[.slice a subs.length cap, .slice a' subs'.length cap', .func (.func 42) #[] #[]] W fun e w' => e = .returned (.bool (sameSL subs subs')) ∧ Kept Nil W w') := Lib.hid fun W kW => equalFuncS_step subs _ rfl hLen IH ok ok' a cap W (h.keptN kW) subs' _ rfl hLen' hC' a' cap' (h'.keptN kW)
  generalize (St.mk ⟨k, x0, x1, x2, ts⟩ subs).same (.mk ⟨k', y0, y1, y2, us⟩ subs') = v at HV ⊢
  generalize decide (x0 = y0 ∧ x1 = y1 ∧ x2 = y2) = z at HV hq
  generalize eqTs ts us = q at HV CT
  generalize sameSL subs subs' = r at HV CE
  clear ht ht' h h' hC' IH
  generalize ts.length = n1 at *
  generalize us.length = n2 at *
  generalize subs.length = l1 at *
  generalize subs'.length = l2 at *
  have T0 := Lib.hid (TwoS.start w 42 (arrS ⟨k, x0, x1, x2, ts⟩ (.slice ta n1 tc) (.slice a l1 cap)) (arrS ⟨k', y0, y1, y2, us⟩ (.slice ta' n2 tc') (.slice a' l2 cap')))
  by_cases hk : k = k'
  · have hkk : (k == k') = true := by simpa using hk
    have HV1 : Hid (v = ((z && q) && r)) := Lib.hid (by rw [HV.out, decide_eq_true hk]; rfl)
    clear HV hk
    cases z
    · go_enter Try.func42, Try.ntmps42
      go_wp2_with fail
      go_ret
      exact ⟨ret_bool (by rw [HV1.out]; rfl), T0.out.kept⟩
    · go_enter Try.func42, Try.ntmps42
      go_wp2_with fail
      refine (CT.out _ T0.out.kept).mono ?_
      rintro e w8 ⟨rfl, k8⟩
      have T8 := Lib.hid (T0.out.step k8)
      have z0 := T8.out.b0.cell 5
      have z1 := T8.out.b1.cell 5
      simp at z0 z1
      clear k8
      cases q
      · go_wp2_with fail
        go_ret
        exact ⟨ret_bool (by rw [HV1.out]; rfl), T8.out.kept⟩
      · go_wp2_with fail
        refine (CE.out _ T8.out.kept).mono ?_
        rintro e w9 ⟨rfl, k9⟩
        go_wp2_with fail
        go_ret
        exact ⟨ret_bool (by rw [HV1.out]; rfl), T8.out.kept.trans k9 (fun _ _ g => g)⟩
  · have HV2 : Hid (v = false) := Lib.hid (by rw [HV.out]; simp [hk])
    have hk' : (k == k') = false := by simpa using hk
    clear HV
    go_enter Try.func42, Try.ntmps42
    go_wp2_with fail
    go_ret
    exact ⟨by rw [HV2.out]; rfl, T0.out.kept⟩
theorem sameS_any : ∀ s : St, s.mass ≤ 5000 → ∀ t : St, t.mass ≤ 5000 → ∀ ok ok' ta tc a cap ta' tc' a' cap' w, TsAt w ok (.slice ta s.hd.ts.length tc) s.hd.ts → SHolds w ok (.slice a s.subs.length cap) s.subs → TsAt w ok' (.slice ta' t.hd.ts.length tc') t.hd.ts → SHolds w ok' (.slice a' t.subs.length cap') t.subs →
    Calls Try.prog 42 #[vS s.hd (.slice ta s.hd.ts.length tc) (.slice a s.subs.length cap), vS t.hd (.slice ta' t.hd.ts.length tc') (.slice a' t.subs.length cap')] w fun e w' => e = .returned (.bool (s.same t)) ∧ Kept Nil w w' := by
  refine St.ind fun hd subs ih hc t ht ok ok' ta tc a cap ta' tc' a' cap' w h1 h2 h3 h4 => ?_
  obtain ⟨hd', subs'⟩ := t
  have hc' : 1 + hd.ts.length + massL subs ≤ 5000 := by simpa [St.mass] using hc
  have ht' : 1 + hd'.ts.length + massL subs' ≤ 5000 := by simpa [St.mass] using ht
  have hl := length_massL subs
  have hl' := length_massL subs'
  exact sameS_step hd.k hd.k0 hd.k1 hd.k2 hd.ts subs (by omega) (by omega) (Lib.hid fun hd1 sb hx hd2 sb' ok1 ok2 t1 d1 a1 c1 t2 d2 a2 c2 W hcs g1 g2 g3 g4 => ih _ hx (by have := mass_mem hx; omega) (.mk hd2 sb') hcs ok1 ok2 t1 d1 a1 c1 t2 d2 a2 c2 W g1 g2 g3 g4)
    ok ok' ta tc a cap w h1 h2 hd'.k hd'.k0 hd'.k1 hd'.k2 hd'.ts subs' (by omega) (by omega) (fun y hy => by have := mass_mem hy; omega) ta' tc' a' cap' h3 h4
set_option maxHeartbeats 2000000 in
/-- Same of two right steps. -/
theorem bigSameS_any (s t : St) (hc : s.mass ≤ 5000) (hc' : t.mass ≤ 5000) (hs : s.right = true) (ht : t.right = true) (ok ok' : Nat → Nat → Prop) (ta : Option Addr) (tc : Nat) (a : Option Addr) (cap : Nat) (ta' : Option Addr) (tc' : Nat) (a' : Option Addr) (cap' : Nat) (w : World)
    (h1 : TsAt w ok (.slice ta s.hd.ts.length tc) s.hd.ts) (h2 : SHolds w ok (.slice a s.subs.length cap) s.subs) (h3 : TsAt w ok' (.slice ta' t.hd.ts.length tc') t.hd.ts) (h4 : SHolds w ok' (.slice a' t.subs.length cap') t.subs) :
    Calls Try.prog 24 #[vS s.hd (.slice ta s.hd.ts.length tc) (.slice a s.subs.length cap), vS t.hd (.slice ta' t.hd.ts.length tc') (.slice a' t.subs.length cap')] w fun e w' => e = .returned (.bool (s.same t)) ∧ Kept Nil w w' := by
  have C := Lib.hid (fun w' (k : Kept Nil w w') => stRight_any s hc ok ta tc a cap w' (h1.keptN k) (h2.keptN k))
  have D := Lib.hid (fun w' (k : Kept Nil w w') => stRight_any t hc' ok' ta' tc' a' cap' w' (h3.keptN k) (h4.keptN k))
  have Z := Lib.hid (fun w' (k : Kept Nil w w') => sameS_any s hc t hc' ok ok' ta tc a cap ta' tc' a' cap' w' (h1.keptN k) (h2.keptN k) (h3.keptN k) (h4.keptN k))
  rw [hs] at C
  rw [ht] at D
  generalize s.same t = v at Z ⊢
  clear h1 h2 h3 h4 hs ht hc hc'
  generalize s.subs.length = len at C Z ⊢
  generalize t.subs.length = len' at D Z ⊢
  generalize s.hd = hd at C Z ⊢
  generalize t.hd = hd' at D Z ⊢
  generalize hn : hd.ts.length = n1 at C Z ⊢
  generalize hn' : hd'.ts.length = n2 at D Z ⊢
  clear hn hn'
  obtain ⟨k, x0, x1, x2, ts⟩ := hd
  obtain ⟨k', y0, y1, y2, us⟩ := hd'
  have T0 := Lib.hid (TwoS.start w 42 (arrS ⟨k, x0, x1, x2, ts⟩ (.slice ta n1 tc) (.slice a len cap)) (arrS ⟨k', y0, y1, y2, us⟩ (.slice ta' n2 tc') (.slice a' len' cap')))
  go_enter Try.func24, Try.ntmps24
  go_wp2_with fail
  refine (C.out _ T0.out.kept).mono ?_
  rintro e w2 ⟨rfl, k2⟩
  have T2 := Lib.hid (T0.out.step k2)
  clear k2 T0
  go_wp2_with (refine wpList_load_SG rfl (.tmp 3) rfl _ _ rfl ⟨k', y0, y1, y2, us⟩ (.slice ta' n2 tc') (.slice a' len' cap') (World.rangeAt_of_block T2.out.b1 0 6) ?_)
  refine (D.out _ T2.out.kept).mono ?_
  rintro e w3 ⟨rfl, k3⟩
  have T3 := Lib.hid (T2.out.step k3)
  clear k3
  go_wp2_with (first
    | (refine wpList_load_SG rfl (.tmp 2) rfl _ _ rfl ⟨k, x0, x1, x2, ts⟩ (.slice ta n1 tc) (.slice a len cap) (World.rangeAt_of_block T3.out.b0 0 6) ?_)
    | (refine wpList_load_SG rfl (.tmp 3) rfl _ _ rfl ⟨k', y0, y1, y2, us⟩ (.slice ta' n2 tc') (.slice a' len' cap') (World.rangeAt_of_block T3.out.b1 0 6) ?_))
  refine (Z.out _ T3.out.kept).mono ?_
  rintro e w4 ⟨rfl, k4⟩
  go_wp2_with fail
  go_ret
  exact ⟨rfl, T3.out.kept.trans k4 (fun _ _ g => g)⟩
end
end Go.Proofs.Ytoceogbanlmnoaa
