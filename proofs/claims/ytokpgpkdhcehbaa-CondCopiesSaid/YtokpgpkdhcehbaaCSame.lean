/- Layer cond: same and Same, of the program. -/
import Derived.Test.YtokpgpkdhcehbaaCRefSame
namespace Go.Proofs.Ytokpgpkdhcehbaa
open Go.RowKit

abbrev SameIH (subs : List Sh) : Prop := ∀ hd sb, Sh.mk hd sb ∈ subs → ∀ hd' sb' ok ok' a cap a' cap' w, (Sh.mk hd' sb').count ≤ 5000 → Holds cA w ok (.slice a sb.length cap) sb → Holds cA w ok' (.slice a' sb'.length cap') sb' →
  Calls Try.prog 30 #[vA hd (.slice a sb.length cap), vA hd' (.slice a' sb'.length cap')] w fun e w' => e = .returned (.bool ((Sh.mk hd sb).same (.mk hd' sb'))) ∧ Kept Nil w w'
set_option maxHeartbeats 2000000 in
theorem equalFunc_step (subs : List Sh) (len : Nat) (HL : Hid (subs.length = len)) (hLen : len ≤ 5000) (IH : Hid (SameIH subs))
    (ok ok' : Nat → Nat → Prop) (a : Option Addr) (cap : Nat) (w : World) (HH : Hid (Holds cA w ok (.slice a len cap) subs))
    (subs' : List Sh) (len' : Nat) (HL' : Hid (subs'.length = len')) (hLen' : len' ≤ 5000) (HC' : Hid (∀ y ∈ subs', y.count ≤ 5000)) (a' : Option Addr) (cap' : Nat) (HH' : Hid (Holds cA w ok' (.slice a' len' cap') subs')) :
    Calls Try.prog 36 #[.slice a len cap, .slice a' len' cap', .func (.func 30) #[] #[]] w fun e w' => e = .returned (.bool (sameL subs subs')) ∧ Kept Nil w w' := by
  by_cases hl : len = len'
  · subst hl
    go_enter Try.func36, Try.ntmps36
    go_wp2_with fail
    go_loopw [17] (fun i wr => ∃ j : Nat, j ≤ len ∧ i = .int .i64 j ∧ sameL subs subs' = sameL (subs.drop j) (subs'.drop j) ∧ Kept Nil w wr) (fun i _ => len - (intOf i).toNat)
    case atStart => exact ⟨0, by omega, rfl, rfl, Kept.refl _ _⟩
    case round =>
      obtain ⟨j, hj, rfl, hch, hK⟩ := hrel
      have HK := Lib.hid hK
      have HCh := Lib.hid hch
      clear hK hch
      by_cases hlt : j < len
      · obtain ⟨⟨hd, sb⟩, hx⟩ : ∃ x, subs[j]? = some x := ⟨_, List.getElem?_eq_getElem (by have := HL.out; omega)⟩
        obtain ⟨⟨hd', sb'⟩, hx'⟩ : ∃ x, subs'[j]? = some x := ⟨_, List.getElem?_eq_getElem (by have := HL'.out; omega)⟩
        obtain ⟨b, o, a1, c1, rfl, hok, hr, hs⟩ := (HH.out.keptN HK.out).at_ hx
        obtain ⟨b', o', a2, c2, rfl, hok', hr', hs'⟩ := (HH'.out.keptN HK.out).at_ hx'
        have hc' : (Sh.mk hd' sb').count ≤ 5000 := HC'.out _ (List.mem_of_getElem? hx')
        have HX : Hid (∀ W, Kept Nil wr W → Calls Try.prog 30 #[vA hd (.slice a1 sb.length c1), vA hd' (.slice a2 sb'.length c2)] W fun e w' => e = .returned (.bool ((Sh.mk hd sb).same (.mk hd' sb'))) ∧ Kept Nil W w') := Lib.hid fun W kW =>
          IH.out _ _ (List.mem_of_getElem? hx) hd' sb' ok ok' a1 c1 a2 c2 W hc' (hs.keptN kW) (hs'.keptN kW)
        have HN := Lib.hid (sameL_drop hx hx')
        obtain ⟨k1, y0, y1, y2, m0, m1, m2⟩ := hd
        obtain ⟨k2, y0', y1', y2', m0', m1', m2'⟩ := hd'
        generalize (Sh.mk ⟨k1, y0, y1, y2, m0, m1, m2⟩ sb).same (.mk ⟨k2, y0', y1', y2', m0', m1', m2'⟩ sb') = q at HX HN
        generalize hl1 : sb.length = l1 at hr HX
        generalize hl2 : sb'.length = l2 at hr' HX
        have HR := Lib.hid hr
        have HR' := Lib.hid hr'
        clear hx hx' hs hs' hr hr' hok hok' hc' hl1 hl2
        go_wp2_with (first
          | ((with_reducible refine wpList_load_A rfl (.tmp 20) rfl _ _ rfl ⟨k1, y0, y1, y2, m0, m1, m2⟩ (.slice a1 l1 c1) ?_ ?_)
             · exact HR.out)
          | ((with_reducible refine wpList_load_A rfl (.tmp 24) rfl _ _ rfl ⟨k2, y0', y1', y2', m0', m1', m2'⟩ (.slice a2 l2 c2) ?_ ?_)
             · exact World.rangeAt_alloc HR'.out _))
        refine (HX.out _ (((Kept.refl Nil wr).alloc _).alloc _)).mono ?_
        rintro e w9 ⟨rfl, k9⟩
        have K9 := Lib.hid (((HK.out.alloc _).alloc _).trans k9 (fun _ _ g => g))
        clear k9
        cases q
        · go_wp2_with fail
          go_ret
          exact ⟨by rw [HCh.out, HN.out]; rfl, K9.out⟩
        · go_wp2_with fail
          go_roundw
          case rel => exact ⟨j + 1, by omega, by go_num, by rw [HCh.out, HN.out]; simp, K9.out⟩
          case measure => simp [intOf]; omega
      · obtain rfl : j = len := by omega
        have HE : Hid (sameL (subs.drop j) (subs'.drop j) = true) := Lib.hid (by rw [show subs.drop j = [] from List.drop_eq_nil_of_le (by have := HL.out; omega), show subs'.drop j = [] from List.drop_eq_nil_of_le (by have := HL'.out; omega)]; rfl)
        go_wp2_with fail
        go_ret
        exact ⟨by rw [HCh.out, HE.out]; rfl, HK.out⟩
  · have HV2 : Hid (sameL subs subs' = false) := Lib.hid (sameL_ne (by have := HL.out; have := HL'.out; omega))
    have hl' : ((len : Int) != (len' : Int)) = true := by simp; omega
    go_enter Try.func36, Try.ntmps36
    go_wp2_with fail
    go_ret
    exact ⟨by rw [HV2.out]; rfl, Kept.refl _ _⟩
set_option maxHeartbeats 2000000 in
theorem same_step (k : Int) (x0 x1 x2 : Bool) (n0 n1 n2 : Int) (subs : List Sh) (len : Nat) (HL : Hid (subs.length = len)) (hLen : len ≤ 5000) (IH : Hid (SameIH subs))
    (ok ok' : Nat → Nat → Prop) (a : Option Addr) (cap : Nat) (w : World) (HH : Hid (Holds cA w ok (.slice a len cap) subs))
    (k' : Int) (x0' x1' x2' : Bool) (n0' n1' n2' : Int) (subs' : List Sh) (len' : Nat) (HL' : Hid (subs'.length = len')) (hLen' : len' ≤ 5000) (HC' : Hid (∀ y ∈ subs', y.count ≤ 5000)) (a' : Option Addr) (cap' : Nat) (HH' : Hid (Holds cA w ok' (.slice a' len' cap') subs')) :
    Calls Try.prog 30 #[vA ⟨k, x0, x1, x2, n0, n1, n2⟩ (.slice a len cap), vA ⟨k', x0', x1', x2', n0', n1', n2'⟩ (.slice a' len' cap')] w fun e w' => e = .returned (.bool ((Sh.mk ⟨k, x0, x1, x2, n0, n1, n2⟩ subs).same (.mk ⟨k', x0', x1', x2', n0', n1', n2'⟩ subs'))) ∧ Kept Nil w w' := by
  have hq : ∀ W, (Op.equalIn 10000 24 (.agg #[.bool x0, .int .i64 n0, .bool x1, .int .i64 n1, .bool x2, .int .i64 n2]) (.agg #[.bool x0', .int .i64 n0', .bool x1', .int .i64 n1', .bool x2', .int .i64 n2'])).run Try.prog W = .ok ((⟨k, x0, x1, x2, n0, n1, n2⟩ : Hd).sameT ⟨k', x0', x1', x2', n0', n1', n2'⟩) W := fun W => eqL ⟨k, x0, x1, x2, n0, n1, n2⟩ ⟨k', x0', x1', x2', n0', n1', n2'⟩ W
  have HV : Hid ((Sh.mk ⟨k, x0, x1, x2, n0, n1, n2⟩ subs).same (.mk ⟨k', x0', x1', x2', n0', n1', n2'⟩ subs') = (decide (k = k') && (⟨k, x0, x1, x2, n0, n1, n2⟩ : Hd).sameT ⟨k', x0', x1', x2', n0', n1', n2'⟩ && sameL subs subs')) := Lib.hid (same_mk _ _ _ _)
  generalize (Sh.mk ⟨k, x0, x1, x2, n0, n1, n2⟩ subs).same (.mk ⟨k', x0', x1', x2', n0', n1', n2'⟩ subs') = v at HV
  generalize (⟨k, x0, x1, x2, n0, n1, n2⟩ : Hd).sameT ⟨k', x0', x1', x2', n0', n1', n2'⟩ = z at HV hq
  have T0 := Lib.hid (TwoB.start w 27 (arrA ⟨k, x0, x1, x2, n0, n1, n2⟩ (.slice a len cap)) (arrA ⟨k', x0', x1', x2', n0', n1', n2'⟩ (.slice a' len' cap')))
  by_cases hk : k = k'
  · subst hk
    cases z
    · go_enter Try.func30, Try.ntmps30
      go_wp2_with fail
      go_ret
      exact ⟨by rw [HV.out]; simp, T0.out.kept⟩
    · have HV2 : Hid (v = sameL subs subs') := Lib.hid (by rw [HV.out]; simp)
      clear HV
      have CE := Lib.hid (fun W (kW : Kept Nil w W) => equalFunc_step subs len HL hLen IH ok ok' a cap W (HH.out.keptN kW) subs' len' HL' hLen' HC' a' cap' (HH'.out.keptN kW))
      go_enter Try.func30, Try.ntmps30
      go_wp2_with fail
      refine (CE.out _ T0.out.kept).mono ?_
      rintro e w9 ⟨rfl, k9⟩
      go_wp2_with fail
      go_ret
      exact ⟨by rw [HV2.out]; rfl, T0.out.kept.trans k9 (fun _ _ g => g)⟩
  · have HV2 : Hid (v = false) := Lib.hid (by rw [HV.out]; simp [hk])
    have hk' : (k == k') = false := by simpa using hk
    clear HV
    go_enter Try.func30, Try.ntmps30
    go_wp2_with fail
    go_ret
    exact ⟨by rw [HV2.out]; rfl, T0.out.kept⟩
theorem same_any : ∀ s : Sh, s.count ≤ 5000 → ∀ t : Sh, t.count ≤ 5000 → ∀ ok ok' a cap a' cap' w, Holds cA w ok (.slice a s.subs.length cap) s.subs → Holds cA w ok' (.slice a' t.subs.length cap') t.subs →
    Calls Try.prog 30 #[vA s.hd (.slice a s.subs.length cap), vA t.hd (.slice a' t.subs.length cap')] w fun e w' => e = .returned (.bool (s.same t)) ∧ Kept Nil w w' := by
  refine Sh.ind fun hd subs ih hc t ht ok ok' a cap a' cap' w h h' => ?_
  obtain ⟨hd', subs'⟩ := t
  have hc' : 1 + countL subs ≤ 5000 := by simpa [Sh.count] using hc
  have ht' : 1 + countL subs' ≤ 5000 := by simpa [Sh.count] using ht
  have hl := length_countL subs
  have hl' := length_countL subs'
  exact same_step hd.k hd.x0 hd.x1 hd.x2 hd.n0 hd.n1 hd.n2 subs _ rfl (by omega) (fun hd1 sb hx hd2 sb' ok1 ok2 a1 c1 a2 c2 W hcs g1 g2 => ih _ hx (by have := count_mem hx; omega) (.mk hd2 sb') hcs ok1 ok2 a1 c1 a2 c2 W g1 g2)
    ok ok' a cap w h hd'.k hd'.x0 hd'.x1 hd'.x2 hd'.n0 hd'.n1 hd'.n2 subs' _ rfl (by omega) (fun y hy => by have := count_mem hy; omega) a' cap' h'
set_option maxHeartbeats 2000000 in
theorem bigSame_any (s t : Sh) (hc : s.count ≤ 5000) (hc' : t.count ≤ 5000) (hs : s.chk 1 = 0) (ht : t.chk 1 = 0) (ok ok' : Nat → Nat → Prop) (a : Option Addr) (cap : Nat) (a' : Option Addr) (cap' : Nat) (w : World) (h : Holds cA w ok (.slice a s.subs.length cap) s.subs) (h' : Holds cA w ok' (.slice a' t.subs.length cap') t.subs) :
    Calls Try.prog 16 #[vA s.hd (.slice a s.subs.length cap), vA t.hd (.slice a' t.subs.length cap')] w fun e w' => e = .returned (.bool (s.same t)) ∧ Kept Nil w w' := by
  have C := Lib.hid (fun w' (k : Kept Nil w w') => right_any s hc ok a cap w' (h.keptN k))
  have D := Lib.hid (fun w' (k : Kept Nil w w') => right_any t hc' ok' a' cap' w' (h'.keptN k))
  have Z := Lib.hid (fun w' (k : Kept Nil w w') => same_any s hc t hc' ok ok' a cap a' cap' w' (h.keptN k) (h'.keptN k))
  rw [hs] at C
  rw [ht] at D
  generalize s.same t = v at Z ⊢
  generalize s.subs.length = len at C Z ⊢
  generalize s.hd = hd at C Z ⊢
  generalize t.subs.length = len' at D Z ⊢
  generalize t.hd = hd' at D Z ⊢
  obtain ⟨k, x0, x1, x2, n0, n1, n2⟩ := hd
  obtain ⟨k', x0', x1', x2', n0', n1', n2'⟩ := hd'
  have T0 := Lib.hid (TwoB.start w 27 (arrA ⟨k, x0, x1, x2, n0, n1, n2⟩ (.slice a len cap)) (arrA ⟨k', x0', x1', x2', n0', n1', n2'⟩ (.slice a' len' cap')))
  clear h h' hs ht
  go_enter Try.func16, Try.ntmps16
  go_wp2_with fail
  refine (C.out _ T0.out.kept).mono ?_
  rintro e w2 ⟨rfl, k2⟩
  have T2 := Lib.hid (T0.out.step k2)
  clear k2 T0
  go_wp2_with (refine wpList_load_AG rfl (.tmp 3) rfl _ _ rfl ⟨k', x0', x1', x2', n0', n1', n2'⟩ (.slice a' len' cap') (World.rangeAt_of_block T2.out.b1 0 8) ?_)
  refine (D.out _ T2.out.kept).mono ?_
  rintro e w3 ⟨rfl, k3⟩
  have T3 := Lib.hid (T2.out.step k3)
  clear k3
  go_wp2_with (first
    | (refine wpList_load_AG rfl (.tmp 2) rfl _ _ rfl ⟨k, x0, x1, x2, n0, n1, n2⟩ (.slice a len cap) (World.rangeAt_of_block T3.out.b0 0 8) ?_)
    | (refine wpList_load_AG rfl (.tmp 3) rfl _ _ rfl ⟨k', x0', x1', x2', n0', n1', n2'⟩ (.slice a' len' cap') (World.rangeAt_of_block T3.out.b1 0 8) ?_))
  refine (Z.out _ T3.out.kept).mono ?_
  rintro e w4 ⟨rfl, k4⟩
  go_wp2_with fail
  go_ret
  exact ⟨rfl, T3.out.kept.trans k4 (fun _ _ g => g)⟩
end Go.Proofs.Ytokpgpkdhcehbaa
