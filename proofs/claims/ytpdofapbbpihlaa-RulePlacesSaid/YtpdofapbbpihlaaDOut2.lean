/- Layer rule: outOfPlace, tooLong, Size: what the program's Check asks. -/
import Derived.Test.YtpdofapbbpihlaaDOutPl
namespace Go.Proofs.Ytpdofapbbpihlaa
open Go.RowKit

theorem scopeW_len (k : Int) (p : List Nat) : (scopeW k p).length ≤ p.length := by
  unfold scopeW
  split
  · exact Nat.le_refl _
  · simp
set_option maxHeartbeats 1000000 in
theorem outOfPlace_any (l : List Sh) (hc : countL l ≤ 100) (hk : chkL l 1 = 0) (ok : Nat → Nat → Prop) (a : Option Addr) (cap : Nat) (v : Int) (w : World) (h : Holds cA w ok (.slice a l.length cap) l) :
    Calls Try.prog 23 #[.slice a l.length cap, .int .i64 v] w fun e w' => e = .returned (.bool (decide (outL l v = 1))) ∧ Kept Nil w w' := by
  have CS := Lib.hid (seek_any l hc hk ok a cap v w h)
  have HL := Lib.hid h
  cases hw : wayL l 0 v [] with
  | nil =>
    have HO : Hid (decide (outL l v = 1) = false) := Lib.hid (decide_eq_false (outL_ways hk hw))
    rw [hw] at CS
    rw [HO.out]
    generalize l.length = n at *
    clear h hw hk hc
    go_enter Try.func23, Try.ntmps23
    go_wp2_with fail
    refine CS.out.mono ?_
    rintro e w2 ⟨r, rfl, h2, k2⟩
    obtain ⟨a2, c2, rfl⟩ := h2.shape
    simp only [List.length_nil]
    clear h2
    go_wp2_with fail
    go_ret
    exact ⟨rfl, k2⟩
  | cons p r =>
    obtain ⟨x, hx, hany⟩ := outL_first hk hw
    have hpm : p ∈ wayL l 0 v [] := by rw [hw]; exact List.mem_cons_self
    have hp3 : p.length ≤ 3 := (wayL_deep v).2 l 1 hk [] 0 (by simp) p hpm
    have hp0 : 0 < p.length := by
      unfold wayL at hpm
      obtain ⟨q, hq, rfl⟩ := List.mem_map.1 hpm
      obtain ⟨j, s, _, e⟩ := (wayK_begin v).2 l 0 [] q hq
      rw [e]; simp
    have hps : ∀ i ∈ p, i ≤ 1000 := (wayL_small v).2 l 1000 [] (fun y hy => by cases hy) 0 (by omega) p hpm
    have hwn : (wayL l 0 v []).length ≤ 1000 := by have := (wayL_len v).2 l 0 []; omega
    have HP0 : Hid ((wayL l 0 v [])[0]? = some p) := Lib.hid (by rw [hw]; rfl)
    have hne : 0 < (wayL l 0 v []).length := by rw [hw]; simp
    have HSc := Lib.hid (fun w' (k : Kept Nil w w') (B : Nat) (u : Value) (hu : Kid w' B u p) => scopeOf_any l ok a cap w' (HL.out.keptN k) hu ⟨hp0, by omega⟩ hps x hx)
    unfold ScopeEnd at HSc
    have hsl := scopeW_len x.hd.k p
    have HAny := Lib.hid hany
    generalize wayL l 0 v [] = ws at *
    generalize scopeW x.hd.k p = sc at *
    generalize decide (outL l v = 1) = b at *
    generalize l.length = n at *
    clear h hk hw hany hpm hps hx hc
    go_enter Try.func23, Try.ntmps23
    go_wp2_with fail
    refine CS.out.mono ?_
    rintro e w2 ⟨u, rfl, h2, k2⟩
    obtain ⟨a2, c2, rfl⟩ := h2.shape
    obtain ⟨g, up, ha, z0, hup⟩ := h2.at_ HP0.out
    subst ha
    obtain ⟨a1, m1, c1, rfl⟩ := hup.shape
    have HS2 := Lib.hid (HSc.out w2 k2 _ _ hup)
    have H2 := Lib.hid h2
    have K2 := Lib.hid k2
    have hl0 : ((ws.length : Int) == 0) = false := by rw [beq_eq_false_iff_ne]; omega
    generalize hlen : ws.length = len at *
    have HLen := Lib.hid hlen
    clear hlen h2 k2 hup HSc CS
    go_wp2_with fail
    refine HS2.out.mono ?_
    rintro e w3 ⟨u3, rfl, h3, k3⟩
    obtain ⟨a3, m3, c3, rfl⟩ := h3.shape
    have BC := Lib.hid (Blk.new w3 38 #[.slice a3 m3 c3])
    have KA := (Kept.refl Nil w3).alloc (.cells #[.slice a3 m3 c3] 38)
    have HCF := Lib.hid (containsF_any _ (((H2.out.kept k3 (fun _ g => g.elim)).kept KA (fun _ g => g.elim))) HLen.out hwn (h3.keptN KA) (by omega) BC.out)
    rw [HAny.out] at HCF
    have K3 := Lib.hid ((K2.out.trans k3 (fun _ _ g => g)).trans KA (fun _ _ g => g))
    clear h3 k3 KA z0 hl0 HAny
    go_wp2_with fail
    refine HCF.out.mono ?_
    rintro e w4 ⟨rfl, k4⟩
    go_wp2_with fail
    go_ret
    exact ⟨rfl, K3.out.trans k4 (fun _ _ g => g)⟩
set_option maxHeartbeats 1000000 in
theorem sizeP_any (s : Sh) (hc : s.count ≤ 5000) (hk : s.chk 1 = 0) (ok : Nat → Nat → Prop) (a : Option Addr) (cap : Nat) (w : World) (h : Holds cA w ok (.slice a s.subs.length cap) s.subs) :
    Calls Try.prog 36 #[vA s.hd (.slice a s.subs.length cap)] w fun e w' => e = .returned (.int .i64 (s.count : Int)) ∧ Kept Nil w w' := by
  have CR := Lib.hid (fun w' (k : Kept Nil w w') => right_any s hc ok a cap w' (h.keptN k))
  rw [hk] at CR
  have CS := Lib.hid (fun w' (k : Kept Nil w w') => size_any s hc ok a cap w' (h.keptN k))
  generalize s.count = n at CS ⊢
  generalize s.subs.length = len at CR CS ⊢
  generalize s.hd = hd at CR CS ⊢
  obtain ⟨k, x0, x1, x2, n0, n1, n2⟩ := hd
  have K0 := Lib.hid ((Kept.refl Nil w).alloc (.cells (arrA ⟨k, x0, x1, x2, n0, n1, n2⟩ (.slice a len cap)) 45))
  have B0 := Lib.hid (Blk.new w 45 (arrA ⟨k, x0, x1, x2, n0, n1, n2⟩ (.slice a len cap)))
  clear h hk hc
  go_enter Try.func36, Try.ntmps36
  go_wp2_with ((with_reducible refine wpList_load_A rfl (.tmp 1) rfl _ _ rfl ⟨k, x0, x1, x2, n0, n1, n2⟩ (.slice a len cap) ?_ ?_)
               · exact World.rangeAt_of_block B0.out 0 8)
  refine (CR.out _ K0.out).mono ?_
  rintro e w2 ⟨rfl, k2⟩
  have B2 := Lib.hid (B0.out.kept k2 id)
  have K2 := Lib.hid (K0.out.trans k2 (fun _ _ g => g))
  clear k2 B0 K0
  go_wp2_with ((with_reducible refine wpList_load_A rfl (.tmp 1) rfl _ _ rfl ⟨k, x0, x1, x2, n0, n1, n2⟩ (.slice a len cap) ?_ ?_)
               · exact World.rangeAt_of_block B2.out 0 8)
  refine (CS.out _ K2.out).mono ?_
  rintro e w3 ⟨rfl, k3⟩
  go_wp2_with fail
  go_ret
  exact ⟨rfl, K2.out.trans k3 (fun _ _ g => g)⟩
set_option maxHeartbeats 1000000 in
theorem tooLong_any (l : List Sh) (hc : countL l ≤ 100) (hk : chkL l 1 = 0) (ok : Nat → Nat → Prop) (a : Option Addr) (cap : Nat) (w : World) (h : Holds cA w ok (.slice a l.length cap) l) :
    Calls Try.prog 22 #[.slice a l.length cap] w fun e w' => e = .returned (.bool (decide (16 < countL l))) ∧ Kept Nil w w' := by
  have HH := Lib.hid h
  have HC := Lib.hid hk
  have hlen := length_countL l
  generalize hn : l.length = len at *
  have HL := Lib.hid hn
  clear h hk hn
  have HCo := Lib.hid hc
  have hLen : len ≤ 100 := by omega
  clear hc hlen
  go_enter Try.func22, Try.ntmps22
  go_wp2_with fail
  go_loopw [3, 8] (fun n i wr => ∃ j m : Nat, j ≤ len ∧ i = .int .i64 j ∧ n = .int .i64 (m : Int) ∧ m ≤ 16 ∧ Hid (m = countL (l.take j)) ∧ Kept Nil w wr) (fun _ i _ => len - (intOf i).toNat)
  case atStart => exact ⟨0, 0, by omega, rfl, rfl, by omega, Lib.hid (by simp [countL]), Kept.refl _ _⟩
  case round =>
    obtain ⟨j, m, hj, rfl, rfl, hm, HM, hK⟩ := hrel
    have HK := Lib.hid hK
    clear hK
    by_cases hlt : j < len
    · obtain ⟨⟨⟨k', x0', x1', x2', n0', n1', n2'⟩, sb⟩, hx⟩ : ∃ x, l[j]? = some x := ⟨_, List.getElem?_eq_getElem (by have := HL.out; omega)⟩
      obtain ⟨b, o, a', cap', rfl, hok, hr, hs⟩ := (HH.out.keptN HK.out).at_ hx
      have hcm : (Sh.mk ⟨k', x0', x1', x2', n0', n1', n2'⟩ sb).count ≤ 100 := by have := count_mem (List.mem_of_getElem? hx); have := HCo.out; omega
      have HX := Lib.hid (fun w' (k : Kept Nil wr w') => sizeP_any _ (by omega) (chkL_at HC.out hx) ok a' cap' w' (hs.keptN k))
      have HR := Lib.hid hr
      have HN : Hid (countL (l.take (j + 1)) = m + (Sh.mk ⟨k', x0', x1', x2', n0', n1', n2'⟩ sb).count) := Lib.hid (by rw [countL_take_succ hx, HM.out])
      have HB := Lib.hid (countL_take_le l (j + 1))
      clear hx hr hs hok
      generalize (Sh.mk ⟨k', x0', x1', x2', n0', n1', n2'⟩ sb).count = cx at *
      replace HX : Hid (∀ w', Kept Nil wr w' → Calls Try.prog 36 #[vA ⟨k', x0', x1', x2', n0', n1', n2'⟩ (.slice a' sb.length cap')] w' fun e w'' => e = .returned (.int .i64 (cx : Int)) ∧ Kept Nil w' w'') := HX
      generalize sb.length = len' at HR HX
      have K1 := Lib.hid ((Kept.refl Nil wr).alloc (.cells (arrA ⟨k', x0', x1', x2', n0', n1', n2'⟩ (.slice a' len' cap')) 45))
      have B1 := Lib.hid (Blk.new wr 45 (arrA ⟨k', x0', x1', x2', n0', n1', n2'⟩ (.slice a' len' cap')))
      go_wp2_with (first
        | ((with_reducible refine wpList_load_A rfl (.tmp 10) rfl _ _ rfl ⟨k', x0', x1', x2', n0', n1', n2'⟩ (.slice a' len' cap') ?_ ?_)
           · exact HR.out)
        | ((with_reducible refine wpList_load_A rfl (.tmp 5) rfl _ _ rfl ⟨k', x0', x1', x2', n0', n1', n2'⟩ (.slice a' len' cap') ?_ ?_)
           · exact World.rangeAt_of_block B1.out 0 8))
      refine (HX.out _ K1.out).mono ?_
      rintro e w2 ⟨rfl, k2⟩
      have K2 := Lib.hid ((HK.out.trans K1.out (fun _ _ g => g)).trans k2 (fun _ _ g => g))
      clear k2 K1 B1
      by_cases hbig : 16 < m + cx
      · have HE : Hid (decide (16 < countL l) = true) := Lib.hid (decide_eq_true (by have := HN.out; have := HB.out; omega))
        go_wp2_with fail
        go_ret
        exact ⟨ret_bool HE.out.symm, K2.out⟩
      · go_wp2_with fail
        go_roundw
        case rel => exact ⟨j + 1, m + cx, by omega, by go_num, by go_num, by omega, Lib.hid HN.out.symm, K2.out⟩
        case measure => simp [intOf]; omega
    · obtain rfl : j = len := by omega
      have HE : Hid (decide (16 < countL l) = false) := Lib.hid (decide_eq_false (by have := HM.out; rw [List.take_of_length_le (by have := HL.out; omega)] at this; omega))
      go_wp2_with fail
      go_ret
      exact ⟨ret_bool HE.out.symm, HK.out⟩
end Go.Proofs.Ytpdofapbbpihlaa
