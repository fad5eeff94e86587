/- Layer scope: the reference's chains of conditions, in new memory. -/
import Derived.Test.YthabnbljngejbaaERef
namespace Go.Proofs.Ythabnbljngejbaa
open Go.RowKit

/-- The reference's chains, in memory behind the call's beginning. -/
def ChEnd (ok : Nat → Nat → Prop) (l ab : List Sh) (w : World) (e : Ending) (w' : World) : Prop :=
  ∃ r ws, e = .returned r ∧ ws.map tr = chL l ab ∧ LRow cR 44 29 w' ok w.heap.size (fun g => w.heap.size ≤ g) r ws ∧ Kept Nil w w'
abbrev RefChIH (l : List Sh) : Prop := ∀ hd sb, Sh.mk hd sb ∈ l → ∀ ok va ps a cap w, Lies cR w va ps → Kids cR w ok ps → Holds cR w ok (.slice a sb.length cap) sb → (∀ b o, ok b o → b < w.heap.size) → ps.length + countL sb ≤ 5000 →
  Calls Try.prog 9 #[va, .slice a sb.length cap] w (ChEnd ok sb (tr ps) w)
/-- The end of a round: the condition is put behind its beginning, and that into the list. -/
theorem refCh_tail {w5 : World} {ok : Nat → Nat → Prop} {B B1 : Nat} {u : Value} {ws : List Prs} {v2 : Value} {qs : Prs} (hR : LRow cR 44 29 w5 ok B (fun g => B ≤ g ∧ v2.ownBlock ≠ some g) u ws) (o2 : ORow cR 44 w5 B1 v2 qs) (hq : Kids cR w5 ok qs)
    (hd : Hd) (sb : List Sh) (vs : Value) (hs : Holds cR w5 ok vs sb) (hok : ∀ b o, ok b o → b < B) (hBB : B ≤ B1) (hB1 : B1 ≤ w5.heap.size) (hl : ws.length ≤ 10000) (hl2 : qs.length ≤ 5000) :
    ∃ a3 n3 c3 w7 a9 n9 c9 w9, (Builtin.append_ #[29, 29] 29 #[v2, .slice (some ⟨w5.heap.size, 0, none⟩) 1 1]).run Try.prog (w5.alloc (.cells (arrR hd vs) 44)) = .ok (.slice a3 n3 c3) w7 ∧
      (Builtin.append_ #[27, 27] 27 #[u, .slice (some ⟨w7.heap.size, 0, none⟩) 1 1]).run Try.prog (w7.alloc (.cells #[.slice a3 n3 c3] 29)) = .ok (.slice a9 n9 c9) w9 ∧
      LRow cR 44 29 w9 ok B (fun g => B ≤ g) (.slice a9 n9 c9) (ws ++ [qs ++ [(.mk hd sb, vs)]]) ∧ Kept (fun k => B ≤ k) w5 w9 := by
  have ka := (Kept.refl Nil w5).alloc (.cells (arrR hd vs) 44)
  obtain ⟨v3, w7, r7, o7, k7, h7⟩ := ORow.append (P := Try.prog) (qs := [(.mk hd sb, vs)]) elsR kindR 29 (Kept.row ka o2 (fun _ _ g => g)) (At.lit w5 44 (arrR hd vs) _ (by unfold flatC; simp [Sh.hd])) (fun p hp => by
    rw [List.mem_singleton] at hp; subst hp; exact hs.keptN ka) (by simp; omega) (by simp; omega)
  have k57 : Kept (fun k => v2.ownBlock = some k) w5 w7 := (ka.mono (fun _ _ g => g.elim)).trans k7 (fun _ _ g => g)
  have R7 := hR.kept k57 (fun g hg hf => by
    obtain ⟨_, _, cs, hb⟩ := hR.own g hg
    obtain ⟨_, cur, hc⟩ := ownsBlk o2 g hf
    exact neqLR (blk_type hb hc)) (fun g cs _ hp hf => hp.2 hf) (fun b o hb hf => by have := (ownsBlk o2 b hf).1; have := hok b o hb; omega)
  have hq7 : Kids cR w7 ok (qs ++ [(Sh.mk hd sb, vs)]) := (hq.append (fun p hp => by rw [List.mem_singleton] at hp; subst hp; exact hs)).kept k57 (fun b o hb hf => by have := (ownsBlk o2 b hf).1; have := hok b o hb; omega)
  have kid : Kid cR 44 w7 ok (fun g => B ≤ g) v3 (qs ++ [(Sh.mk hd sb, vs)]) := ORow.kid o7 (by simp) hq7 (fun g _ hb => by omega)
  have hsz := k57.size
  obtain ⟨v9, w9, r9, o9, k9, _⟩ := LRow.append_one (P := Try.prog) elsLR neqLR 27 (R7.mono (fun g _ _ hp => hp.1)) kid hl (by omega) hok
  obtain ⟨a3, n3, c3, rfl⟩ : ∃ a3 n3 c3, v3 = .slice a3 n3 c3 := by
    obtain ⟨x, y, e⟩ := (At.own o7).shape
    exact ⟨x, _, y, e⟩
  obtain ⟨a9, n9, c9, rfl⟩ : ∃ a9 n9 c9, v9 = .slice a9 n9 c9 := by
    obtain ⟨x, y, e⟩ := o9.shape
    exact ⟨x, _, y, e⟩
  refine ⟨a3, n3, c3, w7, a9, n9, c9, w9, r7, r9, o9, ?_⟩
  refine Kept.trans (k57.mono (fun i _ e => by have := (ownsBlk o2 i e).1; omega)) (k9.mono (fun i _ e => ?_)) (fun _ _ g => g)
  exact (R7.own i e).1
set_option maxHeartbeats 4000000 in
theorem refCh_step (l : List Sh) (len : Nat) (HL : Hid (l.length = len)) (IH : Hid (RefChIH l)) (ok : Nat → Nat → Prop) (va : Value) (ps : Prs) (a : Option Addr) (cap : Nat) (w : World) (HA : Hid (Lies cR w va ps)) (HAK : Hid (Kids cR w ok ps))
    (HH : Hid (Holds cR w ok (.slice a len cap) l)) (HOk : Hid (∀ b o, ok b o → b < w.heap.size)) (HC : Hid (ps.length + countL l ≤ 5000)) :
    Calls Try.prog 9 #[va, .slice a len cap] w (ChEnd ok l (tr ps) w) := by
  have hcap : len ≤ cap := HH.out.fits.2
  have hLen : len ≤ 5000 := by have := length_countL l; have := HC.out; have := HL.out; omega
  obtain ⟨ls, hls, hll, hlk⟩ := HH.out.pairs kindR
  have HLS := Lib.hid hls
  have HLL := Lib.hid hll
  have HLK := Lib.hid hlk
  have hll2 : ls.length = len := by rw [← tr_len, hls, HL.out]
  have HL2 := Lib.hid hll2
  clear hls hll hlk hll2
  obtain ⟨aa, na, ca, rfl⟩ : ∃ aa na ca, va = .slice aa na ca := by obtain ⟨aa, ca, e⟩ := HA.out.shape; exact ⟨aa, _, ca, e⟩
  go_enter Try.func9, Try.ntmps9
  go_wp2_with fail
  go_loopw [5, 11] (fun u i wr => ∃ (j : Nat) (ws : List Prs), j ≤ len ∧ i = .int .i64 j ∧ ws.map tr = chL (l.take j) (tr ps) ∧ LRow cR 44 29 wr ok w.heap.size (fun g => w.heap.size ≤ g) u ws ∧ Kept Nil w wr) (fun _ i _ => len - (intOf i).toNat)
  case atStart => exact ⟨0, [], by omega, rfl, by rw [List.take_zero, chL_nil]; rfl, LRow.nil _, Kept.refl _ _⟩
  case round =>
    obtain ⟨j, ws, hj, rfl, hws, hR, hK⟩ := hrel
    have HR := Lib.hid hR
    have HK := Lib.hid hK
    have HW := Lib.hid hws
    clear hR hK hws
    by_cases hlt : j < len
    · obtain ⟨⟨⟨⟨k', x0', x1', x2', n0', n1', n2'⟩, sb⟩, vs⟩, hx⟩ : ∃ x, ls[j]? = some x := ⟨_, List.getElem?_eq_getElem (by have := HL2.out; omega)⟩
      have hkid : Holds cR w ok vs sb := HLK.out _ (List.mem_of_getElem? hx)
      obtain ⟨a', cap', rfl⟩ := hkid.shape
      have hLj : Lies cR w (.slice a len cap) ls := HLL.out
      obtain ⟨b, o, rfl, hrng⟩ := Lies.at_ kindR hLj hx
      have hlx : l[j]? = some (.mk ⟨k', x0', x1', x2', n0', n1', n2'⟩ sb) := by rw [← HLS.out]; unfold tr; rw [List.getElem?_map, hx]; rfl
      have HX := Lib.hid (IH.out _ _ (List.mem_of_getElem? hlx))
      have HRng : Hid (wr.rangeAt b (o + j * 8) (cR ⟨k', x0', x1', x2', n0', n1', n2'⟩ (.slice a' sb.length cap'))) := Lib.hid (rangeAt_kept HK.out (fun g => g) hrng)
      have HS := Lib.hid hkid
      have HT : Hid (tr (ls.take j) = l.take j) := Lib.hid (by rw [← HLS.out]; unfold tr; rw [List.map_take])
      have HN : Hid (ls.take (j + 1) = ls.take j ++ [(Sh.mk ⟨k', x0', x1', x2', n0', n1', n2'⟩ sb, .slice a' sb.length cap')]) := Lib.hid (by rw [List.take_add_one, hx]; rfl)
      have HNc : Hid (chL (l.take (j + 1)) (tr ps) = chL (l.take j) (tr ps) ++ ((if k' = 3 then chL sb (tr ps ++ l.take j) else []) ++ [(tr ps ++ l.take j) ++ [.mk ⟨k', x0', x1', x2', n0', n1', n2'⟩ sb]])) := Lib.hid (by rw [chL_take_succ hlx, chs_mk])
      have HB : Hid (ps.length + j + (1 + countL sb) ≤ 5000) := Lib.hid (by
        have h1 := countL_take_succ hlx
        have h2 := countL_take_le l (j + 1)
        have h3 := length_countL (l.take j)
        have := HC.out
        rw [List.length_take] at h3
        simp only [Sh.count] at h1
        have := HL.out
        omega)
      have HWl : Hid (ws.length ≤ 5000) := Lib.hid (by
        have h1 := congrArg List.length HW.out
        have h2 := chL_len_le.2 (l.take j) (tr ps)
        have h3 := countL_take_le l j
        have := HC.out
        rw [List.length_map] at h1
        omega)
      have HTl : Hid ((ls.take j).length = j) := Lib.hid (by rw [List.length_take, HL2.out]; omega)
      clear hx hlx hrng hkid hLj
      obtain ⟨len', hlen'⟩ : ∃ n, sb.length = n := ⟨_, rfl⟩
      rw [hlen'] at HRng HS HN
      have HL' := Lib.hid hlen'
      clear hlen'
      -- the box of the condition, and the two appends that make its beginning
      obtain ⟨W1, hW1⟩ : ∃ W1, wr.alloc (.cells (arrR ⟨k', x0', x1', x2', n0', n1', n2'⟩ (.slice a' len' cap')) 44) = W1 := ⟨_, rfl⟩
      have KW1 : Kept Nil wr W1 := by rw [← hW1]; exact (Kept.refl Nil wr).alloc _
      have BX : Hid (Blk W1 wr.heap.size 44 (arrR ⟨k', x0', x1', x2', n0', n1', n2'⟩ (.slice a' len' cap'))) := Lib.hid (by rw [← hW1]; exact Blk.new _ _ _)
      have hs1 : W1.heap.size = wr.heap.size + 1 := by rw [← hW1]; simp
      have KW01 := Lib.hid (HK.out.trans KW1 (fun _ _ g => g))
      obtain ⟨v1, w2, r1, o1, k1, _⟩ := ORow.append (P := Try.prog) elsR kindR 29 (ORow.nil (E := cR) (e := 44) (B := W1.heap.size) W1) (HA.out.keptN KW01.out) (HAK.out.kept KW01.out (fun _ _ _ g => g)) (by have := HB.out; simp; omega) (Nat.le_refl _)
      have k1' : Kept Nil W1 w2 := k1.mono (fun i _ e => by cases e)
      rw [List.nil_append] at o1
      have hk12 := Lib.hid (KW01.out.trans k1' (fun _ _ g => g))
      have hLtj : Lies cR w2 (.slice (some ⟨b, o, none⟩) j cap) (ls.take j) := Lies.first kindR (At.keptN HLL.out hk12.out) hj
      obtain ⟨v2, w3, r2, o2, k2, _⟩ := ORow.append (P := Try.prog) elsR kindR 29 o1 hLtj ((HLK.out.take j).kept hk12.out (fun _ _ _ g => g)) (by have := HB.out; have := HTl.out; omega) k1'.size
      have k2' : Kept Nil W1 w3 := k1'.trans k2 (fun i hi e => by have := (ownsBlk o1 i e).1; omega)
      obtain ⟨a1, n1v, c1, rfl⟩ : ∃ a1 n1v c1, v1 = .slice a1 n1v c1 := by obtain ⟨x, y, e⟩ := (At.own o1).shape; exact ⟨x, _, y, e⟩
      have RR1 := Lib.hid r1
      have RR2 := Lib.hid r2
      have O2 := Lib.hid o2
      have BX3 := Lib.hid (BX.out.kept k2' id)
      have K3 := Lib.hid (KW1.trans k2' (fun _ _ g => g))
      have hs3 := k2'.size
      clear r1 r2 o1 o2 k1 k2 hLtj hk12 k1' k2' BX KW1
      obtain ⟨a2, n2v, c2, rfl⟩ : ∃ a2 n2v c2, v2 = .slice a2 n2v c2 := by obtain ⟨x, y, e⟩ := (At.own O2.out).shape; exact ⟨x, _, y, e⟩
      obtain ⟨au, cu, rfl⟩ := HR.out.shape
      have c0 := BX3.out.cell 0
      have c7 := BX3.out.cell 7
      simp at c0 c7
      have HQ3 : Hid (Kids cR w3 ok (ps ++ ls.take j)) := Lib.hid ((HAK.out.append (HLK.out.take j)).kept (HK.out.trans K3.out (fun _ _ g => g)) (fun _ _ _ g => g))
      have HQl : Hid ((ps ++ ls.take j).length = ps.length + j) := Lib.hid (by rw [List.length_append, HTl.out])
      have HQt : Hid (tr (ps ++ ls.take j) = tr ps ++ l.take j) := Lib.hid (by rw [tr_append, HT.out])
      have hk0 := HK.out.size
      -- nothing that is in the list lies in the beginning's block
      have hnew : ∀ g cs, Blk wr g 44 cs → w.heap.size ≤ g → w.heap.size ≤ g ∧ (Value.slice a2 n2v c2).ownBlock ≠ some g := fun g cs hb hg => ⟨hg, fun e => by have := (ownsBlk O2.out g e).1; have := hb.lt; omega⟩
      have HR3 := Lib.hid ((HR.out.mono hnew).keptN K3.out)
      have HU : Hid (∀ g, (Value.slice au ws.length cu).ownBlock = some g → g < wr.heap.size) := Lib.hid fun g hg => (HR.out.own g hg).2.1
      clear hnew
      by_cases hk3 : k' = 3
      · subst hk3
        have CX := Lib.hid (HX.out ok (.slice a2 n2v c2) (ps ++ ls.take j) a' cap' w3 (At.own O2.out) HQ3.out (by rw [HL'.out]; exact HS.out.keptN (HK.out.trans K3.out (fun _ _ g => g))) (fun b o hb => by have := HOk.out b o hb; omega) (by rw [HQl.out]; have := HB.out; omega))
        rw [HQt.out, HL'.out] at CX
        go_wp2_with (first
          | ((with_reducible refine wpList_load_R rfl (.tmp 14) rfl _ _ rfl ⟨3, x0', x1', x2', n0', n1', n2'⟩ (.slice a' len' cap') ?_ ?_)
             · exact HRng.out)
          | (at_builtin; refine wpList_append_run rfl (.tmp 16) (.tmp 17) 29 rfl _ _ rfl rfl RR1.out ?_)
          | (at_builtin; refine wpList_append_run rfl (.tmp 19) (.tmp 22) 29 rfl _ _ rfl rfl RR2.out ?_))
        refine CX.out.mono ?_
        rintro e w4 ⟨r, vs4, rfl, h4, hl4, k4⟩
        obtain ⟨ar, cr, rfl⟩ := hl4.shape
        have hv4 : vs4.length ≤ 5000 := by
          have h1 := congrArg List.length h4
          have h2 := chL_len_le.2 sb (tr ps ++ l.take j)
          have := HB.out
          rw [List.length_map] at h1
          omega
        obtain ⟨u5', w5, r5, o5, k5, _⟩ := LRow.append_all (P := Try.prog) elsLR neqLR 27 (HR3.out.keptN k4) hl4 (fun g cs hb hg => ⟨by omega, fun e => by have := (ownsBlk O2.out g e).2; obtain ⟨cur, hc⟩ := this; have := hc.lt; omega⟩) (by have := HWl.out; omega) (by have := k4.size; omega) HOk.out
        obtain ⟨a5, n5, c5, rfl⟩ : ∃ a5 n5 c5, u5' = .slice a5 n5 c5 := by obtain ⟨x, y, e⟩ := o5.shape; exact ⟨x, _, y, e⟩
        have hfar : ∀ k, (Value.slice au ws.length cu).ownBlock = some k → w.heap.size ≤ k ∧ k < wr.heap.size := fun k hk => ⟨(HR.out.own k hk).1, HU.out k hk⟩
        have hO5 : ORow cR 44 w5 W1.heap.size (.slice a2 n2v c2) (ps ++ ls.take j) := Kept.row k5 (Kept.row k4 O2.out (fun _ _ g => g)) (fun k hk hf => by have := (ownsBlk O2.out k hk).1; have := (hfar k hf).2; omega)
        have K05 : Kept Nil w w5 := ((HK.out.trans K3.out (fun _ _ g => g)).trans k4 (fun _ _ g => g)).trans k5 (fun i hi e => by have := (hfar i e).1; omega)
        have BX5 := Lib.hid ((BX3.out.kept k4 id).kept k5 (fun e => by have := (hfar _ e).2; omega))
        obtain ⟨a3, n3, c3, w7, a9, n9, c9, w9, r7, r9, o9, k9⟩ := refCh_tail o5 hO5 ((HAK.out.append (HLK.out.take j)).kept K05 (fun _ _ _ g => g)) ⟨3, x0', x1', x2', n0', n1', n2'⟩ sb (.slice a' len' cap') (HS.out.keptN K05) HOk.out (by omega) (by have := k4.size; have := k5.size; omega) (by rw [List.length_append]; have := HWl.out; omega) (by rw [HQl.out]; have := HB.out; omega)
        have RR5 := Lib.hid r5
        have RR7 := Lib.hid r7
        have RR9 := Lib.hid r9
        have HE9 := Lib.hid o9
        have KE9 := Lib.hid (K05.trans k9 (fun i hi e => by omega))
        have HTr : Hid ((ws ++ vs4 ++ [ps ++ ls.take j ++ [(Sh.mk ⟨3, x0', x1', x2', n0', n1', n2'⟩ sb, Value.slice a' len' cap')]]).map tr = chL (l.take (j + 1)) (tr ps)) := Lib.hid (by
          rw [HNc.out, if_pos trivial, List.map_append, List.map_append, HW.out, h4, List.append_assoc]
          simp only [List.map_cons, List.map_nil]
          rw [tr_append, HQt.out]; rfl)
        clear r5 r7 r9 o9 k9 o5 hO5 K05 k5 hfar h4 hl4 k4
        go_wp2_with (first
          | ((with_reducible refine wpList_load_R rfl (.tmp 7) rfl _ _ rfl ⟨3, x0', x1', x2', n0', n1', n2'⟩ (.slice a' len' cap') ?_ ?_)
             · exact World.rangeAt_of_block BX5.out 0 8)
          | (at_builtin; refine wpList_append_run rfl (.tmp 27) (.tmp 31) 27 rfl _ _ rfl rfl RR5.out ?_)
          | (at_builtin; refine wpList_append_run rfl (.tmp 33) (.tmp 35) 29 rfl _ _ rfl rfl RR7.out ?_)
          | (at_builtin; refine wpList_append_run rfl (.tmp 37) (.tmp 39) 27 rfl _ _ rfl rfl RR9.out ?_))
        go_roundw
        case rel => exact ⟨j + 1, _, by omega, by go_num, HTr.out, HE9.out, KE9.out⟩
        case measure => simp [intOf]; omega
      · have hk3' : (k' == 3) = false := by simpa using hk3
        have K03 : Kept Nil w w3 := HK.out.trans K3.out (fun _ _ g => g)
        obtain ⟨a3, n3, c3, w7, a9, n9, c9, w9, r7, r9, o9, k9⟩ := refCh_tail HR3.out O2.out HQ3.out ⟨k', x0', x1', x2', n0', n1', n2'⟩ sb (.slice a' len' cap') (HS.out.keptN K03) HOk.out (by omega) hs3 (by have := HWl.out; omega) (by rw [HQl.out]; have := HB.out; omega)
        have RR7 := Lib.hid r7
        have RR9 := Lib.hid r9
        have HE9 := Lib.hid o9
        have KE9 := Lib.hid (K03.trans k9 (fun i hi e => by omega))
        have HTr : Hid ((ws ++ [ps ++ ls.take j ++ [(Sh.mk ⟨k', x0', x1', x2', n0', n1', n2'⟩ sb, Value.slice a' len' cap')]]).map tr = chL (l.take (j + 1)) (tr ps)) := Lib.hid (by
          rw [HNc.out, if_neg hk3, List.map_append, HW.out]
          simp only [List.map_cons, List.map_nil]
          rw [tr_append, HQt.out]; rfl)
        clear r7 r9 o9 k9 K03
        go_wp2_with (first
          | ((with_reducible refine wpList_load_R rfl (.tmp 14) rfl _ _ rfl ⟨k', x0', x1', x2', n0', n1', n2'⟩ (.slice a' len' cap') ?_ ?_)
             · exact HRng.out)
          | ((with_reducible refine wpList_load_R rfl (.tmp 7) rfl _ _ rfl ⟨k', x0', x1', x2', n0', n1', n2'⟩ (.slice a' len' cap') ?_ ?_)
             · exact World.rangeAt_of_block BX3.out 0 8)
          | (at_builtin; refine wpList_append_run rfl (.tmp 16) (.tmp 17) 29 rfl _ _ rfl rfl RR1.out ?_)
          | (at_builtin; refine wpList_append_run rfl (.tmp 19) (.tmp 22) 29 rfl _ _ rfl rfl RR2.out ?_)
          | (at_builtin; refine wpList_append_run rfl (.tmp 33) (.tmp 35) 29 rfl _ _ rfl rfl RR7.out ?_)
          | (at_builtin; refine wpList_append_run rfl (.tmp 37) (.tmp 39) 27 rfl _ _ rfl rfl RR9.out ?_))
        go_roundw
        case rel => exact ⟨j + 1, _, by omega, by go_num, HTr.out, HE9.out, KE9.out⟩
        case measure => simp [intOf]; omega
    · obtain rfl : j = len := by omega
      have HE : Hid (l.take j = l) := Lib.hid (by rw [← HL.out]; simp)
      go_wp2_with fail
      go_ret
      exact ⟨_, ws, rfl, by rw [HW.out, HE.out], HR.out, HK.out⟩
theorem refCh_tree : ∀ s : Sh, ∀ ok va ps a cap w, Lies cR w va ps → Kids cR w ok ps → Holds cR w ok (.slice a s.subs.length cap) s.subs → (∀ b o, ok b o → b < w.heap.size) → ps.length + countL s.subs ≤ 5000 →
    Calls Try.prog 9 #[va, .slice a s.subs.length cap] w (ChEnd ok s.subs (tr ps) w) := by
  refine Sh.ind fun hd subs ih ok va ps a cap w h1 h2 h3 h4 h5 => ?_
  exact refCh_step subs _ rfl (fun hd' sb hx => ih _ hx) ok va ps a cap w h1 h2 h3 h4 h5
/-- The chains of the reference's conditions, as a law sees them. -/
theorem refChains_any (l : List Sh) (ok : Nat → Nat → Prop) (a : Option Addr) (cap : Nat) (w : World) (h : Holds cR w ok (.slice a l.length cap) l) (hok : ∀ b o, ok b o → b < w.heap.size) (hc : countL l ≤ 5000) :
    Calls Try.prog 9 #[.slice none 0 0, .slice a l.length cap] w fun e w' => ∃ r, e = .returned r ∧ Lists cR w' (fun b _ => b < w'.heap.size) r (chL l []) ∧ Kept Nil w w' := by
  refine (refCh_tree (.mk zeroH l) ok (.slice none 0 0) [] a cap w ⟨none, 0, rfl, .inl rfl⟩ Kids.nil h hok (by simpa [Sh.subs] using hc)).mono ?_
  rintro e w' ⟨r, ws, rfl, h1, h2, k⟩
  have h1' : ws.map tr = chL l [] := h1
  refine ⟨r, rfl, ?_, k⟩
  rw [← h1']
  exact h2.lists kindR (fun b o hb => by have := hok b o hb; have := k.size; omega) (fun g _ hg => hg)
end Go.Proofs.Ythabnbljngejbaa
