/- Layer comp: lists of slices of steps: their types; what a law sees of them. – Layer comp: the reference's chains of steps, in new memory. – Layer comp: slices.Clone of a chain of steps; the program's closure that keeps chains. – Layer comp: the program's walk over steps, which hands on each chain; Chains. – Layer comp: the program's Chains of right steps. -/
import Derived.Test.YtmpoeibkndcnnaaA3
import Derived.Test.YtmpoeibkndcnnaaA4
import Derived.Lib.SliceRun
namespace Go.Proofs.Ytmpoeibkndcnnaa
section
open Go.RowKit
set_option maxRecDepth 100000

theorem infoLS : (Try.prog.info? 37).map (fun i => (i.zero, i.size, i.bytes)) = some (some (.slice none 0 0), 1, 24) := by kernel_rfl
theorem infoLQ : (Try.prog.info? 39).map (fun i => (i.zero, i.size, i.bytes)) = some (some (.slice none 0 0), 1, 24) := by kernel_rfl
theorem elsLQ : Els Try.prog 46 39 1 := Els.of Try.underlying46 infoLQ rfl (by decide) (by decide)
theorem neqLS : 37 ≠ 59 := by decide
theorem neqLQ : 39 ≠ 54 := by decide
/-- A list of slices of steps, in memory. -/
def ListsS (w : World) (ok : Nat → Nat → Prop) (v : Value) (L : List (List St)) : Prop :=
  ∃ a cap, v = .slice a L.length cap ∧ L.length ≤ cap ∧ ∀ (i : Nat) x, L[i]? = some x → ∃ g b c, a = some ⟨g, 0, none⟩ ∧ w.cell? ⟨g, i, none⟩ = some (.slice b x.length c) ∧ SHolds w ok (.slice b x.length c) x
section
variable {e t : TypeId} {w w' : World} {B : Nat} {v u : Value} {ok ok' : Nat → Nat → Prop} {p : Nat → Prop} {ws : List (List SQ)} {L : List (List St)}
theorem ListsS.kept (h : ListsS w ok v L) (k : Kept Nil w w') : ListsS w' ok v L := by
  obtain ⟨a, cap, e1, hc, hx⟩ := h
  refine ⟨a, cap, e1, hc, fun i x hi => ?_⟩
  obtain ⟨g, b, c, e2, h1, h2⟩ := hx i x hi
  exact ⟨g, b, c, e2, k.cellOf h1, h2.keptN k⟩
theorem LRowD.listsS (h : LRowD kS e t w ok B p v ws) (ho : ∀ b o, ok b o → ok' b o) (hp : ∀ g, p g → g < w.heap.size → ok' g 0) : ListsS w ok' v (ws.map trS) := by
  obtain ⟨vals, hr, hk⟩ := h
  have hlen : vals.length = ws.length := by have := hr.1; omega
  have hl : (ws.map trS).length = ws.length := by simp
  rcases hr.2 with ⟨e1, e0⟩ | ⟨g, cap, cur, e1, hb, hg, hn, _⟩
  · obtain rfl := List.length_eq_zero_iff.1 e0
    exact ⟨none, 0, e1, Nat.zero_le _, fun i x hi => by simp at hi⟩
  · refine ⟨_, cap, by rw [hl]; exact e1, by rw [hl]; exact hn, fun i x hi => ?_⟩
    rw [List.getElem?_map] at hi
    obtain ⟨ps, hps, rfl⟩ := Option.map_eq_some_iff.1 hi
    have hil := (List.getElem?_eq_some_iff.1 hps).1
    have hv : vals[i]? = some vals[i] := List.getElem?_eq_getElem (by omega)
    have kd := hk i ps _ hps hv
    obtain ⟨g2, c, e2, hc2, hp2⟩ := kd.shape
    have hcell := hr.cells (g := g) (by rw [e1]; rfl) i _ hv
    rw [Addr.add_mid, Nat.zero_add, e2] at hcell
    have hli := kd.lies
    rw [e2] at hli
    have hlt := (kd.lt g2 (by rw [e2]; rfl)).1
    obtain ⟨_, _, _, _, _, _, _, _, hkk⟩ := kd
    refine ⟨g, _, c, rfl, by rw [trS_len]; exact hcell, ?_⟩
    rw [trS_len]
    exact LiesD.sholds hli (hkk.mono ho) hc2 (fun b o e3 => by cases e3; exact hp g2 hp2 hlt)
end
end
section
open Go.RowKit
set_option maxRecDepth 100000

/-- The reference's chains, in memory behind the call's beginning. -/
def SChEnd (ok : Nat → Nat → Prop) (l ab : List St) (w : World) (e : Ending) (w' : World) : Prop :=
  ∃ r ws, e = .returned r ∧ ws.map trS = chSL l ab ∧ LRowD kS 54 39 w' ok w.heap.size (fun g => w.heap.size ≤ g) r ws ∧ Kept Nil w w'
abbrev RefSChIH (l : List St) : Prop := ∀ hd sb, St.mk hd sb ∈ l → ∀ ok va ps a cap w, LiesD kS w va ps → KidsD kS w ok ps → SHolds w ok (.slice a sb.length cap) sb → (∀ b o, ok b o → b < w.heap.size) → ps.length + cntL sb ≤ 5000 →
  Calls Try.prog 19 #[va, .slice a sb.length cap] w (SChEnd ok sb (trS ps) w)
/-- The end of a round: the condition is put behind its beginning, and that into the list. -/
theorem refSCh_tail {w5 : World} {ok : Nat → Nat → Prop} {B B1 : Nat} {u : Value} {ws : List (List SQ)} {v2 : Value} {qs : List SQ} (hR : LRowD kS 54 39 w5 ok B (fun g => B ≤ g ∧ v2.ownBlock ≠ some g) u ws) (o2 : RowD kS 54 w5 B1 v2 qs) (hq : KidsD kS w5 ok qs)
    (hd : SH) (sb : List St) (vt vs : Value) (hs : kS.K w5 ok (.mk hd sb, vt, vs)) (hok : ∀ b o, ok b o → b < B) (hBB : B ≤ B1) (hB1 : B1 ≤ w5.heap.size) (hl : ws.length ≤ 10000) (hl2 : qs.length ≤ 5000) :
    ∃ a3 n3 c3 w7 a9 n9 c9 w9, (Builtin.append_ #[39, 39] 39 #[v2, .slice (some ⟨w5.heap.size, 0, none⟩) 1 1]).run Try.prog (w5.alloc (.cells (arrS hd vt vs) 54)) = .ok (.slice a3 n3 c3) w7 ∧
      (Builtin.append_ #[46, 46] 46 #[u, .slice (some ⟨w7.heap.size, 0, none⟩) 1 1]).run Try.prog (w7.alloc (.cells #[.slice a3 n3 c3] 39)) = .ok (.slice a9 n9 c9) w9 ∧
      LRowD kS 54 39 w9 ok B (fun g => B ≤ g) (.slice a9 n9 c9) (ws ++ [qs ++ [(.mk hd sb, vt, vs)]]) ∧ Kept (fun k => B ≤ k) w5 w9 := by
  have ka := (Kept.refl Nil w5).alloc (.cells (arrS hd vt vs) 54)
  obtain ⟨v3, w7, r7, o7, k7, h7⟩ := RowD.append (P := Try.prog) (qs := [(.mk hd sb, vt, vs)]) elsQ 39 (Kept.row ka o2 (fun _ _ g => g)) (At.lit w5 54 (arrS hd vt vs) _ (by rw [flatD_one]; rfl)) (KidsD.single (kS.keptN hs ka)) (by simp; omega) (by simp; omega)
  have k57 : Kept (fun k => v2.ownBlock = some k) w5 w7 := (ka.mono (fun _ _ g => g.elim)).trans k7 (fun _ _ g => g)
  have R7 := hR.kept k57 (fun g hg hf => by
    obtain ⟨_, _, cs, hb⟩ := hR.own g hg
    obtain ⟨_, cur, hc⟩ := ownsBlk o2 g hf
    exact neqLQ (blk_type hb hc)) (fun g cs _ hp hf => hp.2 hf) (fun b o hb hf => by have := (ownsBlk o2 b hf).1; have := hok b o hb; omega)
  have hq7 : KidsD kS w7 ok (qs ++ [(St.mk hd sb, vt, vs)]) := (hq.append (KidsD.single hs)).kept k57 (fun b o hb hf => by have := (ownsBlk o2 b hf).1; have := hok b o hb; omega)
  have kid : KidD kS 54 w7 ok (fun g => B ≤ g) v3 (qs ++ [(St.mk hd sb, vt, vs)]) := RowD.kid o7 (by simp) hq7 (fun g _ hb => by omega)
  have hsz := k57.size
  obtain ⟨v9, w9, r9, o9, k9, _⟩ := LRowD.append_one (P := Try.prog) elsLQ neqLQ 46 (R7.mono (fun g _ _ hp => hp.1)) kid hl (by omega) hok
  obtain ⟨a3, n3, c3, rfl⟩ : ∃ a3 n3 c3, v3 = .slice a3 n3 c3 := by
    obtain ⟨x, y, e⟩ := (At.own o7).shape
    exact ⟨x, _, y, e⟩
  obtain ⟨a9, n9, c9, rfl⟩ : ∃ a9 n9 c9, v9 = .slice a9 n9 c9 := by
    obtain ⟨x, y, e⟩ := o9.shape
    exact ⟨x, _, y, e⟩
  refine ⟨a3, n3, c3, w7, a9, n9, c9, w9, r7, r9, o9, ?_⟩
  refine Kept.trans (k57.mono (fun i _ e => by have := (ownsBlk o2 i e).1; omega)) (k9.mono (fun i _ e => ?_)) (fun _ _ g => g)
  exact (R7.own i e).1
set_option maxHeartbeats 4000000 in
theorem refSCh_step (l : List St) (len : Nat) (HL : Hid (l.length = len)) (IH : Hid (RefSChIH l)) (ok : Nat → Nat → Prop) (va : Value) (ps : List SQ) (a : Option Addr) (cap : Nat) (w : World) (HA : Hid (LiesD kS w va ps)) (HAK : Hid (KidsD kS w ok ps))
    (HH : Hid (SHolds w ok (.slice a len cap) l)) (HOk : Hid (∀ b o, ok b o → b < w.heap.size)) (HC : Hid (ps.length + cntL l ≤ 5000)) :
    Calls Try.prog 19 #[va, .slice a len cap] w (SChEnd ok l (trS ps) w) := by
  have hcap : len ≤ cap := HH.out.fits.2
  have hLen : len ≤ 5000 := by have := length_cntL l; have := HC.out; have := HL.out; omega
  obtain ⟨ls, hls, hll, hlk⟩ := HH.out.pairs
  have HLS := Lib.hid hls
  have HLL := Lib.hid hll
  have HLK := Lib.hid hlk
  have hll2 : ls.length = len := by rw [← trS_len, hls, HL.out]
  have HL2 := Lib.hid hll2
  clear hls hll hlk hll2
  obtain ⟨aa, na, ca, rfl⟩ : ∃ aa na ca, va = .slice aa na ca := by obtain ⟨aa, ca, e⟩ := HA.out.shape; exact ⟨aa, _, ca, e⟩
  go_enter Try.func19, Try.ntmps19
  go_wp2_with fail
  go_loopw [5, 11] (fun u i wr => ∃ (j : Nat) (ws : List (List SQ)), j ≤ len ∧ i = .int .i64 j ∧ ws.map trS = chSL (l.take j) (trS ps) ∧ LRowD kS 54 39 wr ok w.heap.size (fun g => w.heap.size ≤ g) u ws ∧ Kept Nil w wr) (fun _ i _ => len - (intOf i).toNat)
  case atStart => exact ⟨0, [], by omega, rfl, by rw [List.take_zero, chSL_nil]; rfl, LRowD.nil _, Kept.refl _ _⟩
  case round =>
    obtain ⟨j, ws, hj, rfl, hws, hR, hK⟩ := hrel
    have HR := Lib.hid hR
    have HK := Lib.hid hK
    have HW := Lib.hid hws
    clear hR hK hws
    by_cases hlt : j < len
    · obtain ⟨⟨⟨⟨k', k0', k1', k2', ts'⟩, sb⟩, vt, vs⟩, hx⟩ : ∃ x, ls[j]? = some x := ⟨_, List.getElem?_eq_getElem (by have := HL2.out; omega)⟩
      have hkid : kS.K w ok (St.mk ⟨k', k0', k1', k2', ts'⟩ sb, vt, vs) := HLK.out _ (List.mem_of_getElem? hx)
      have hk1 : TsAt w ok vt ts' := hkid.1
      have hk2 : SHolds w ok vs sb := hkid.2
      obtain ⟨ta', tc', rfl, _⟩ := hk1.shape
      obtain ⟨a', cap', rfl, _⟩ := hk2.shape
      clear hk1 hk2
      have hLj : LiesD kS w (.slice a len cap) ls := HLL.out
      obtain ⟨b, o, rfl, hrng⟩ := LiesD.at_ hLj hx
      have hlx : l[j]? = some (.mk ⟨k', k0', k1', k2', ts'⟩ sb) := by rw [← HLS.out]; unfold trS; rw [List.getElem?_map, hx]; rfl
      have HX := Lib.hid (IH.out _ _ (List.mem_of_getElem? hlx))
      have HRng : Hid (wr.rangeAt b (o + j * 6) (cS ⟨k', k0', k1', k2', ts'⟩ (.slice ta' ts'.length tc') (.slice a' sb.length cap'))) := Lib.hid (rangeAt_kept HK.out (fun g => g) hrng)
      have HS : Hid (TsAt w ok (.slice ta' ts'.length tc') ts' ∧ SHolds w ok (.slice a' sb.length cap') sb) := Lib.hid hkid
      have HT : Hid (trS (ls.take j) = l.take j) := Lib.hid (by rw [← HLS.out]; unfold trS; rw [List.map_take])
      have HN : Hid (ls.take (j + 1) = ls.take j ++ [(St.mk ⟨k', k0', k1', k2', ts'⟩ sb, .slice ta' ts'.length tc', .slice a' sb.length cap')]) := Lib.hid (by rw [List.take_add_one, hx]; rfl)
      have HNc : Hid (chSL (l.take (j + 1)) (trS ps) = chSL (l.take j) (trS ps) ++ ((if k' = 3 then chSL sb (trS ps ++ l.take j) else []) ++ [(trS ps ++ l.take j) ++ [.mk ⟨k', k0', k1', k2', ts'⟩ sb]])) := Lib.hid (by rw [chSL_take_succ hlx, chsS_mk])
      have HB : Hid (ps.length + j + (1 + cntL sb) ≤ 5000) := Lib.hid (by
        have h1 := cntL_take_succ hlx
        have h2 := cntL_take_le l (j + 1)
        have h3 := length_cntL (l.take j)
        have := HC.out
        rw [List.length_take] at h3
        simp only [St.cnt] at h1
        have := HL.out
        omega)
      have HWl : Hid (ws.length ≤ 5000) := Lib.hid (by
        have h1 := congrArg List.length HW.out
        have h2 := chSL_len_le.2 (l.take j) (trS ps)
        have h3 := cntL_take_le l j
        have := HC.out
        rw [List.length_map] at h1
        omega)
      have HTl : Hid ((ls.take j).length = j) := Lib.hid (by rw [List.length_take, HL2.out]; omega)
      clear hx hlx hrng hkid hLj
      obtain ⟨len', hlen'⟩ : ∃ n, sb.length = n := ⟨_, rfl⟩
      obtain ⟨tn', htn'⟩ : ∃ n, ts'.length = n := ⟨_, rfl⟩
      rw [hlen', htn'] at HRng HS HN
      clear htn'
      have HL' := Lib.hid hlen'
      clear hlen'
      -- the box of the condition, and the two appends that make its beginning
      obtain ⟨W1, hW1⟩ : ∃ W1, wr.alloc (.cells (arrS ⟨k', k0', k1', k2', ts'⟩ (.slice ta' tn' tc') (.slice a' len' cap')) 54) = W1 := ⟨_, rfl⟩
      have KW1 : Kept Nil wr W1 := by rw [← hW1]; exact (Kept.refl Nil wr).alloc _
      have BX : Hid (Blk W1 wr.heap.size 54 (arrS ⟨k', k0', k1', k2', ts'⟩ (.slice ta' tn' tc') (.slice a' len' cap'))) := Lib.hid (by rw [← hW1]; exact Blk.new _ _ _)
      have hs1 : W1.heap.size = wr.heap.size + 1 := by rw [← hW1]; simp
      have KW01 := Lib.hid (HK.out.trans KW1 (fun _ _ g => g))
      obtain ⟨v1, w2, r1, o1, k1, _⟩ := RowD.append (P := Try.prog) elsQ 39 (RowD.nil (D := kS) (e := 54) (B := W1.heap.size) W1) (HA.out.keptN KW01.out) (HAK.out.kept KW01.out (fun _ _ _ g => g)) (by have := HB.out; simp; omega) (Nat.le_refl _)
      have k1' : Kept Nil W1 w2 := k1.mono (fun i _ e => by cases e)
      rw [List.nil_append] at o1
      have hk12 := Lib.hid (KW01.out.trans k1' (fun _ _ g => g))
      have hLtj : LiesD kS w2 (.slice (some ⟨b, o, none⟩) j cap) (ls.take j) := LiesD.first (At.keptN HLL.out hk12.out) hj
      obtain ⟨v2, w3, r2, o2, k2, _⟩ := RowD.append (P := Try.prog) elsQ 39 o1 hLtj ((HLK.out.take j).kept hk12.out (fun _ _ _ g => g)) (by have := HB.out; have := HTl.out; omega) k1'.size
      have k2' : Kept Nil W1 w3 := k1'.trans k2 (fun i hi e => by have := (ownsBlk o1 i e).1; omega)
      obtain ⟨a1, n1v, c1, rfl⟩ : ∃ a1 n1v c1, v1 = .slice a1 n1v c1 := by obtain ⟨x, y, e⟩ := (At.own o1).shape; exact ⟨x, _, y, e⟩
      have RR1 := Lib.hid r1
      have RR2 := Lib.hid r2
      have O2 := Lib.hid o2
      have BX3 := Lib.hid (BX.out.kept k2' id)
      have K3 := Lib.hid (KW1.trans k2' (fun _ _ g => g))
      have hs3 := k2'.size
      clear r1 r2 o1 o2 k1 k2 hLtj hk12 k1' k2' BX KW1
      obtain ⟨a2, n2v, c2, rfl⟩ : ∃ a2 n2v c2, v2 = .slice a2 n2v c2 := by obtain ⟨x, y, e⟩ := (At.own O2.out).shape; exact ⟨x, _, y, e⟩
      obtain ⟨au, cu, rfl⟩ := HR.out.shape
      have c0 := BX3.out.cell 0
      have c7 := BX3.out.cell 5
      simp at c0 c7
      have HQ3 : Hid (KidsD kS w3 ok (ps ++ ls.take j)) := Lib.hid ((HAK.out.append (HLK.out.take j)).kept (HK.out.trans K3.out (fun _ _ g => g)) (fun _ _ _ g => g))
      have HQl : Hid ((ps ++ ls.take j).length = ps.length + j) := Lib.hid (by rw [List.length_append, HTl.out])
      have HQt : Hid (trS (ps ++ ls.take j) = trS ps ++ l.take j) := Lib.hid (by rw [trS_append, HT.out])
      have hk0 := HK.out.size
      -- nothing that is in the list lies in the beginning's block
      have hnew : ∀ g cs, Blk wr g 54 cs → w.heap.size ≤ g → w.heap.size ≤ g ∧ (Value.slice a2 n2v c2).ownBlock ≠ some g := fun g cs hb hg => ⟨hg, fun e => by have := (ownsBlk O2.out g e).1; have := hb.lt; omega⟩
      have HR3 := Lib.hid ((HR.out.mono hnew).keptN K3.out)
      have HU : Hid (∀ g, (Value.slice au ws.length cu).ownBlock = some g → g < wr.heap.size) := Lib.hid fun g hg => (HR.out.own g hg).2.1
      clear hnew
      by_cases hk3 : k' = 3
      · subst hk3
        have CX := Lib.hid (HX.out ok (.slice a2 n2v c2) (ps ++ ls.take j) a' cap' w3 (At.own O2.out) HQ3.out (by rw [HL'.out]; exact HS.out.2.keptN (HK.out.trans K3.out (fun _ _ g => g))) (fun b o hb => by have := HOk.out b o hb; omega) (by rw [HQl.out]; have := HB.out; omega))
        rw [HQt.out, HL'.out] at CX
        go_wp2_with (first
          | ((with_reducible refine wpList_load_Q rfl (.tmp 14) rfl _ _ rfl ⟨3, k0', k1', k2', ts'⟩ (.slice ta' tn' tc') (.slice a' len' cap') ?_ ?_)
             · exact HRng.out)
          | (at_builtin; refine wpList_append_run rfl (.tmp 16) (.tmp 17) 39 rfl _ _ rfl rfl RR1.out ?_)
          | (at_builtin; refine wpList_append_run rfl (.tmp 19) (.tmp 22) 39 rfl _ _ rfl rfl RR2.out ?_))
        refine CX.out.mono ?_
        rintro e w4 ⟨r, vs4, rfl, h4, hl4, k4⟩
        obtain ⟨ar, cr, rfl⟩ := hl4.shape
        have hv4 : vs4.length ≤ 5000 := by
          have h1 := congrArg List.length h4
          have h2 := chSL_len_le.2 sb (trS ps ++ l.take j)
          have := HB.out
          rw [List.length_map] at h1
          omega
        obtain ⟨u5', w5, r5, o5, k5, _⟩ := LRowD.append_all (P := Try.prog) elsLQ neqLQ 46 (HR3.out.keptN k4) hl4 (fun g cs hb hg => ⟨by omega, fun e => by have := (ownsBlk O2.out g e).2; obtain ⟨cur, hc⟩ := this; have := hc.lt; omega⟩) (by have := HWl.out; omega) (by have := k4.size; omega) HOk.out
        obtain ⟨a5, n5, c5, rfl⟩ : ∃ a5 n5 c5, u5' = .slice a5 n5 c5 := by obtain ⟨x, y, e⟩ := o5.shape; exact ⟨x, _, y, e⟩
        have hfar : ∀ k, (Value.slice au ws.length cu).ownBlock = some k → w.heap.size ≤ k ∧ k < wr.heap.size := fun k hk => ⟨(HR.out.own k hk).1, HU.out k hk⟩
        have hO5 : RowD kS 54 w5 W1.heap.size (.slice a2 n2v c2) (ps ++ ls.take j) := Kept.row k5 (Kept.row k4 O2.out (fun _ _ g => g)) (fun k hk hf => by have := (ownsBlk O2.out k hk).1; have := (hfar k hf).2; omega)
        have K05 : Kept Nil w w5 := ((HK.out.trans K3.out (fun _ _ g => g)).trans k4 (fun _ _ g => g)).trans k5 (fun i hi e => by have := (hfar i e).1; omega)
        have BX5 := Lib.hid ((BX3.out.kept k4 id).kept k5 (fun e => by have := (hfar _ e).2; omega))
        obtain ⟨a3, n3, c3, w7, a9, n9, c9, w9, r7, r9, o9, k9⟩ := refSCh_tail o5 hO5 ((HAK.out.append (HLK.out.take j)).kept K05 (fun _ _ _ g => g)) ⟨3, k0', k1', k2', ts'⟩ sb (.slice ta' tn' tc') (.slice a' len' cap') (kS.keptN (q := (St.mk _ sb, .slice ta' tn' tc', .slice a' len' cap')) HS.out K05) HOk.out (by omega) (by have := k4.size; have := k5.size; omega) (by rw [List.length_append]; have := HWl.out; omega) (by rw [HQl.out]; have := HB.out; omega)
        have RR5 := Lib.hid r5
        have RR7 := Lib.hid r7
        have RR9 := Lib.hid r9
        have HE9 := Lib.hid o9
        have KE9 := Lib.hid (K05.trans k9 (fun i hi e => by omega))
        have HTr : Hid ((ws ++ vs4 ++ [ps ++ ls.take j ++ [(St.mk ⟨3, k0', k1', k2', ts'⟩ sb, Value.slice ta' tn' tc', Value.slice a' len' cap')]]).map trS = chSL (l.take (j + 1)) (trS ps)) := Lib.hid (by
          rw [HNc.out, if_pos trivial, List.map_append, List.map_append, HW.out, h4, List.append_assoc]
          simp only [List.map_cons, List.map_nil]
          rw [trS_append, HQt.out]; rfl)
        clear r5 r7 r9 o9 k9 o5 hO5 K05 k5 hfar h4 hl4 k4
        go_wp2_with (first
          | ((with_reducible refine wpList_load_Q rfl (.tmp 7) rfl _ _ rfl ⟨3, k0', k1', k2', ts'⟩ (.slice ta' tn' tc') (.slice a' len' cap') ?_ ?_)
             · exact World.rangeAt_of_block BX5.out 0 6)
          | (at_builtin; refine wpList_append_run rfl (.tmp 27) (.tmp 31) 46 rfl _ _ rfl rfl RR5.out ?_)
          | (at_builtin; refine wpList_append_run rfl (.tmp 33) (.tmp 35) 39 rfl _ _ rfl rfl RR7.out ?_)
          | (at_builtin; refine wpList_append_run rfl (.tmp 37) (.tmp 39) 46 rfl _ _ rfl rfl RR9.out ?_))
        go_roundw
        case rel => exact ⟨j + 1, _, by omega, by go_num, HTr.out, HE9.out, KE9.out⟩
        case measure => simp [intOf]; omega
      · have hk3' : (k' == 3) = false := by simpa using hk3
        have K03 : Kept Nil w w3 := HK.out.trans K3.out (fun _ _ g => g)
        obtain ⟨a3, n3, c3, w7, a9, n9, c9, w9, r7, r9, o9, k9⟩ := refSCh_tail HR3.out O2.out HQ3.out ⟨k', k0', k1', k2', ts'⟩ sb (.slice ta' tn' tc') (.slice a' len' cap') (kS.keptN (q := (St.mk _ sb, .slice ta' tn' tc', .slice a' len' cap')) HS.out K03) HOk.out (by omega) hs3 (by have := HWl.out; omega) (by rw [HQl.out]; have := HB.out; omega)
        have RR7 := Lib.hid r7
        have RR9 := Lib.hid r9
        have HE9 := Lib.hid o9
        have KE9 := Lib.hid (K03.trans k9 (fun i hi e => by omega))
        have HTr : Hid ((ws ++ [ps ++ ls.take j ++ [(St.mk ⟨k', k0', k1', k2', ts'⟩ sb, Value.slice ta' tn' tc', Value.slice a' len' cap')]]).map trS = chSL (l.take (j + 1)) (trS ps)) := Lib.hid (by
          rw [HNc.out, if_neg hk3, List.map_append, HW.out]
          simp only [List.map_cons, List.map_nil]
          rw [trS_append, HQt.out]; rfl)
        clear r7 r9 o9 k9 K03
        go_wp2_with (first
          | ((with_reducible refine wpList_load_Q rfl (.tmp 14) rfl _ _ rfl ⟨k', k0', k1', k2', ts'⟩ (.slice ta' tn' tc') (.slice a' len' cap') ?_ ?_)
             · exact HRng.out)
          | ((with_reducible refine wpList_load_Q rfl (.tmp 7) rfl _ _ rfl ⟨k', k0', k1', k2', ts'⟩ (.slice ta' tn' tc') (.slice a' len' cap') ?_ ?_)
             · exact World.rangeAt_of_block BX3.out 0 6)
          | (at_builtin; refine wpList_append_run rfl (.tmp 16) (.tmp 17) 39 rfl _ _ rfl rfl RR1.out ?_)
          | (at_builtin; refine wpList_append_run rfl (.tmp 19) (.tmp 22) 39 rfl _ _ rfl rfl RR2.out ?_)
          | (at_builtin; refine wpList_append_run rfl (.tmp 33) (.tmp 35) 39 rfl _ _ rfl rfl RR7.out ?_)
          | (at_builtin; refine wpList_append_run rfl (.tmp 37) (.tmp 39) 46 rfl _ _ rfl rfl RR9.out ?_))
        go_roundw
        case rel => exact ⟨j + 1, _, by omega, by go_num, HTr.out, HE9.out, KE9.out⟩
        case measure => simp [intOf]; omega
    · obtain rfl : j = len := by omega
      have HE : Hid (l.take j = l) := Lib.hid (by rw [← HL.out]; simp)
      go_wp2_with fail
      go_ret
      exact ⟨_, ws, rfl, by rw [HW.out, HE.out], HR.out, HK.out⟩
theorem refSCh_tree : ∀ s : St, ∀ ok va ps a cap w, LiesD kS w va ps → KidsD kS w ok ps → SHolds w ok (.slice a s.subs.length cap) s.subs → (∀ b o, ok b o → b < w.heap.size) → ps.length + cntL s.subs ≤ 5000 →
    Calls Try.prog 19 #[va, .slice a s.subs.length cap] w (SChEnd ok s.subs (trS ps) w) := by
  refine St.ind fun hd subs ih ok va ps a cap w h1 h2 h3 h4 h5 => ?_
  exact refSCh_step subs _ rfl (fun hd' sb hx => ih _ hx) ok va ps a cap w h1 h2 h3 h4 h5
/-- The chains of the reference's conditions, as a law sees them. -/
theorem refSChains_any (l : List St) (ok : Nat → Nat → Prop) (a : Option Addr) (cap : Nat) (w : World) (h : SHolds w ok (.slice a l.length cap) l) (hok : ∀ b o, ok b o → b < w.heap.size) (hc : cntL l ≤ 5000) :
    Calls Try.prog 19 #[.slice none 0 0, .slice a l.length cap] w fun e w' => ∃ r, e = .returned r ∧ ListsS w' (fun b _ => b < w'.heap.size) r (chSL l []) ∧ Kept Nil w w' := by
  refine (refSCh_tree (.mk ⟨0, 0, 0, 0, []⟩ l) ok (.slice none 0 0) [] a cap w ⟨none, 0, rfl, .inl rfl⟩ KidsD.nil h hok (by simpa [St.subs] using hc)).mono ?_
  rintro e w' ⟨r, ws, rfl, h1, h2, k⟩
  have h1' : ws.map trS = chSL l [] := h1
  refine ⟨r, rfl, ?_, k⟩
  rw [← h1']
  exact h2.listsS (fun b o hb => by have := hok b o hb; have := k.size; omega) (fun g _ hg => hg)
end
section
open Go.RowKit
set_option maxRecDepth 100000

end
section
open Go.RowKit
set_option maxRecDepth 100000

/-- What the walk's present chain is to its beginning: the same row, longer; or a new one. -/
def GrowsS (w : World) (v : Value) (n : Nat) (vj : Value) (j : Nat) : Prop := (∃ a0 c0, v = .slice a0 n c0 ∧ vj = .slice a0 (n + j) c0) ∨ ∃ k, vj.ownBlock = some k ∧ w.heap.size ≤ k
theorem RowD.far {w w' : World} {B : Nat} {v : Value} {ps : List SQ} {F : Nat → Prop} (h : RowD kS 59 w B v ps) (k : Kept F w w') (hF : ∀ g, v.ownBlock = some g → ¬ F g) : RowD kS 59 w' B v ps := Kept.row k h hF
theorem RowD.head {w : World} {B : Nat} {a : Option Addr} {n m c : Nat} {ps qs : List SQ} (h : RowD kS 59 w B (.slice a m c) (ps ++ qs)) (hn : n = ps.length) (hm : m = (ps ++ qs).length) : RowD kS 59 w B (.slice a n c) ps := by
  subst hn hm
  have h' : w.ownsRow B 59 kS.sz (.slice a (ps ++ qs).length c) (ps ++ qs).length (flatD kS ps ++ flatD kS qs) := by rw [← flatD_append]; exact h
  exact ownsRow_head h' (flatD_len ps) (by simp)
theorem ownS_row_type {w : World} {B B' : Nat} {v u : Value} {ps : List SQ} {ok : Nat → Nat → Prop} {p : Nat → Prop} {ws : List (List SQ)} (h : RowD kS 59 w B v ps) (hR : LRowD kS 59 37 w ok B' p u ws) : ∀ k, v.ownBlock = some k → u.ownBlock ≠ some k := fun k h1 h2 => by
  obtain ⟨_, cur, hc⟩ := ownsBlk h k h1
  obtain ⟨_, _, cs, hb⟩ := hR.own k h2
  exact neqLS (blk_type hb hc)
theorem RowD.back {w wr w3 : World} {B j : Nat} {v vj : Value} {ps qs : List SQ} {F : Nat → Prop} (hA : RowD kS 59 wr B v ps) (hJ : RowD kS 59 w3 B vj (ps ++ qs)) (hq : qs.length = j) (hg : GrowsS w v ps.length vj j) (hv : ∀ k, v.ownBlock = some k → k < w.heap.size) (k : Kept F wr w3) (hF : ∀ g, v.ownBlock = some g → F g → vj.ownBlock = some g) : RowD kS 59 w3 B v ps := by
  rcases hg with ⟨a0, c0, f1, f2⟩ | ⟨k2, f1, f2⟩
  · subst f1 f2
    exact RowD.head hJ rfl (by simp; omega)
  · refine hA.far k (fun g hg hf => ?_)
    have h1 := hF g hg hf
    rw [f1] at h1
    cases h1
    have := hv _ hg
    omega
end
section
open Go.RowKit
set_option maxRecDepth 100000

end
end Go.Proofs.Ytmpoeibkndcnnaa
