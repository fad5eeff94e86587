/- Layer comp: lists of slices of steps: their types; what a law sees of them. – Layer comp: the reference's chains of steps, in new memory. – Layer comp: slices.Clone of a chain of steps; the program's closure that keeps chains. – Layer comp: the program's walk over steps, which hands on each chain; Chains. – Layer comp: the program's Chains of right steps. -/
import Derived.Test.YtljefbfjehblpaaGreatA5
import Derived.Test.YtljefbfjehblpaaGreatA11
import Derived.Lib.SliceRun
import Derived.Test.YtljefbfjehblpaaGreatA12
namespace Go.Proofs.YtljefbfjehblpaaGreat
section
section
open Go.RowKit
set_option maxRecDepth 100000

theorem infoLS : (Tryz.prog.info? 44).map (fun i => (i.zero, i.size, i.bytes)) = some (some (.slice none 0 0), 1, 24) := by kernel_rfl
theorem infoLQ : (Tryz.prog.info? 35).map (fun i => (i.zero, i.size, i.bytes)) = some (some (.slice none 0 0), 1, 24) := by kernel_rfl
theorem elsLS : Els Tryz.prog 124 44 1 := Els.of Tryz.underlying124 infoLS rfl (by decide) (by decide)
theorem elsLQ : Els Tryz.prog 27 35 1 := Els.of Tryz.underlying27 infoLQ rfl (by decide) (by decide)
theorem neqLS : 44 ≠ 65 := by decide
theorem neqLQ : 35 ≠ 82 := by decide
/-- A list of slices of steps, in memory. -/
def ListsS (w : World) (ok : Nat → Nat → Prop) (v : Value) (L : List (List St)) : Prop :=
  ∃ a cap, v = .slice a L.length cap ∧ L.length ≤ cap ∧ ∀ (i : Nat) x, L[i]? = some x → ∃ g b c, a = some ⟨g, 0, none⟩ ∧ w.cell? ⟨g, i, none⟩ = some (.slice b x.length c) ∧ SHolds w ok (.slice b x.length c) x
section
variable {e t : TypeId} {w w' : World} {B : Nat} {v u : Value} {ok ok' : Nat → Nat → Prop} {p : Nat → Prop} {ws : List (List SQ)} {L : List (List St)}
theorem ListsS.kept (h : ListsS w ok v L) (k : Kept Nil w w') : ListsS w' ok v L := by
  obtain ⟨a, cap, e1, hc, hx⟩ := h
  refine ⟨a, cap, e1, hc, fun i x hi => ?_⟩
  obtain ⟨g, b, c, e2, h1, h2⟩ := hx i x hi
  exact ⟨g, b, c, e2, k.cellOf h1, h2.keptN k⟩
theorem LRowD.listsS (h : LRowD kS e t w ok B p v ws) (ho : ∀ b o, ok b o → ok' b o) (hp : ∀ g, p g → g < w.heap.size → ok' g 0) : ListsS w ok' v (ws.map trS) := by
  obtain ⟨vals, hr, hk⟩ := h
  have hlen : vals.length = ws.length := by have := hr.1; omega
  have hl : (ws.map trS).length = ws.length := by simp
  rcases hr.2 with ⟨e1, e0⟩ | ⟨g, cap, cur, e1, hb, hg, hn, _⟩
  · obtain rfl := List.length_eq_zero_iff.1 e0
    exact ⟨none, 0, e1, Nat.zero_le _, fun i x hi => by simp at hi⟩
  · refine ⟨_, cap, by rw [hl]; exact e1, by rw [hl]; exact hn, fun i x hi => ?_⟩
    rw [List.getElem?_map] at hi
    obtain ⟨ps, hps, rfl⟩ := Option.map_eq_some_iff.1 hi
    have hil := (List.getElem?_eq_some_iff.1 hps).1
    have hv : vals[i]? = some vals[i] := List.getElem?_eq_getElem (by omega)
    have kd := hk i ps _ hps hv
    obtain ⟨g2, c, e2, hc2, hp2⟩ := kd.shape
    have hcell := hr.cells (g := g) (by rw [e1]; rfl) i _ hv
    rw [Addr.add_mid, Nat.zero_add, e2] at hcell
    have hli := kd.lies
    rw [e2] at hli
    have hlt := (kd.lt g2 (by rw [e2]; rfl)).1
    obtain ⟨_, _, _, _, _, _, _, _, hkk⟩ := kd
    refine ⟨g, _, c, rfl, by rw [trS_len]; exact hcell, ?_⟩
    rw [trS_len]
    exact LiesD.sholds hli (hkk.mono ho) hc2 (fun b o e3 => by cases e3; exact hp g2 hp2 hlt)
end
end
section
open Go.RowKit
set_option maxRecDepth 100000

/-- The reference's chains, in memory behind the call's beginning. -/
def SChEnd (ok : Nat → Nat → Prop) (l ab : List St) (w : World) (e : Ending) (w' : World) : Prop :=
  ∃ r ws, e = .returned r ∧ ws.map trS = chSL l ab ∧ LRowD kS 82 35 w' ok w.heap.size (fun g => w.heap.size ≤ g) r ws ∧ Kept Nil w w'
abbrev RefSChIH (l : List St) : Prop := ∀ hd sb, St.mk hd sb ∈ l → ∀ ok va ps a cap w, LiesD kS w va ps → KidsD kS w ok ps → SHolds w ok (.slice a sb.length cap) sb → (∀ b o, ok b o → b < w.heap.size) → ps.length + cntL sb ≤ 5000 →
  Calls Tryz.prog 34 #[va, .slice a sb.length cap] w (SChEnd ok sb (trS ps) w)
/-- The end of a round: the condition is put behind its beginning, and that into the list. -/
theorem refSCh_tail {w5 : World} {ok : Nat → Nat → Prop} {B B1 : Nat} {u : Value} {ws : List (List SQ)} {v2 : Value} {qs : List SQ} (hR : LRowD kS 82 35 w5 ok B (fun g => B ≤ g ∧ v2.ownBlock ≠ some g) u ws) (o2 : RowD kS 82 w5 B1 v2 qs) (hq : KidsD kS w5 ok qs)
    (hd : SH) (sb : List St) (vt vs : Value) (hs : kS.K w5 ok (.mk hd sb, vt, vs)) (hok : ∀ b o, ok b o → b < B) (hBB : B ≤ B1) (hB1 : B1 ≤ w5.heap.size) (hl : ws.length ≤ 10000) (hl2 : qs.length ≤ 5000) :
    ∃ a3 n3 c3 w7 a9 n9 c9 w9, (Builtin.append_ #[35, 35] 35 #[v2, .slice (some ⟨w5.heap.size, 0, none⟩) 1 1]).run Tryz.prog (w5.alloc (.cells (arrS hd vt vs) 82)) = .ok (.slice a3 n3 c3) w7 ∧
      (Builtin.append_ #[27, 27] 27 #[u, .slice (some ⟨w7.heap.size, 0, none⟩) 1 1]).run Tryz.prog (w7.alloc (.cells #[.slice a3 n3 c3] 35)) = .ok (.slice a9 n9 c9) w9 ∧
      LRowD kS 82 35 w9 ok B (fun g => B ≤ g) (.slice a9 n9 c9) (ws ++ [qs ++ [(.mk hd sb, vt, vs)]]) ∧ Kept (fun k => B ≤ k) w5 w9 := by
  have ka := (Kept.refl Nil w5).alloc (.cells (arrS hd vt vs) 82)
  obtain ⟨v3, w7, r7, o7, k7, h7⟩ := RowD.append (P := Tryz.prog) (qs := [(.mk hd sb, vt, vs)]) elsQ 35 (Kept.row ka o2 (fun _ _ g => g)) (At.lit w5 82 (arrS hd vt vs) _ (by rw [flatD_one]; rfl)) (KidsD.single (kS.keptN hs ka)) (by simp; omega) (by simp; omega)
  have k57 : Kept (fun k => v2.ownBlock = some k) w5 w7 := (ka.mono (fun _ _ g => g.elim)).trans k7 (fun _ _ g => g)
  have R7 := hR.kept k57 (fun g hg hf => by
    obtain ⟨_, _, cs, hb⟩ := hR.own g hg
    obtain ⟨_, cur, hc⟩ := ownsBlk o2 g hf
    exact neqLQ (blk_type hb hc)) (fun g cs _ hp hf => hp.2 hf) (fun b o hb hf => by have := (ownsBlk o2 b hf).1; have := hok b o hb; omega)
  have hq7 : KidsD kS w7 ok (qs ++ [(St.mk hd sb, vt, vs)]) := (hq.append (KidsD.single hs)).kept k57 (fun b o hb hf => by have := (ownsBlk o2 b hf).1; have := hok b o hb; omega)
  have kid : KidD kS 82 w7 ok (fun g => B ≤ g) v3 (qs ++ [(St.mk hd sb, vt, vs)]) := RowD.kid o7 (by simp) hq7 (fun g _ hb => by omega)
  have hsz := k57.size
  obtain ⟨v9, w9, r9, o9, k9, _⟩ := LRowD.append_one (P := Tryz.prog) elsLQ neqLQ 27 (R7.mono (fun g _ _ hp => hp.1)) kid hl (by omega) hok
  obtain ⟨a3, n3, c3, rfl⟩ : ∃ a3 n3 c3, v3 = .slice a3 n3 c3 := by
    obtain ⟨x, y, e⟩ := (At.own o7).shape
    exact ⟨x, _, y, e⟩
  obtain ⟨a9, n9, c9, rfl⟩ : ∃ a9 n9 c9, v9 = .slice a9 n9 c9 := by
    obtain ⟨x, y, e⟩ := o9.shape
    exact ⟨x, _, y, e⟩
  refine ⟨a3, n3, c3, w7, a9, n9, c9, w9, r7, r9, o9, ?_⟩
  refine Kept.trans (k57.mono (fun i _ e => by have := (ownsBlk o2 i e).1; omega)) (k9.mono (fun i _ e => ?_)) (fun _ _ g => g)
  exact (R7.own i e).1
set_option maxHeartbeats 4000000 in
theorem refSCh_step (l : List St) (len : Nat) (HL : Hid (l.length = len)) (IH : Hid (RefSChIH l)) (ok : Nat → Nat → Prop) (va : Value) (ps : List SQ) (a : Option Addr) (cap : Nat) (w : World) (HA : Hid (LiesD kS w va ps)) (HAK : Hid (KidsD kS w ok ps))
    (HH : Hid (SHolds w ok (.slice a len cap) l)) (HOk : Hid (∀ b o, ok b o → b < w.heap.size)) (HC : Hid (ps.length + cntL l ≤ 5000)) :
    Calls Tryz.prog 34 #[va, .slice a len cap] w (SChEnd ok l (trS ps) w) := by
  have hcap : len ≤ cap := HH.out.fits.2
  have hLen : len ≤ 5000 := by have := length_cntL l; have := HC.out; have := HL.out; omega
  obtain ⟨ls, hls, hll, hlk⟩ := HH.out.pairs
  have HLS := Lib.hid hls
  have HLL := Lib.hid hll
  have HLK := Lib.hid hlk
  have hll2 : ls.length = len := by rw [← trS_len, hls, HL.out]
  have HL2 := Lib.hid hll2
  clear hls hll hlk hll2
  obtain ⟨aa, na, ca, rfl⟩ : ∃ aa na ca, va = .slice aa na ca := by obtain ⟨aa, ca, e⟩ := HA.out.shape; exact ⟨aa, _, ca, e⟩
  go_enter Tryz.func34, Tryz.ntmps34
  go_wp2_with fail
  go_loopw [5, 11] (fun u i wr => ∃ (j : Nat) (ws : List (List SQ)), j ≤ len ∧ i = .int .i64 j ∧ ws.map trS = chSL (l.take j) (trS ps) ∧ LRowD kS 82 35 wr ok w.heap.size (fun g => w.heap.size ≤ g) u ws ∧ Kept Nil w wr) (fun _ i _ => len - (intOf i).toNat)
  case atStart => exact ⟨0, [], by omega, rfl, by rw [List.take_zero, chSL_nil]; rfl, LRowD.nil _, Kept.refl _ _⟩
  case round =>
    obtain ⟨j, ws, hj, rfl, hws, hR, hK⟩ := hrel
    have HR := Lib.hid hR
    have HK := Lib.hid hK
    have HW := Lib.hid hws
    clear hR hK hws
    by_cases hlt : j < len
    · obtain ⟨⟨⟨⟨k', k0', k1', k2', ts'⟩, sb⟩, vt, vs⟩, hx⟩ : ∃ x, ls[j]? = some x := ⟨_, List.getElem?_eq_getElem (by have := HL2.out; omega)⟩
      have hkid : kS.K w ok (St.mk ⟨k', k0', k1', k2', ts'⟩ sb, vt, vs) := HLK.out _ (List.mem_of_getElem? hx)
      have hk1 : TsAt w ok vt ts' := hkid.1
      have hk2 : SHolds w ok vs sb := hkid.2
      obtain ⟨ta', tc', rfl, _⟩ := hk1.shape
      obtain ⟨a', cap', rfl, _⟩ := hk2.shape
      clear hk1 hk2
      have hLj : LiesD kS w (.slice a len cap) ls := HLL.out
      obtain ⟨b, o, rfl, hrng⟩ := LiesD.at_ hLj hx
      have hlx : l[j]? = some (.mk ⟨k', k0', k1', k2', ts'⟩ sb) := by rw [← HLS.out]; unfold trS; rw [List.getElem?_map, hx]; rfl
      have HX := Lib.hid (IH.out _ _ (List.mem_of_getElem? hlx))
      have HRng : Hid (wr.rangeAt b (o + j * 6) (cS ⟨k', k0', k1', k2', ts'⟩ (.slice ta' ts'.length tc') (.slice a' sb.length cap'))) := Lib.hid (rangeAt_kept HK.out (fun g => g) hrng)
      have HS : Hid (TsAt w ok (.slice ta' ts'.length tc') ts' ∧ SHolds w ok (.slice a' sb.length cap') sb) := Lib.hid hkid
      have HT : Hid (trS (ls.take j) = l.take j) := Lib.hid (by rw [← HLS.out]; unfold trS; rw [List.map_take])
      have HN : Hid (ls.take (j + 1) = ls.take j ++ [(St.mk ⟨k', k0', k1', k2', ts'⟩ sb, .slice ta' ts'.length tc', .slice a' sb.length cap')]) := Lib.hid (by rw [List.take_add_one, hx]; rfl)
      have HNc : Hid (chSL (l.take (j + 1)) (trS ps) = chSL (l.take j) (trS ps) ++ ((if k' = 3 then chSL sb (trS ps ++ l.take j) else []) ++ [(trS ps ++ l.take j) ++ [.mk ⟨k', k0', k1', k2', ts'⟩ sb]])) := Lib.hid (by rw [chSL_take_succ hlx, chsS_mk])
      have HB : Hid (ps.length + j + (1 + cntL sb) ≤ 5000) := Lib.hid (by
        have h1 := cntL_take_succ hlx
        have h2 := cntL_take_le l (j + 1)
        have h3 := length_cntL (l.take j)
        have := HC.out
        rw [List.length_take] at h3
        simp only [St.cnt] at h1
        have := HL.out
        omega)
      have HWl : Hid (ws.length ≤ 5000) := Lib.hid (by
        have h1 := congrArg List.length HW.out
        have h2 := chSL_len_le.2 (l.take j) (trS ps)
        have h3 := cntL_take_le l j
        have := HC.out
        rw [List.length_map] at h1
        omega)
      have HTl : Hid ((ls.take j).length = j) := Lib.hid (by rw [List.length_take, HL2.out]; omega)
      clear hx hlx hrng hkid hLj
      obtain ⟨len', hlen'⟩ : ∃ n, sb.length = n := ⟨_, rfl⟩
      obtain ⟨tn', htn'⟩ : ∃ n, ts'.length = n := ⟨_, rfl⟩
      rw [hlen', htn'] at HRng HS HN
      clear htn'
      have HL' := Lib.hid hlen'
      clear hlen'
      -- the box of the condition, and the two appends that make its beginning
      obtain ⟨W1, hW1⟩ : ∃ W1, wr.alloc (.cells (arrS ⟨k', k0', k1', k2', ts'⟩ (.slice ta' tn' tc') (.slice a' len' cap')) 82) = W1 := ⟨_, rfl⟩
      have KW1 : Kept Nil wr W1 := by rw [← hW1]; exact (Kept.refl Nil wr).alloc _
      have BX : Hid (Blk W1 wr.heap.size 82 (arrS ⟨k', k0', k1', k2', ts'⟩ (.slice ta' tn' tc') (.slice a' len' cap'))) := Lib.hid (by rw [← hW1]; exact Blk.new _ _ _)
      have hs1 : W1.heap.size = wr.heap.size + 1 := by rw [← hW1]; simp
      have KW01 := Lib.hid (HK.out.trans KW1 (fun _ _ g => g))
      obtain ⟨v1, w2, r1, o1, k1, _⟩ := RowD.append (P := Tryz.prog) elsQ 35 (RowD.nil (D := kS) (e := 82) (B := W1.heap.size) W1) (HA.out.keptN KW01.out) (HAK.out.kept KW01.out (fun _ _ _ g => g)) (by have := HB.out; simp; omega) (Nat.le_refl _)
      have k1' : Kept Nil W1 w2 := k1.mono (fun i _ e => by cases e)
      rw [List.nil_append] at o1
      have hk12 := Lib.hid (KW01.out.trans k1' (fun _ _ g => g))
      have hLtj : LiesD kS w2 (.slice (some ⟨b, o, none⟩) j cap) (ls.take j) := LiesD.first (At.keptN HLL.out hk12.out) hj
      obtain ⟨v2, w3, r2, o2, k2, _⟩ := RowD.append (P := Tryz.prog) elsQ 35 o1 hLtj ((HLK.out.take j).kept hk12.out (fun _ _ _ g => g)) (by have := HB.out; have := HTl.out; omega) k1'.size
      have k2' : Kept Nil W1 w3 := k1'.trans k2 (fun i hi e => by have := (ownsBlk o1 i e).1; omega)
      obtain ⟨a1, n1v, c1, rfl⟩ : ∃ a1 n1v c1, v1 = .slice a1 n1v c1 := by obtain ⟨x, y, e⟩ := (At.own o1).shape; exact ⟨x, _, y, e⟩
      have RR1 := Lib.hid r1
      have RR2 := Lib.hid r2
      have O2 := Lib.hid o2
      have BX3 := Lib.hid (BX.out.kept k2' id)
      have K3 := Lib.hid (KW1.trans k2' (fun _ _ g => g))
      have hs3 := k2'.size
      clear r1 r2 o1 o2 k1 k2 hLtj hk12 k1' k2' BX KW1
      obtain ⟨a2, n2v, c2, rfl⟩ : ∃ a2 n2v c2, v2 = .slice a2 n2v c2 := by obtain ⟨x, y, e⟩ := (At.own O2.out).shape; exact ⟨x, _, y, e⟩
      obtain ⟨au, cu, rfl⟩ := HR.out.shape
      have c0 := BX3.out.cell 0
      have c7 := BX3.out.cell 5
      simp at c0 c7
      have HQ3 : Hid (KidsD kS w3 ok (ps ++ ls.take j)) := Lib.hid ((HAK.out.append (HLK.out.take j)).kept (HK.out.trans K3.out (fun _ _ g => g)) (fun _ _ _ g => g))
      have HQl : Hid ((ps ++ ls.take j).length = ps.length + j) := Lib.hid (by rw [List.length_append, HTl.out])
      have HQt : Hid (trS (ps ++ ls.take j) = trS ps ++ l.take j) := Lib.hid (by rw [trS_append, HT.out])
      have hk0 := HK.out.size
      -- nothing that is in the list lies in the beginning's block
      have hnew : ∀ g cs, Blk wr g 82 cs → w.heap.size ≤ g → w.heap.size ≤ g ∧ (Value.slice a2 n2v c2).ownBlock ≠ some g := fun g cs hb hg => ⟨hg, fun e => by have := (ownsBlk O2.out g e).1; have := hb.lt; omega⟩
      have HR3 := Lib.hid ((HR.out.mono hnew).keptN K3.out)
      have HU : Hid (∀ g, (Value.slice au ws.length cu).ownBlock = some g → g < wr.heap.size) := Lib.hid fun g hg => (HR.out.own g hg).2.1
      clear hnew
      by_cases hk3 : k' = 3
      · subst hk3
        have CX := Lib.hid (HX.out ok (.slice a2 n2v c2) (ps ++ ls.take j) a' cap' w3 (At.own O2.out) HQ3.out (by rw [HL'.out]; exact HS.out.2.keptN (HK.out.trans K3.out (fun _ _ g => g))) (fun b o hb => by have := HOk.out b o hb; omega) (by rw [HQl.out]; have := HB.out; omega))
        rw [HQt.out, HL'.out] at CX
        go_wp2_with (first
          | ((with_reducible refine wpList_load_Q rfl (.tmp 14) rfl _ _ rfl ⟨3, k0', k1', k2', ts'⟩ (.slice ta' tn' tc') (.slice a' len' cap') ?_ ?_)
             · exact HRng.out)
          | (at_builtin; refine wpList_append_run rfl (.tmp 16) (.tmp 17) 35 rfl _ _ rfl rfl RR1.out ?_)
          | (at_builtin; refine wpList_append_run rfl (.tmp 19) (.tmp 22) 35 rfl _ _ rfl rfl RR2.out ?_))
        refine CX.out.mono ?_
        rintro e w4 ⟨r, vs4, rfl, h4, hl4, k4⟩
        obtain ⟨ar, cr, rfl⟩ := hl4.shape
        have hv4 : vs4.length ≤ 5000 := by
          have h1 := congrArg List.length h4
          have h2 := chSL_len_le.2 sb (trS ps ++ l.take j)
          have := HB.out
          rw [List.length_map] at h1
          omega
        obtain ⟨u5', w5, r5, o5, k5, _⟩ := LRowD.append_all (P := Tryz.prog) elsLQ neqLQ 27 (HR3.out.keptN k4) hl4 (fun g cs hb hg => ⟨by omega, fun e => by have := (ownsBlk O2.out g e).2; obtain ⟨cur, hc⟩ := this; have := hc.lt; omega⟩) (by have := HWl.out; omega) (by have := k4.size; omega) HOk.out
        obtain ⟨a5, n5, c5, rfl⟩ : ∃ a5 n5 c5, u5' = .slice a5 n5 c5 := by obtain ⟨x, y, e⟩ := o5.shape; exact ⟨x, _, y, e⟩
        have hfar : ∀ k, (Value.slice au ws.length cu).ownBlock = some k → w.heap.size ≤ k ∧ k < wr.heap.size := fun k hk => ⟨(HR.out.own k hk).1, HU.out k hk⟩
        have hO5 : RowD kS 82 w5 W1.heap.size (.slice a2 n2v c2) (ps ++ ls.take j) := Kept.row k5 (Kept.row k4 O2.out (fun _ _ g => g)) (fun k hk hf => by have := (ownsBlk O2.out k hk).1; have := (hfar k hf).2; omega)
        have K05 : Kept Nil w w5 := ((HK.out.trans K3.out (fun _ _ g => g)).trans k4 (fun _ _ g => g)).trans k5 (fun i hi e => by have := (hfar i e).1; omega)
        have BX5 := Lib.hid ((BX3.out.kept k4 id).kept k5 (fun e => by have := (hfar _ e).2; omega))
        obtain ⟨a3, n3, c3, w7, a9, n9, c9, w9, r7, r9, o9, k9⟩ := refSCh_tail o5 hO5 ((HAK.out.append (HLK.out.take j)).kept K05 (fun _ _ _ g => g)) ⟨3, k0', k1', k2', ts'⟩ sb (.slice ta' tn' tc') (.slice a' len' cap') (kS.keptN (q := (St.mk _ sb, .slice ta' tn' tc', .slice a' len' cap')) HS.out K05) HOk.out (by omega) (by have := k4.size; have := k5.size; omega) (by rw [List.length_append]; have := HWl.out; omega) (by rw [HQl.out]; have := HB.out; omega)
        have RR5 := Lib.hid r5
        have RR7 := Lib.hid r7
        have RR9 := Lib.hid r9
        have HE9 := Lib.hid o9
        have KE9 := Lib.hid (K05.trans k9 (fun i hi e => by omega))
        have HTr : Hid ((ws ++ vs4 ++ [ps ++ ls.take j ++ [(St.mk ⟨3, k0', k1', k2', ts'⟩ sb, Value.slice ta' tn' tc', Value.slice a' len' cap')]]).map trS = chSL (l.take (j + 1)) (trS ps)) := Lib.hid (by
          rw [HNc.out, if_pos trivial, List.map_append, List.map_append, HW.out, h4, List.append_assoc]
          simp only [List.map_cons, List.map_nil]
          rw [trS_append, HQt.out]; rfl)
        clear r5 r7 r9 o9 k9 o5 hO5 K05 k5 hfar h4 hl4 k4
        go_wp2_with (first
          | ((with_reducible refine wpList_load_Q rfl (.tmp 7) rfl _ _ rfl ⟨3, k0', k1', k2', ts'⟩ (.slice ta' tn' tc') (.slice a' len' cap') ?_ ?_)
             · exact World.rangeAt_of_block BX5.out 0 6)
          | (at_builtin; refine wpList_append_run rfl (.tmp 27) (.tmp 31) 27 rfl _ _ rfl rfl RR5.out ?_)
          | (at_builtin; refine wpList_append_run rfl (.tmp 33) (.tmp 35) 35 rfl _ _ rfl rfl RR7.out ?_)
          | (at_builtin; refine wpList_append_run rfl (.tmp 37) (.tmp 39) 27 rfl _ _ rfl rfl RR9.out ?_))
        go_roundw
        case rel => exact ⟨j + 1, _, by omega, by go_num, HTr.out, HE9.out, KE9.out⟩
        case measure => simp [intOf]; omega
      · have hk3' : (k' == 3) = false := by simpa using hk3
        have K03 : Kept Nil w w3 := HK.out.trans K3.out (fun _ _ g => g)
        obtain ⟨a3, n3, c3, w7, a9, n9, c9, w9, r7, r9, o9, k9⟩ := refSCh_tail HR3.out O2.out HQ3.out ⟨k', k0', k1', k2', ts'⟩ sb (.slice ta' tn' tc') (.slice a' len' cap') (kS.keptN (q := (St.mk _ sb, .slice ta' tn' tc', .slice a' len' cap')) HS.out K03) HOk.out (by omega) hs3 (by have := HWl.out; omega) (by rw [HQl.out]; have := HB.out; omega)
        have RR7 := Lib.hid r7
        have RR9 := Lib.hid r9
        have HE9 := Lib.hid o9
        have KE9 := Lib.hid (K03.trans k9 (fun i hi e => by omega))
        have HTr : Hid ((ws ++ [ps ++ ls.take j ++ [(St.mk ⟨k', k0', k1', k2', ts'⟩ sb, Value.slice ta' tn' tc', Value.slice a' len' cap')]]).map trS = chSL (l.take (j + 1)) (trS ps)) := Lib.hid (by
          rw [HNc.out, if_neg hk3, List.map_append, HW.out]
          simp only [List.map_cons, List.map_nil]
          rw [trS_append, HQt.out]; rfl)
        clear r7 r9 o9 k9 K03
        go_wp2_with (first
          | ((with_reducible refine wpList_load_Q rfl (.tmp 14) rfl _ _ rfl ⟨k', k0', k1', k2', ts'⟩ (.slice ta' tn' tc') (.slice a' len' cap') ?_ ?_)
             · exact HRng.out)
          | ((with_reducible refine wpList_load_Q rfl (.tmp 7) rfl _ _ rfl ⟨k', k0', k1', k2', ts'⟩ (.slice ta' tn' tc') (.slice a' len' cap') ?_ ?_)
             · exact World.rangeAt_of_block BX3.out 0 6)
          | (at_builtin; refine wpList_append_run rfl (.tmp 16) (.tmp 17) 35 rfl _ _ rfl rfl RR1.out ?_)
          | (at_builtin; refine wpList_append_run rfl (.tmp 19) (.tmp 22) 35 rfl _ _ rfl rfl RR2.out ?_)
          | (at_builtin; refine wpList_append_run rfl (.tmp 33) (.tmp 35) 35 rfl _ _ rfl rfl RR7.out ?_)
          | (at_builtin; refine wpList_append_run rfl (.tmp 37) (.tmp 39) 27 rfl _ _ rfl rfl RR9.out ?_))
        go_roundw
        case rel => exact ⟨j + 1, _, by omega, by go_num, HTr.out, HE9.out, KE9.out⟩
        case measure => simp [intOf]; omega
    · obtain rfl : j = len := by omega
      have HE : Hid (l.take j = l) := Lib.hid (by rw [← HL.out]; simp)
      go_wp2_with fail
      go_ret
      exact ⟨_, ws, rfl, by rw [HW.out, HE.out], HR.out, HK.out⟩
theorem refSCh_tree : ∀ s : St, ∀ ok va ps a cap w, LiesD kS w va ps → KidsD kS w ok ps → SHolds w ok (.slice a s.subs.length cap) s.subs → (∀ b o, ok b o → b < w.heap.size) → ps.length + cntL s.subs ≤ 5000 →
    Calls Tryz.prog 34 #[va, .slice a s.subs.length cap] w (SChEnd ok s.subs (trS ps) w) := by
  refine St.ind fun hd subs ih ok va ps a cap w h1 h2 h3 h4 h5 => ?_
  exact refSCh_step subs _ rfl (fun hd' sb hx => ih _ hx) ok va ps a cap w h1 h2 h3 h4 h5
/-- The chains of the reference's conditions, as a law sees them. -/
theorem refSChains_any (l : List St) (ok : Nat → Nat → Prop) (a : Option Addr) (cap : Nat) (w : World) (h : SHolds w ok (.slice a l.length cap) l) (hok : ∀ b o, ok b o → b < w.heap.size) (hc : cntL l ≤ 5000) :
    Calls Tryz.prog 34 #[.slice none 0 0, .slice a l.length cap] w fun e w' => ∃ r, e = .returned r ∧ ListsS w' (fun b _ => b < w'.heap.size) r (chSL l []) ∧ Kept Nil w w' := by
  refine (refSCh_tree (.mk ⟨0, 0, 0, 0, []⟩ l) ok (.slice none 0 0) [] a cap w ⟨none, 0, rfl, .inl rfl⟩ KidsD.nil h hok (by simpa [St.subs] using hc)).mono ?_
  rintro e w' ⟨r, ws, rfl, h1, h2, k⟩
  have h1' : ws.map trS = chSL l [] := h1
  refine ⟨r, rfl, ?_, k⟩
  rw [← h1']
  exact h2.listsS (fun b o hb => by have := hok b o hb; have := k.size; omega) (fun g _ hg => hg)
end
section
open Go.RowKit
set_option maxRecDepth 100000

set_option maxHeartbeats 1000000 in
/-- A chain is copied into a block of its own. -/
theorem cloneSt_any (ok : Nat → Nat → Prop) (w : World) {v : Value} {ps : List SQ} (h : LiesD kS w v ps) (hk : KidsD kS w ok ps) (hl : 0 < ps.length ∧ ps.length ≤ 6000) :
    Calls Tryz.prog 81 #[v] w fun e w' => ∃ u, e = .returned u ∧ KidD kS 65 w' ok (fun g => w.heap.size ≤ g) u ps ∧ Kept Nil w w' := by
  obtain ⟨a, c, rfl, hc⟩ := h
  have hL : LiesD kS w (.slice a ps.length c) ps := ⟨a, c, rfl, hc⟩
  obtain ⟨b, o, rfl⟩ : ∃ b o, a = some ⟨b, o, none⟩ := by
    rcases hc with hc | ⟨b, o, e, _⟩
    · have := congrArg List.length hc
      rw [flatD_len] at this
      have hp6 : kS.sz = 6 := rfl
      rw [hp6] at this
      simp at this; omega
    · exact ⟨b, o, e⟩
  have ka := (Kept.refl Nil w).alloc (.cells #[] 65)
  have own0 : RowD kS 65 (w.alloc (.cells #[] 65)) w.heap.size (.slice (some ⟨w.heap.size, 0, none⟩) 0 0) [] := World.ownsRow_lit w #[] 0 (Nat.le_refl _) (by unfold maxLen; omega) rfl
  obtain ⟨v', w', r, o', k, _⟩ := RowD.append (P := Tryz.prog) elsS 44 own0 (hL.keptN ka) (hk.kept ka (fun _ _ _ g => g)) (by simp; omega) (by simp)
  rw [List.nil_append] at o'
  have RR := Lib.hid r
  have kk : Kept Nil w w' := ka.trans k (fun i hi e => by simp [Value.ownBlock] at e; omega)
  have HK := Lib.hid kk
  have HO := Lib.hid (RowD.kid (p := fun g => w.heap.size ≤ g) o' hl.1 (hk.kept kk (fun _ _ _ g => g)) (fun g _ hb => hb))
  have hnil : ∀ W : World, (binOp .eql 44 (.slice (some ⟨b, o, none⟩) ps.length c) (.slice none 0 0)).run Tryz.prog W = .ok (.bool false) W := fun W => Lib.run_eql_slice_nil W _ _ _ _ _ _ _ Tryz.underlying44
  clear r k o' kk own0 ka hL hc hk
  have hpos := hl.1
  generalize ps.length = n at *
  clear hl
  go_enter Tryz.func81, Tryz.ntmps81
  go_wp2_with (at_builtin; refine wpList_append_run rfl (.tmp 5) (.tmp 6) 44 rfl _ _ rfl rfl RR.out ?_)
  go_ret
  exact ⟨_, rfl, HO.out, HK.out⟩
/-- The chain is put behind the others. -/
def SHandEnd (ok : Nat → Nat → Prop) (B : Nat) (p : Nat → Prop) (X : Nat) (va : Value) (ws : List (List SQ)) (ps : List SQ) (w : World) (e : Ending) (w' : World) : Prop :=
  e = .returned (.tuple #[]) ∧ ∃ va', Blk w' X 124 #[va'] ∧ LRowD kS 65 44 w' ok B p va' (ws ++ [ps]) ∧ Kept (fun k => k = X ∨ va.ownBlock = some k) w w' ∧ (va'.ownBlock = va.ownBlock ∨ ∃ k, va'.ownBlock = some k ∧ w.heap.size ≤ k)
theorem neqXS : 124 ≠ 44 := by decide
theorem neqXT : 124 ≠ 65 := by decide
set_option maxHeartbeats 2000000 in
theorem handSt_any (ok : Nat → Nat → Prop) (B : Nat) (p : Nat → Prop) (X : Nat) (w : World) {v va : Value} {ps : List SQ} {ws : List (List SQ)} (h : LiesD kS w v ps) (hk : KidsD kS w ok ps) (hl : 0 < ps.length ∧ ps.length ≤ 6000) (hx : Blk w X 124 #[va]) (hR : LRowD kS 65 44 w ok B p va ws)
    (hok : ∀ b o, ok b o → b < B) (hBX : B ≤ X) (hB : B ≤ w.heap.size) (hp : ∀ g, w.heap.size ≤ g → p g) (hwl : ws.length ≤ 10000) :
    Calls Tryz.prog 80 #[v, .pointer (some ⟨X, 0, none⟩)] w (SHandEnd ok B p X va ws ps w) := by
  obtain ⟨a, n, c, rfl⟩ : ∃ a n c, v = .slice a n c := by obtain ⟨a, c, e⟩ := h.shape; exact ⟨a, _, c, e⟩
  obtain ⟨aa, na, ca, rfl⟩ : ∃ aa na ca, va = .slice aa na ca := by obtain ⟨a, c, e⟩ := hR.shape; exact ⟨a, _, c, e⟩
  have CC := Lib.hid (cloneSt_any ok w.drew (h.keptN ((Kept.refl Nil w).drew)) (hk.kept ((Kept.refl Nil w).drew) (fun _ _ _ g => g)) hl)
  have c0 := hx.cell 0
  simp at c0
  have FIN : ∀ (u : Value) (w2 : World), KidD kS 65 w2 ok (fun g => w.drew.heap.size ≤ g) u ps → Kept Nil w.drew w2 →
      w2.cell? ⟨X, 0, none⟩ = some (.slice aa na ca) ∧ X < w2.heap.size ∧ ∃ g m b a3 n3 d3 w3, u = .slice g m b ∧ (Builtin.append_ #[124, 124] 124 #[.slice aa na ca, .slice (some ⟨w2.heap.size, 0, none⟩) 1 1]).run Tryz.prog (w2.alloc (.cells #[.slice g m b] 44)) = .ok (.slice a3 n3 d3) w3 ∧
        w3.cell? ⟨X, 0, none⟩ = some (.slice aa na ca) ∧ w3.frozen? ⟨X, 0, none⟩ = false ∧ SHandEnd ok B p X (.slice aa na ca) ws ps w (.returned (.tuple #[])) (w3.setCell ⟨X, 0, none⟩ (.slice a3 n3 d3)) := fun u w2 hu k2 => by
    have k02 : Kept Nil w w2 := ((Kept.refl Nil w).drew).trans k2 (fun _ _ g => g)
    have hx2 := hx.kept k02 id
    have R2 := hR.keptN k02
    obtain ⟨v', w3, r, o3, k3, h5⟩ := LRowD.append_one (P := Tryz.prog) elsLS neqLS 124 R2 (hu.mono (fun g _ _ hg => hp g hg)) hwl (by have := k02.size; omega) hok
    obtain ⟨g, b, e, _⟩ := hu.shape
    obtain ⟨a3, n3, d3, rfl⟩ : ∃ a3 n3 d3, v' = .slice a3 n3 d3 := by obtain ⟨x, y, e⟩ := o3.shape; exact ⟨x, _, y, e⟩
    have hx3 := hx2.kept k3 (fun e => by
      obtain ⟨_, _, cs, hb⟩ := R2.own X e
      exact neqXS (blk_type hx2 hb))
    have hXv : ∀ k, (Value.slice a3 n3 d3).ownBlock = some k → k ≠ X := fun k hk e => by
      obtain ⟨_, _, cs, hb⟩ := o3.own k hk
      subst e
      exact neqXS (blk_type hx3 hb)
    refine ⟨hx2.cell 0, hx2.lt, _, _, b, a3, n3, d3, w3, e, by rw [← e]; exact r, hx3.cell 0, hx3.frozen 0, rfl, .slice a3 n3 d3, by simpa using hx3.set_ 0 (.slice a3 n3 d3), ?_, ?_, ?_⟩
    · refine o3.kept ((Kept.refl (fun k => k = X) w3).setCell ⟨X, 0, none⟩ (.inl rfl) (.slice a3 n3 d3)) hXv (fun g cs hb _ hf => ?_) (fun b o hb hf => ?_)
      · subst hf
        exact neqXT (blk_type hx3 hb)
      · have := hok b o hb; omega
    · exact ((k02.mono (fun _ _ g => g.elim)).trans k3 (fun i _ e => .inr e)).setCell _ (.inl (.inl rfl)) _
    · exact h5.imp id (fun e => ⟨_, e, by have := k02.size; omega⟩)
  have HF := Lib.hid FIN
  clear h hk hx hR hok hp FIN
  go_enter Tryz.func80, Tryz.ntmps80
  go_wp2_with fail
  go_region_law (first
    | (refine step_append_run rfl (.tmp 3) (.tmp 6) 124 rfl _ _ rfl rfl r3 ?_)
    | (go_simp; go_at_call 81; refine CC.out.mono ?_; rintro e w2 ⟨u, rfl, h2, k2⟩; obtain ⟨c72, hX2, g3, m3, b3, a3, n3, d3, w3, rfl, r3, c73, f73, F1⟩ := HF.out u w2 h2 k2; have F1' := Lib.hid F1; clear F1 h2 k2))
  all_goals
    go_wp2_with fail
    exact bodyPost_ret (v := .tuple #[]) (by simp [results, Tryz.results80, go_sem]) rfl F1'.out
end
section
open Go.RowKit
set_option maxRecDepth 100000

abbrev handS (X : Nat) : Value := .func (.func 80) #[] #[.pointer (some ⟨X, 0, none⟩)]
/-- What the walk's present chain is to its beginning: the same row, longer; or a new one. -/
def GrowsS (w : World) (v : Value) (n : Nat) (vj : Value) (j : Nat) : Prop := (∃ a0 c0, v = .slice a0 n c0 ∧ vj = .slice a0 (n + j) c0) ∨ ∃ k, vj.ownBlock = some k ∧ w.heap.size ≤ k
theorem RowD.far {w w' : World} {B : Nat} {v : Value} {ps : List SQ} {F : Nat → Prop} (h : RowD kS 65 w B v ps) (k : Kept F w w') (hF : ∀ g, v.ownBlock = some g → ¬ F g) : RowD kS 65 w' B v ps := Kept.row k h hF
theorem RowD.head {w : World} {B : Nat} {a : Option Addr} {n m c : Nat} {ps qs : List SQ} (h : RowD kS 65 w B (.slice a m c) (ps ++ qs)) (hn : n = ps.length) (hm : m = (ps ++ qs).length) : RowD kS 65 w B (.slice a n c) ps := by
  subst hn hm
  have h' : w.ownsRow B 65 kS.sz (.slice a (ps ++ qs).length c) (ps ++ qs).length (flatD kS ps ++ flatD kS qs) := by rw [← flatD_append]; exact h
  exact ownsRow_head h' (flatD_len ps) (by simp)
theorem ownS_row_type {w : World} {B B' : Nat} {v u : Value} {ps : List SQ} {ok : Nat → Nat → Prop} {p : Nat → Prop} {ws : List (List SQ)} (h : RowD kS 65 w B v ps) (hR : LRowD kS 65 44 w ok B' p u ws) : ∀ k, v.ownBlock = some k → u.ownBlock ≠ some k := fun k h1 h2 => by
  obtain ⟨_, cur, hc⟩ := ownsBlk h k h1
  obtain ⟨_, _, cs, hb⟩ := hR.own k h2
  exact neqLS (blk_type hb hc)
theorem ownS_box_type {w : World} {B X : Nat} {v : Value} {ps : List SQ} {cs : Array Value} (h : RowD kS 65 w B v ps) (hX : Blk w X 124 cs) : ∀ k, v.ownBlock = some k → k ≠ X := fun k h1 e => by
  obtain ⟨_, cur, hc⟩ := ownsBlk h k h1
  subst e
  exact neqXT (blk_type hX hc)
/-- The condition is put behind its beginning. -/
theorem eachS_append {w w3 : World} {ok : Nat → Nat → Prop} {p : Nat → Prop} {B X j : Nat} {v vj va : Value} {ps qs : List SQ} {ws : List (List SQ)} (hsz : w.heap.size ≤ w3.heap.size) (hB : B ≤ w3.heap.size) (hok : ∀ b o, ok b o → b < B)
    (hA : RowD kS 65 w3 B v ps) (hv : ∀ k, v.ownBlock = some k → k < w.heap.size) (hJ : RowD kS 65 w3 B vj (ps ++ qs)) (hq : qs.length = j) (hg : GrowsS w v ps.length vj j) (hR : LRowD kS 65 44 w3 ok B (fun g => p g ∧ vj.ownBlock ≠ some g) va ws) (hX : Blk w3 X 124 #[va])
    (hd : SH) (sb : List St) (vt vs : Value) (hs : kS.K w3 ok (.mk hd sb, vt, vs)) (hl : (ps ++ qs).length ≤ 6000) :
    ∃ a5 n5 c5 w5, (Builtin.append_ #[44, 44] 44 #[vj, .slice (some ⟨w3.heap.size, 0, none⟩) 1 1]).run Tryz.prog (w3.alloc (.cells (arrS hd vt vs) 65)) = .ok (.slice a5 n5 c5) w5 ∧
      RowD kS 65 w5 B (.slice a5 n5 c5) (ps ++ (qs ++ [(.mk hd sb, vt, vs)])) ∧ RowD kS 65 w5 B v ps ∧ GrowsS w v ps.length (.slice a5 n5 c5) (j + 1) ∧ LRowD kS 65 44 w5 ok B (fun g => p g ∧ (Value.slice a5 n5 c5).ownBlock ≠ some g) va ws ∧ Blk w5 X 124 #[va] ∧
      Kept (fun k => vj.ownBlock = some k) w3 w5 ∧ (∀ k, (Value.slice a5 n5 c5).ownBlock = some k → vj.ownBlock = some k ∨ w3.heap.size ≤ k) := by
  have ka := (Kept.refl Nil w3).alloc (.cells (arrS hd vt vs) 65)
  have hlit : flatD kS [(St.mk hd sb, vt, vs)] = cS hd vt vs := by rw [flatD_one]; rfl
  have hJ4 : RowD kS 65 (w3.alloc (.cells (arrS hd vt vs) 65)) B vj (ps ++ qs) := Kept.row ka hJ (fun _ _ g => g)
  obtain ⟨v5, w5, r5, o5, k5, h5⟩ := RowD.append (P := Tryz.prog) (qs := [(.mk hd sb, vt, vs)]) elsS 44 hJ4 (At.lit w3 65 (arrS hd vt vs) _ (by rw [hlit])) (KidsD.single (kS.keptN hs ka)) (by simp at hl ⊢; omega) (by simp; omega)
  have two := append_two (P := Tryz.prog) elsS 44 hJ4 (m := 1) (ys := cS hd vt vs) rfl (fun i x hi => by
    rw [Addr.add_mid, Nat.zero_add, (Blk.new w3 65 (arrS hd vt vs)).cell i]; simpa using hi) (fun y hy => kS.one w3 ok _ hs y hy) (by decide) (by simp at hl ⊢; omega) r5
  have k35 : Kept (fun k => vj.ownBlock = some k) w3 w5 := (ka.mono (fun _ _ g => g.elim)).trans k5 (fun _ _ g => g)
  rw [List.append_assoc] at o5
  obtain ⟨a5, n5, c5, rfl⟩ : ∃ a5 n5 c5, v5 = .slice a5 n5 c5 := by obtain ⟨x, y, e⟩ := (At.own o5).shape; exact ⟨x, _, y, e⟩
  have hvj : ∀ k, vj.ownBlock = some k → B ≤ k ∧ k < w3.heap.size := fun k hk => ⟨(ownsBlk hJ k hk).1, by obtain ⟨_, cur, hc⟩ := ownsBlk hJ k hk; exact hc.lt⟩
  have hnew : ∀ k, (Value.slice a5 n5 c5).ownBlock = some k → vj.ownBlock = some k ∨ w3.heap.size ≤ k := fun k hk => by
    rcases h5 with h5 | h5
    · left; rw [← h5]; exact hk
    · right
      rw [h5] at hk
      simp at hk; omega
  refine ⟨a5, n5, c5, w5, r5, o5, ?_, ?_, ?_, hX.kept k35 (fun e => ownS_box_type hJ hX _ e rfl), k35, hnew⟩
  · rcases two with ⟨g, cap, e1, e2, k2⟩ | ⟨_, k2⟩
    · rcases hg with ⟨a0, c0, f1, f2⟩ | ⟨k, f1, f2⟩
      · rw [e1] at f2
        injection f2 with f3 f4 f5
        injection e2 with e3 e4 e5
        subst f1 f3 f5 e3 e5
        exact RowD.head o5 rfl (by rw [e4]; simp; omega)
      · exact hA.far k35 (fun i hi e => by
          have := hv i hi
          rw [f1] at e
          cases e; omega)
    · exact hA.far (ka.trans k2 (fun _ _ g => g)) (fun _ _ g => g)
  · rcases two with ⟨g, cap, e1, e2, k2⟩ | ⟨e, _⟩
    · rcases hg with ⟨a0, c0, f1, f2⟩ | ⟨k, f1, f2⟩
      · left
        rw [e1] at f2
        injection f2 with f3 f4 f5
        refine ⟨a0, c0, f1, ?_⟩
        rw [e2, f3, f5]
        congr 1
        simp; omega
      · right
        refine ⟨k, ?_, f2⟩
        rw [e2]
        rw [e1] at f1
        exact f1
    · right
      exact ⟨_, e, by simp; omega⟩
  · refine (hR.mono (q := fun g => (p g ∧ vj.ownBlock ≠ some g) ∧ g < w3.heap.size) (fun g cs hb hg => ⟨hg, hb.lt⟩)).kept k35 (fun g hg e => ownS_row_type hJ hR g e hg) (fun g cs _ hg e => hg.1.2 e) (fun b o hb e => by have := (hvj b e).1; have := hok b o hb; omega) |>.mono (fun g _ _ hg => ⟨hg.1.1, fun e => ?_⟩)
    rcases hnew g e with h | h
    · exact hg.1.2 h
    · have := hg.2; omega
theorem RowD.back {w wr w3 : World} {B j : Nat} {v vj : Value} {ps qs : List SQ} {F : Nat → Prop} (hA : RowD kS 65 wr B v ps) (hJ : RowD kS 65 w3 B vj (ps ++ qs)) (hq : qs.length = j) (hg : GrowsS w v ps.length vj j) (hv : ∀ k, v.ownBlock = some k → k < w.heap.size) (k : Kept F wr w3) (hF : ∀ g, v.ownBlock = some g → F g → vj.ownBlock = some g) : RowD kS 65 w3 B v ps := by
  rcases hg with ⟨a0, c0, f1, f2⟩ | ⟨k2, f1, f2⟩
  · subst f1 f2
    exact RowD.head hJ rfl (by simp; omega)
  · refine hA.far k (fun g hg hf => ?_)
    have h1 := hF g hg hf
    rw [f1] at h1
    cases h1
    have := hv _ hg
    omega
/-- The chains are put behind the others; of the beginning's block only what is behind the beginning is written. -/
def SEachEnd (ok : Nat → Nat → Prop) (p : Nat → Prop) (B X : Nat) (l : List St) (v : Value) (ps : List SQ) (va : Value) (ws : List (List SQ)) (w : World) (e : Ending) (w' : World) : Prop :=
  e = .returned (.tuple #[]) ∧ ∃ va' ws', ws'.map trS = chSL l (trS ps) ∧ Blk w' X 124 #[va'] ∧ LRowD kS 65 44 w' ok B p va' (ws ++ ws') ∧ RowD kS 65 w' B v ps ∧
    Kept (fun k => k = X ∨ v.ownBlock = some k ∨ va.ownBlock = some k) w w' ∧ (va'.ownBlock = va.ownBlock ∨ ∃ k, va'.ownBlock = some k ∧ w.heap.size ≤ k)
abbrev SEachIH (l : List St) : Prop := ∀ hd sb, St.mk hd sb ∈ l → ∀ ok p B X a cap v ps va ws w, SHolds w ok (.slice a sb.length cap) sb → RowD kS 65 w B v ps → KidsD kS w ok ps → Blk w X 124 #[va] → LRowD kS 65 44 w ok B p va ws →
  (∀ b o, ok b o → b < B) → B ≤ X → B ≤ w.heap.size → (∀ g, p g → v.ownBlock ≠ some g) → (∀ g, w.heap.size ≤ g → p g) → ps.length + cntL sb ≤ 5000 → ws.length + cntL sb ≤ 5000 →
  Calls Tryz.prog 79 #[v, .slice a sb.length cap, handS X] w (SEachEnd ok p B X sb v ps va ws w)
set_option maxHeartbeats 4000000 in
theorem eachS_step (l : List St) (len : Nat) (HL : Hid (l.length = len)) (IH : Hid (SEachIH l)) (ok : Nat → Nat → Prop) (p : Nat → Prop) (B X : Nat) (a : Option Addr) (cap : Nat) (v : Value) (ps : List SQ) (va : Value) (ws : List (List SQ)) (w : World) (HH : Hid (SHolds w ok (.slice a len cap) l)) (HA : Hid (RowD kS 65 w B v ps)) (HAK : Hid (KidsD kS w ok ps))
    (HX : Hid (Blk w X 124 #[va])) (HR : Hid (LRowD kS 65 44 w ok B p va ws)) (HOk : Hid (∀ b o, ok b o → b < B)) (hBX : B ≤ X) (hB : B ≤ w.heap.size) (HP1 : Hid (∀ g, p g → v.ownBlock ≠ some g)) (HP2 : Hid (∀ g, w.heap.size ≤ g → p g)) (HC : Hid (ps.length + cntL l ≤ 5000)) (HC2 : Hid (ws.length + cntL l ≤ 5000)) :
    Calls Tryz.prog 79 #[v, .slice a len cap, handS X] w (SEachEnd ok p B X l v ps va ws w) := by
  have hLen : len ≤ 5000 := by have := length_cntL l; have := HC.out; have := HL.out; omega
  obtain ⟨ls, hls, hll, hlk⟩ := HH.out.pairs
  have HLS := Lib.hid hls
  have HLL := Lib.hid hll
  have HLK := Lib.hid hlk
  have hll2 : ls.length = len := by rw [← trS_len, hls, HL.out]
  have HL2 := Lib.hid hll2
  have HVl : Hid (∀ k, v.ownBlock = some k → B ≤ k ∧ k < w.heap.size) := Lib.hid fun k hk => ⟨(ownsBlk HA.out k hk).1, by obtain ⟨_, cur, hc⟩ := ownsBlk HA.out k hk; exact hc.lt⟩
  have HVA : Hid (∀ k, va.ownBlock = some k → B ≤ k ∧ k < w.heap.size) := Lib.hid fun k hk => ⟨(HR.out.own k hk).1, (HR.out.own k hk).2.1⟩
  have HXl := Lib.hid HX.out.lt
  clear hls hll hlk hll2
  go_enter Tryz.func79, Tryz.ntmps79
  go_wp2_with fail
  go_loopw [0, 10] (fun vj i wr => ∃ (j : Nat) (vaj : Value) (wsj : List (List SQ)), j ≤ len ∧ i = .int .i64 j ∧ wsj.map trS = chSL (l.take j) (trS ps) ∧ Blk wr X 124 #[vaj] ∧ LRowD kS 65 44 wr ok B (fun g => p g ∧ vj.ownBlock ≠ some g) vaj (ws ++ wsj) ∧ RowD kS 65 wr B v ps ∧
    RowD kS 65 wr B vj (ps ++ ls.take j) ∧ GrowsS w v ps.length vj j ∧ Kept (fun k => k = X ∨ v.ownBlock = some k ∨ va.ownBlock = some k) w wr ∧ (vaj.ownBlock = va.ownBlock ∨ ∃ k, vaj.ownBlock = some k ∧ w.heap.size ≤ k)) (fun _ i _ => len - (intOf i).toNat)
  case atStart =>
    refine ⟨0, va, [], by omega, rfl, by rw [List.take_zero, chSL_nil]; rfl, HX.out, ?_, HA.out, by rw [List.take_zero, List.append_nil]; exact HA.out, ?_, Kept.refl _ _, .inl rfl⟩
    · rw [List.append_nil]
      exact HR.out.mono (fun g _ _ hg => ⟨hg, HP1.out g hg⟩)
    · obtain ⟨a0, c0, e⟩ := (At.own HA.out).shape
      exact .inl ⟨a0, c0, e, e⟩
  case round =>
    obtain ⟨j, vaj, wsj, hj, rfl, hws, hX, hR, hA, hAj, hsh, hK, hva⟩ := hrel
    have HWs := Lib.hid hws
    have HXj := Lib.hid hX
    have HRj := Lib.hid hR
    have HAv := Lib.hid hA
    have HAj := Lib.hid hAj
    have HSh := Lib.hid hsh
    have HK := Lib.hid hK
    have HVa := Lib.hid hva
    clear hws hX hR hA hAj hsh hK hva HX HR HA
    obtain ⟨aj, nj, cj, rfl⟩ : ∃ aj nj cj, u0 = .slice aj nj cj := by obtain ⟨x, y, e⟩ := (At.own HAj.out).shape; exact ⟨x, _, y, e⟩
    by_cases hlt : j < len
    · obtain ⟨⟨⟨⟨k', k0', k1', k2', ts'⟩, sb⟩, vt, vs⟩, hx⟩ : ∃ x, ls[j]? = some x := ⟨_, List.getElem?_eq_getElem (by have := HL2.out; omega)⟩
      have hlx : l[j]? = some (.mk ⟨k', k0', k1', k2', ts'⟩ sb) := by rw [← HLS.out]; unfold trS; rw [List.getElem?_map, hx]; rfl
      have hFok : ∀ b o, ok b o → ¬ (b = X ∨ v.ownBlock = some b ∨ va.ownBlock = some b) := fun b o hb hf => by
        have := HOk.out b o hb
        rcases hf with rfl | hf | hf
        · omega
        · have := (HVl.out b hf).1; omega
        · have := (HVA.out b hf).1; omega
      have hkid : kS.K wr ok (St.mk ⟨k', k0', k1', k2', ts'⟩ sb, vt, vs) := kS.kept (HLK.out _ (List.mem_of_getElem? hx)) HK.out hFok
      have hk1 : TsAt wr ok vt ts' := hkid.1
      have hk2 : SHolds wr ok vs sb := hkid.2
      obtain ⟨ta', tc', rfl, _⟩ := hk1.shape
      obtain ⟨a', cap', rfl, _⟩ := hk2.shape
      clear hk1 hk2
      obtain ⟨b, o, _, _, _, _, rfl, hokb, _, _⟩ := HH.out.at_ hlx
      have hLj : LiesD kS wr (.slice (some ⟨b, o, none⟩) len cap) ls := At.kept HLL.out HK.out (fun b' e => by cases e; exact hFok b o hokb)
      obtain ⟨b1, o1, e1, hrng⟩ := LiesD.at_ hLj hx
      cases e1
      have HXI := Lib.hid (IH.out _ _ (List.mem_of_getElem? hlx))
      have HS : Hid (TsAt wr ok (.slice ta' ts'.length tc') ts' ∧ SHolds wr ok (.slice a' sb.length cap') sb) := Lib.hid hkid
      replace hrng : wr.rangeAt b (o + j * 6) (cS ⟨k', k0', k1', k2', ts'⟩ (.slice ta' ts'.length tc') (.slice a' sb.length cap')) := hrng
      have HRng := Lib.hid hrng
      have HT : Hid (trS (ls.take j) = l.take j) := Lib.hid (by rw [← HLS.out]; unfold trS; rw [List.map_take])
      have HN : Hid (ls.take (j + 1) = ls.take j ++ [(St.mk ⟨k', k0', k1', k2', ts'⟩ sb, Value.slice ta' ts'.length tc', Value.slice a' sb.length cap')]) := Lib.hid (by rw [List.take_add_one, hx]; rfl)
      have HNc : Hid (chSL (l.take (j + 1)) (trS ps) = chSL (l.take j) (trS ps) ++ ((if k' = 3 then chSL sb (trS ps ++ l.take j) else []) ++ [(trS ps ++ l.take j) ++ [.mk ⟨k', k0', k1', k2', ts'⟩ sb]])) := Lib.hid (by rw [chSL_take_succ hlx, chsS_mk])
      have hB1 : ps.length + j + (1 + cntL sb) ≤ 5000 ∧ ws.length + wsj.length + (1 + cntL sb) ≤ 5000 := by
        have h1 := cntL_take_succ hlx
        have h2 := cntL_take_le l (j + 1)
        have h3 := length_cntL (l.take j)
        have h4 := congrArg List.length HWs.out
        have h5 := chSL_len_le.2 (l.take j) (trS ps)
        have := HC.out
        have := HC2.out
        rw [List.length_take] at h3
        rw [List.length_map] at h4
        simp only [St.cnt] at h1
        have := HL.out
        omega
      have HBn := Lib.hid hB1
      have HTl : Hid ((ls.take j).length = j) := Lib.hid (by rw [List.length_take, HL2.out]; omega)
      have HQk : Hid (KidsD kS wr ok (ps ++ ls.take j)) := Lib.hid ((HAK.out.append (HLK.out.take j)).kept HK.out hFok)
      have HQt : Hid (trS (ps ++ ls.take j) = trS ps ++ l.take j) := Lib.hid (by rw [trS_append, HT.out])
      have HJl : Hid (∀ k, (Value.slice aj nj cj).ownBlock = some k → B ≤ k ∧ k < wr.heap.size) := Lib.hid fun k hk => ⟨(ownsBlk HAj.out k hk).1, by obtain ⟨_, cur, hc⟩ := ownsBlk HAj.out k hk; exact hc.lt⟩
      have HVj : Hid (∀ k, vaj.ownBlock = some k → B ≤ k ∧ k < wr.heap.size) := Lib.hid fun k hk => ⟨(HRj.out.own k hk).1, (HRj.out.own k hk).2.1⟩
      have hk0 := HK.out.size
      -- which blocks of the callee's are ours
      have HSub : Hid (∀ k, k < w.heap.size → (k = X ∨ (Value.slice aj nj cj).ownBlock = some k ∨ vaj.ownBlock = some k) → (k = X ∨ v.ownBlock = some k ∨ va.ownBlock = some k)) := Lib.hid fun k hk hf => by
        rcases hf with rfl | hf | hf
        · exact .inl rfl
        · rcases HSh.out with ⟨a0, c0, f1, f2⟩ | ⟨k2, f1, f2⟩
          · right; left
            rw [f1]
            rw [f2] at hf
            cases a0 with
            | none => cases hf
            | some ad => exact hf
          · rw [f1] at hf; cases hf; omega
        · rcases HVa.out with e | ⟨k2, e, h2⟩
          · right; right; rw [← e]; exact hf
          · rw [e] at hf; cases hf; omega
      clear hx hlx hrng hkid hLj hokb hFok
      obtain ⟨len', hlen'⟩ : ∃ n, sb.length = n := ⟨_, rfl⟩
      obtain ⟨tn', htn'⟩ : ∃ n, ts'.length = n := ⟨_, rfl⟩
      rw [hlen', htn'] at HS HN HRng
      clear htn'
      have HL' := Lib.hid hlen'
      clear hlen'
      obtain ⟨W1, hW1⟩ : ∃ W1, wr.alloc (.cells (arrS ⟨k', k0', k1', k2', ts'⟩ (.slice ta' tn' tc') (.slice a' len' cap')) 65) = W1 := ⟨_, rfl⟩
      have KW1 : Hid (Kept Nil wr W1) := Lib.hid (by rw [← hW1]; exact (Kept.refl Nil wr).alloc _)
      have BY1 : Hid (Blk W1 wr.heap.size 65 (arrS ⟨k', k0', k1', k2', ts'⟩ (.slice ta' tn' tc') (.slice a' len' cap'))) := Lib.hid (by rw [← hW1]; exact Blk.new _ _ _)
      have hs1 : W1.heap.size = wr.heap.size + 1 := by rw [← hW1]; simp
      have c0 := BY1.out.cell 0
      have c7 := BY1.out.cell 5
      simp at c0 c7
      have hokY : ∀ b o, ok b o → ¬ (b = X ∨ (Value.slice aj nj cj).ownBlock = some b ∨ vaj.ownBlock = some b) := fun b o hb hf => by
        have := HOk.out b o hb
        rcases hf with rfl | hf | hf
        · omega
        · have := (HJl.out b hf).1; omega
        · have := (HVj.out b hf).1; omega
      have HOY := Lib.hid hokY
      have hYF : ¬ (wr.heap.size = X ∨ (Value.slice aj nj cj).ownBlock = some wr.heap.size ∨ vaj.ownBlock = some wr.heap.size) := fun hf => by
        rcases hf with hf | hf | hf
        · have := HXj.out.lt; omega
        · have := (HJl.out _ hf).2; omega
        · have := (HVj.out _ hf).2; omega
      have hQl : (if k' = 3 then chSL sb (trS ps ++ l.take j) else []).length ≤ cntL sb := by
        split
        · exact chSL_len_le.2 sb (trS ps ++ l.take j)
        · simp
      generalize hQ : (if k' = 3 then chSL sb (trS ps ++ l.take j) else []) = Q at HNc hQl
      have HQ1 : Hid (k' = 3 → chSL sb (trS ps ++ l.take j) = Q) := Lib.hid fun h => by rw [← hQ, if_pos h]
      have HQ2 : Hid (¬ k' = 3 → Q = []) := Lib.hid fun h => by rw [← hQ, if_neg h]
      have HQl := Lib.hid hQl
      clear hQ hQl
      by_cases hk3 : k' = 3
      · have HQ3 := Lib.hid (HQ1.out hk3)
        subst hk3
        clear HQ1 HQ2
        have CX := Lib.hid (HXI.out ok (fun g => p g ∧ (Value.slice aj nj cj).ownBlock ≠ some g) B X a' cap' (.slice aj nj cj) (ps ++ ls.take j) vaj (ws ++ wsj) W1 (by rw [HL'.out]; exact HS.out.2.keptN KW1.out) (Kept.row KW1.out HAj.out (fun _ _ g => g)) (HQk.out.kept KW1.out (fun _ _ _ g => g)) (HXj.out.kept KW1.out id) (HRj.out.keptN KW1.out) HOk.out hBX (by omega)
          (fun g hg => hg.2) (fun g hg => ⟨HP2.out g (by omega), fun e => by have := (HJl.out g e).2; omega⟩) (by rw [List.length_append, HTl.out]; have := HBn.out.1; omega) (by rw [List.length_append]; have := HBn.out.2; omega))
        rw [HL'.out] at CX
        go_wp2_with ((with_reducible refine wpList_load_S rfl (.tmp 12) rfl _ _ rfl ⟨3, k0', k1', k2', ts'⟩ (.slice ta' tn' tc') (.slice a' len' cap') ?_ ?_)
                     · exact HRng.out)
        refine CX.out.mono ?_
        rintro e w3 ⟨rfl, va3, ws3, h3, x3, r3, j3, k3, hva3⟩
        have H3 : Hid (ws3.map trS = Q) := Lib.hid (by rw [← HQ3.out, ← HQt.out]; exact h3)
        have R3 := Lib.hid r3
        have J3 := Lib.hid j3
        have X3 := Lib.hid x3
        have K3 : Hid (Kept (fun k => k = X ∨ (Value.slice aj nj cj).ownBlock = some k ∨ vaj.ownBlock = some k) wr w3) := Lib.hid ((KW1.out.mono (fun _ _ g => g.elim)).trans k3 (fun _ _ g => g))
        have BY3 := Lib.hid (BY1.out.kept k3 hYF)
        have HV3 : Hid (va3.ownBlock = vaj.ownBlock ∨ ∃ k, va3.ownBlock = some k ∧ wr.heap.size ≤ k) := Lib.hid (hva3.imp id fun ⟨k, h1, h2⟩ => ⟨k, h1, by omega⟩)
        have hs3 : wr.heap.size < w3.heap.size := by have := k3.size; omega
        clear h3 r3 j3 x3 k3 hva3 CX c0 c7 hYF hokY
        have A3 : RowD kS 65 w3 B v ps := RowD.back HAv.out J3.out HTl.out HSh.out (fun k hk => (HVl.out k hk).2) K3.out (fun g hg hf => by
          rcases hf with hf | hf | hf
          · exact absurd hf (ownS_box_type HAv.out HXj.out g hg)
          · exact hf
          · exact absurd hf (ownS_row_type HAv.out HRj.out g hg))
        obtain ⟨a5, n5, c5, w5, r5, o5, A5, G5, R5, X5, k5, hn5⟩ := eachS_append (w := w) (w3 := w3) (by omega) (by omega) HOk.out A3 (fun k hk => (HVl.out k hk).2) J3.out HTl.out HSh.out R3.out X3.out ⟨3, k0', k1', k2', ts'⟩ sb (.slice ta' tn' tc') (.slice a' len' cap') (kS.kept (q := (St.mk _ sb, .slice ta' tn' tc', .slice a' len' cap')) HS.out K3.out HOY.out) (by rw [List.length_append, HTl.out]; have := HBn.out.1; omega)
        have hs5 := k5.size
        have hK35 : KidsD kS w5 ok (ps ++ (ls.take j ++ [(St.mk ⟨3, k0', k1', k2', ts'⟩ sb, Value.slice ta' tn' tc', Value.slice a' len' cap')])) := by
          rw [← List.append_assoc]
          refine ((HQk.out.append (KidsD.single (D := kS) (q := (St.mk ⟨3, k0', k1', k2', ts'⟩ sb, Value.slice ta' tn' tc', Value.slice a' len' cap')) HS.out)).kept K3.out HOY.out).kept k5 (fun b o hb hf => ?_)
          exact HOY.out b o hb (.inr (.inl hf))
        have hl5 : (ps ++ (ls.take j ++ [(St.mk ⟨3, k0', k1', k2', ts'⟩ sb, Value.slice ta' tn' tc', Value.slice a' len' cap')])).length = ps.length + j + 1 := by
          rw [List.length_append, List.length_append, HTl.out]; rfl
        have hw3l : ws3.length ≤ cntL sb := by
          have h1 := congrArg List.length H3.out
          have := HQl.out
          rw [List.length_map] at h1
          omega
        have HD := Lib.hid (handSt_any ok B (fun g => p g ∧ (Value.slice a5 n5 c5).ownBlock ≠ some g) X w5 (At.own o5) hK35 ⟨by omega, by have := HBn.out.1; omega⟩ X5 R5 HOk.out hBX (by omega) (fun g hg => ⟨HP2.out g (by omega), fun e => by
          obtain ⟨_, cur, hc⟩ := ownsBlk o5 g e
          have := hc.lt; omega⟩) (by rw [List.length_append, List.length_append]; have := HBn.out.2; omega))
        have RR5 := Lib.hid r5
        have O5 := Lib.hid o5
        have A5' := Lib.hid A5
        have G5' := Lib.hid G5
        have X5' := Lib.hid X5
        have R5' := Lib.hid R5
        have K5 := Lib.hid k5
        have HTr : Hid ((wsj ++ ws3 ++ [ps ++ (ls.take j ++ [(St.mk ⟨3, k0', k1', k2', ts'⟩ sb, Value.slice ta' tn' tc', Value.slice a' len' cap')])]).map trS = chSL (l.take (j + 1)) (trS ps)) := Lib.hid (by
          rw [HNc.out, List.map_append, List.map_append, HWs.out, H3.out, List.append_assoc]
          simp only [List.map_cons, List.map_nil]
          rw [trS_append, trS_append, HT.out, List.append_assoc]; rfl)
        clear r5 o5 A5 G5 X5 R5 k5 hn5 hK35 hl5 hw3l A3
        go_wp2_with (first
          | ((with_reducible refine wpList_load_S rfl (.tmp 12) rfl _ _ rfl ⟨3, k0', k1', k2', ts'⟩ (.slice ta' tn' tc') (.slice a' len' cap') ?_ ?_)
             · exact HRng.out)
          | ((with_reducible refine wpList_load_S rfl (.tmp 7) rfl _ _ rfl ⟨3, k0', k1', k2', ts'⟩ (.slice ta' tn' tc') (.slice a' len' cap') ?_ ?_)
             · exact World.rangeAt_of_block BY3.out 0 6)
          | (at_builtin; refine wpList_append_run rfl (.tmp 22) (.tmp 24) 44 rfl _ _ rfl rfl RR5.out ?_))
        refine HD.out.mono ?_
        rintro e w6 ⟨rfl, va6, x6, r6, k6, hva6⟩
        have X6 := Lib.hid x6
        have R6 := Lib.hid r6
        have A6 := Lib.hid (A5'.out.far k6 (fun g hg hf => hf.elim (ownS_box_type A5'.out X5'.out g hg) (ownS_row_type A5'.out R5'.out g hg)))
        have O6 := Lib.hid (O5.out.far k6 (fun g hg hf => hf.elim (ownS_box_type O5.out X5'.out g hg) (ownS_row_type O5.out R5'.out g hg)))
        have K6 : Hid (Kept (fun k => k = X ∨ v.ownBlock = some k ∨ va.ownBlock = some k) w w6) := Lib.hid (HK.out.trans (((K3.out.trans K5.out (fun i _ e => .inr (.inl e))).trans k6 (fun i hi e => by
          rcases e with e | e
          · exact .inl e
          · rcases HV3.out with h | ⟨k, h, h2⟩
            · right; right; rw [← h]; exact e
            · rw [h] at e; cases e; omega))) HSub.out)
        have HV6 : Hid (va6.ownBlock = va.ownBlock ∨ ∃ k, va6.ownBlock = some k ∧ w.heap.size ≤ k) := Lib.hid (by
          rcases hva6 with h | ⟨k, h, h2⟩
          · rw [h]
            rcases HV3.out with h | ⟨k, h, h2⟩
            · rw [h]; exact HVa.out
            · exact .inr ⟨k, h, by omega⟩
          · exact .inr ⟨k, h, by omega⟩)
        clear x6 r6 k6 hva6
        go_wp2_with fail
        go_roundw
        case rel =>
          refine ⟨j + 1, va6, wsj ++ ws3 ++ [ps ++ (ls.take j ++ [(St.mk ⟨3, k0', k1', k2', ts'⟩ sb, Value.slice ta' tn' tc', Value.slice a' len' cap')])], by omega, by go_num, HTr.out, X6.out, ?_, A6.out, ?_, G5'.out, K6.out, HV6.out⟩
          · have := R6.out
            rw [List.append_assoc, List.append_assoc] at this
            rw [List.append_assoc]
            exact this
          · rw [HN.out]; exact O6.out
        case measure => simp [intOf]; omega
      · have hk3' : (k' == 3) = false := by simpa using hk3
        obtain ⟨w3, hw3⟩ : ∃ w3, w3 = W1 := ⟨_, rfl⟩
        obtain ⟨va3, hva3⟩ : ∃ x, x = vaj := ⟨_, rfl⟩
        obtain ⟨ws3, hws3⟩ : ∃ x : List (List SQ), x = [] := ⟨_, rfl⟩
        have H3 : Hid (ws3.map trS = Q) := Lib.hid (by rw [HQ2.out hk3, hws3]; rfl)
        have R3 : Hid (LRowD kS 65 44 w3 ok B (fun g => p g ∧ (Value.slice aj nj cj).ownBlock ≠ some g) va3 (ws ++ wsj ++ ws3)) := Lib.hid (by rw [hw3, hva3, hws3, List.append_nil]; exact HRj.out.keptN KW1.out)
        have J3 : Hid (RowD kS 65 w3 B (.slice aj nj cj) (ps ++ ls.take j)) := Lib.hid (by rw [hw3]; exact Kept.row KW1.out HAj.out (fun _ _ g => g))
        have X3 : Hid (Blk w3 X 124 #[va3]) := Lib.hid (by rw [hw3, hva3]; exact HXj.out.kept KW1.out id)
        have K3 : Hid (Kept (fun k => k = X ∨ (Value.slice aj nj cj).ownBlock = some k ∨ vaj.ownBlock = some k) wr w3) := Lib.hid (by rw [hw3]; exact KW1.out.mono (fun _ _ g => g.elim))
        have BY3 : Hid (Blk w3 wr.heap.size 65 (arrS ⟨k', k0', k1', k2', ts'⟩ (.slice ta' tn' tc') (.slice a' len' cap'))) := Lib.hid (by rw [hw3]; exact BY1.out)
        have HV3 : Hid (va3.ownBlock = vaj.ownBlock ∨ ∃ k, va3.ownBlock = some k ∧ wr.heap.size ≤ k) := Lib.hid (.inl (by rw [hva3]))
        have hs3 : wr.heap.size < w3.heap.size := by rw [hw3]; omega
        rw [← hw3] at hW1
        clear hva3 hws3 hYF hokY hw3 c0 c7
        have c0 := BY3.out.cell 0
        simp at c0
        have A3 : RowD kS 65 w3 B v ps := RowD.back HAv.out J3.out HTl.out HSh.out (fun k hk => (HVl.out k hk).2) K3.out (fun g hg hf => by
          rcases hf with hf | hf | hf
          · exact absurd hf (ownS_box_type HAv.out HXj.out g hg)
          · exact hf
          · exact absurd hf (ownS_row_type HAv.out HRj.out g hg))
        obtain ⟨a5, n5, c5, w5, r5, o5, A5, G5, R5, X5, k5, hn5⟩ := eachS_append (w := w) (w3 := w3) (by omega) (by omega) HOk.out A3 (fun k hk => (HVl.out k hk).2) J3.out HTl.out HSh.out R3.out X3.out ⟨k', k0', k1', k2', ts'⟩ sb (.slice ta' tn' tc') (.slice a' len' cap') (kS.kept (q := (St.mk _ sb, .slice ta' tn' tc', .slice a' len' cap')) HS.out K3.out HOY.out) (by rw [List.length_append, HTl.out]; have := HBn.out.1; omega)
        have hs5 := k5.size
        have hK35 : KidsD kS w5 ok (ps ++ (ls.take j ++ [(St.mk ⟨k', k0', k1', k2', ts'⟩ sb, Value.slice ta' tn' tc', Value.slice a' len' cap')])) := by
          rw [← List.append_assoc]
          refine ((HQk.out.append (KidsD.single (D := kS) (q := (St.mk ⟨k', k0', k1', k2', ts'⟩ sb, Value.slice ta' tn' tc', Value.slice a' len' cap')) HS.out)).kept K3.out HOY.out).kept k5 (fun b o hb hf => ?_)
          exact HOY.out b o hb (.inr (.inl hf))
        have hl5 : (ps ++ (ls.take j ++ [(St.mk ⟨k', k0', k1', k2', ts'⟩ sb, Value.slice ta' tn' tc', Value.slice a' len' cap')])).length = ps.length + j + 1 := by
          rw [List.length_append, List.length_append, HTl.out]; rfl
        have hw3l : ws3.length ≤ cntL sb := by
          have h1 := congrArg List.length H3.out
          have := HQl.out
          rw [List.length_map] at h1
          omega
        have HD := Lib.hid (handSt_any ok B (fun g => p g ∧ (Value.slice a5 n5 c5).ownBlock ≠ some g) X w5 (At.own o5) hK35 ⟨by omega, by have := HBn.out.1; omega⟩ X5 R5 HOk.out hBX (by omega) (fun g hg => ⟨HP2.out g (by omega), fun e => by
          obtain ⟨_, cur, hc⟩ := ownsBlk o5 g e
          have := hc.lt; omega⟩) (by rw [List.length_append, List.length_append]; have := HBn.out.2; omega))
        have RR5 := Lib.hid r5
        have O5 := Lib.hid o5
        have A5' := Lib.hid A5
        have G5' := Lib.hid G5
        have X5' := Lib.hid X5
        have R5' := Lib.hid R5
        have K5 := Lib.hid k5
        have HTr : Hid ((wsj ++ ws3 ++ [ps ++ (ls.take j ++ [(St.mk ⟨k', k0', k1', k2', ts'⟩ sb, Value.slice ta' tn' tc', Value.slice a' len' cap')])]).map trS = chSL (l.take (j + 1)) (trS ps)) := Lib.hid (by
          rw [HNc.out, List.map_append, List.map_append, HWs.out, H3.out, List.append_assoc]
          simp only [List.map_cons, List.map_nil]
          rw [trS_append, trS_append, HT.out, List.append_assoc]; rfl)
        clear r5 o5 A5 G5 X5 R5 k5 hn5 hK35 hl5 hw3l A3
        go_wp2_with (first
          | ((with_reducible refine wpList_load_S rfl (.tmp 12) rfl _ _ rfl ⟨k', k0', k1', k2', ts'⟩ (.slice ta' tn' tc') (.slice a' len' cap') ?_ ?_)
             · exact HRng.out)
          | ((with_reducible refine wpList_load_S rfl (.tmp 7) rfl _ _ rfl ⟨k', k0', k1', k2', ts'⟩ (.slice ta' tn' tc') (.slice a' len' cap') ?_ ?_)
             · exact World.rangeAt_of_block BY3.out 0 6)
          | (at_builtin; refine wpList_append_run rfl (.tmp 22) (.tmp 24) 44 rfl _ _ rfl rfl RR5.out ?_))
        refine HD.out.mono ?_
        rintro e w6 ⟨rfl, va6, x6, r6, k6, hva6⟩
        have X6 := Lib.hid x6
        have R6 := Lib.hid r6
        have A6 := Lib.hid (A5'.out.far k6 (fun g hg hf => hf.elim (ownS_box_type A5'.out X5'.out g hg) (ownS_row_type A5'.out R5'.out g hg)))
        have O6 := Lib.hid (O5.out.far k6 (fun g hg hf => hf.elim (ownS_box_type O5.out X5'.out g hg) (ownS_row_type O5.out R5'.out g hg)))
        have K6 : Hid (Kept (fun k => k = X ∨ v.ownBlock = some k ∨ va.ownBlock = some k) w w6) := Lib.hid (HK.out.trans (((K3.out.trans K5.out (fun i _ e => .inr (.inl e))).trans k6 (fun i hi e => by
          rcases e with e | e
          · exact .inl e
          · rcases HV3.out with h | ⟨k, h, h2⟩
            · right; right; rw [← h]; exact e
            · rw [h] at e; cases e; omega))) HSub.out)
        have HV6 : Hid (va6.ownBlock = va.ownBlock ∨ ∃ k, va6.ownBlock = some k ∧ w.heap.size ≤ k) := Lib.hid (by
          rcases hva6 with h | ⟨k, h, h2⟩
          · rw [h]
            rcases HV3.out with h | ⟨k, h, h2⟩
            · rw [h]; exact HVa.out
            · exact .inr ⟨k, h, by omega⟩
          · exact .inr ⟨k, h, by omega⟩)
        clear x6 r6 k6 hva6
        go_wp2_with fail
        go_roundw
        case rel =>
          refine ⟨j + 1, va6, wsj ++ ws3 ++ [ps ++ (ls.take j ++ [(St.mk ⟨k', k0', k1', k2', ts'⟩ sb, Value.slice ta' tn' tc', Value.slice a' len' cap')])], by omega, by go_num, HTr.out, X6.out, ?_, A6.out, ?_, G5'.out, K6.out, HV6.out⟩
          · have := R6.out
            rw [List.append_assoc, List.append_assoc] at this
            rw [List.append_assoc]
            exact this
          · rw [HN.out]; exact O6.out
        case measure => simp [intOf]; omega
    · obtain rfl : j = len := by omega
      have HE : Hid (l.take j = l) := Lib.hid (by rw [← HL.out]; simp)
      go_wp2_with fail
      refine bodyPost_ret (v := .tuple #[]) (by simp [results, Tryz.results79, go_sem]) rfl ⟨rfl, vaj, wsj, by rw [HWs.out, HE.out], HXj.out, HRj.out.mono (fun g _ _ hg => hg.1), HAv.out, HK.out, HVa.out⟩
theorem eachS_tree : ∀ s : St, ∀ ok p B X a cap v ps va ws w, SHolds w ok (.slice a s.subs.length cap) s.subs → RowD kS 65 w B v ps → KidsD kS w ok ps → Blk w X 124 #[va] → LRowD kS 65 44 w ok B p va ws →
    (∀ b o, ok b o → b < B) → B ≤ X → B ≤ w.heap.size → (∀ g, p g → v.ownBlock ≠ some g) → (∀ g, w.heap.size ≤ g → p g) → ps.length + cntL s.subs ≤ 5000 → ws.length + cntL s.subs ≤ 5000 →
    Calls Tryz.prog 79 #[v, .slice a s.subs.length cap, handS X] w (SEachEnd ok p B X s.subs v ps va ws w) := by
  refine St.ind fun hd subs ih ok p B X a cap v ps va ws w h1 h2 h3 h4 h5 h6 h7 h8 h9 h10 h11 h12 => ?_
  exact eachS_step subs _ rfl (fun hd' sb hx => ih _ hx) ok p B X a cap v ps va ws w h1 h2 h3 h4 h5 h6 h7 h8 h9 h10 h11 h12
end
section
open Go.RowKit
set_option maxRecDepth 100000

theorem chClo_any (k k0 k1 k2 : Int) (ts : List Tst) (sb : List St) (hc : (St.mk ⟨k, k0, k1, k2, ts⟩ sb).mass ≤ 5000) (hr : (St.mk ⟨k, k0, k1, k2, ts⟩ sb).right = true) (ok : Nat → Nat → Prop) (ta : Option Addr) (tc : Nat) (a : Option Addr) (cap : Nat) (w : World) (HT : Hid (TsAt w ok (.slice ta ts.length tc) ts)) (HS : Hid (SHolds w ok (.slice a sb.length cap) sb)) :
    Calls Tryz.prog 78 #[vS ⟨k, k0, k1, k2, ts⟩ (.slice ta ts.length tc) (.slice a sb.length cap)] w fun e w' => e = .returned (.bool false) ∧ Kept Nil w w' := by
  have CX : Hid (∀ W, Kept Nil w W → Calls Tryz.prog 66 #[vS ⟨k, k0, k1, k2, ts⟩ (.slice ta ts.length tc) (.slice a sb.length cap)] W fun e w' => e = .returned (.bool true) ∧ Kept Nil W w') := Lib.hid fun W kW => by
    have := stRight_any (.mk ⟨k, k0, k1, k2, ts⟩ sb) hc ok ta tc a cap W (HT.out.keptN kW) (HS.out.keptN kW)
    rw [hr] at this
    exact this
  generalize ts.length = tn at CX ⊢
  generalize sb.length = sn at CX ⊢
  have K0 := Lib.hid ((Kept.refl Nil w).alloc (.cells (arrS ⟨k, k0, k1, k2, ts⟩ (.slice ta tn tc) (.slice a sn cap)) 65))
  clear hr hc
  go_enter Tryz.func78, Tryz.ntmps78
  go_wp2_with fail
  refine (CX.out _ K0.out).mono ?_
  rintro e w2 ⟨rfl, k2⟩
  go_wp2_with fail
  go_ret
  exact ⟨rfl, K0.out.trans k2 (fun _ _ g => g)⟩
set_option maxHeartbeats 2000000 in
theorem chIdx_any (l : List St) (hm : massL l ≤ 5000) (hr : ∀ s ∈ l, s.right = true) (ok : Nat → Nat → Prop) (a : Option Addr) (cap : Nat) (w : World) (h : SHolds w ok (.slice a l.length cap) l) :
    Calls Tryz.prog 77 #[.slice a l.length cap, .func (.func 78) #[] #[]] w fun e w' => e = .returned (.int .i64 (-1)) ∧ Kept Nil w w' := by
  obtain ⟨len, hlen⟩ : ∃ n, l.length = n := ⟨_, rfl⟩
  have HH := Lib.hid h
  rw [hlen] at HH ⊢
  have HL := Lib.hid hlen
  have HM := Lib.hid hm
  have HR0 := Lib.hid hr
  have hLen : len ≤ 5000 := by have := length_massL l; omega
  clear h hlen hm hr
  go_enter Tryz.func77, Tryz.ntmps77
  go_wp2_with fail
  go_loopw [5, 8] (fun _ i wr => ∃ j : Nat, j ≤ len ∧ i = .int .i64 j ∧ Kept Nil w wr) (fun _ i _ => len - (intOf i).toNat)
  case atStart => exact ⟨0, by omega, rfl, Kept.refl _ _⟩
  case round =>
    obtain ⟨j, hj, rfl, hK⟩ := hrel
    have HK := Lib.hid hK
    clear hK
    by_cases hlt : j < len
    · obtain ⟨⟨⟨k', k0', k1', k2', ts'⟩, sb⟩, hx⟩ : ∃ x, l[j]? = some x := ⟨_, List.getElem?_eq_getElem (by have := HL.out; omega)⟩
      obtain ⟨b, o, ta', tc', a', cap', rfl, hok, hr, ht, hs⟩ := (HH.out.keptN HK.out).at_ hx
      have CX := Lib.hid (chClo_any k' k0' k1' k2' ts' sb (Nat.le_trans (mass_mem (List.mem_of_getElem? hx)) HM.out) (HR0.out _ (List.mem_of_getElem? hx)) ok ta' tc' a' cap' wr (Lib.hid ht) (Lib.hid hs))
      have HR : Hid (wr.rangeAt b (o + j * 6) (cS ⟨k', k0', k1', k2', ts'⟩ (.slice ta' ts'.length tc') (.slice a' sb.length cap'))) := Lib.hid hr
      generalize ts'.length = tn' at CX HR
      generalize sb.length = len' at CX HR
      clear hx hr ht hs hok
      go_wp2_with ((with_reducible refine wpList_load_S rfl (.tmp 14) rfl _ _ rfl ⟨k', k0', k1', k2', ts'⟩ (.slice ta' tn' tc') (.slice a' len' cap') ?_ ?_)
                   · exact HR.out)
      refine CX.out.mono ?_
      rintro e w2 ⟨rfl, k2⟩
      have K2 := Lib.hid (HK.out.trans k2 (fun _ _ g => g))
      clear k2
      go_wp2_with fail
      go_roundw
      case rel => exact ⟨j + 1, by omega, by go_num, K2.out⟩
      case measure => simp [intOf]; omega
    · obtain rfl : j = len := by omega
      go_wp2_with fail
      go_ret
      exact ⟨rfl, HK.out⟩
theorem chCont_any (l : List St) (hm : massL l ≤ 5000) (hr : ∀ s ∈ l, s.right = true) (ok : Nat → Nat → Prop) (a : Option Addr) (cap : Nat) (w : World) (h : SHolds w ok (.slice a l.length cap) l) :
    Calls Tryz.prog 67 #[.slice a l.length cap, .func (.func 78) #[] #[]] w fun e w' => e = .returned (.bool false) ∧ Kept Nil w w' := by
  have C := Lib.hid (chIdx_any l hm hr ok a cap w h)
  clear h hm hr
  generalize l.length = len at C ⊢
  go_enter Tryz.func67, Tryz.ntmps67
  go_wp2_with fail
  refine C.out.mono ?_
  rintro e w2 ⟨rfl, k2⟩
  go_wp2_with fail
  go_ret
  exact ⟨rfl, k2⟩
set_option maxHeartbeats 1000000 in
/-- The program's chains, as a law sees them. -/
theorem stChains_any (l : List St) (hm : massL l ≤ 2000) (hr : ∀ s ∈ l, s.right = true) (ok : Nat → Nat → Prop) (a : Option Addr) (cap : Nat) (w : World) (h : SHolds w ok (.slice a l.length cap) l) (hok : ∀ b o, ok b o → b < w.heap.size) :
    Calls Tryz.prog 68 #[.slice a l.length cap] w fun e w' => ∃ a' n' c', e = .returned (.slice a' n' c') ∧ ListsS w' (fun b _ => b < w'.heap.size) (.slice a' n' c') (chSL l []) ∧ Kept Nil w w' := by
  have CR := Lib.hid (chCont_any l (by omega) hr ok a cap w h)
  have hcn := cnt_le_mass.2 l
  have CE : Hid (∀ (w1 W : World) (X : Nat), Kept Nil w w1 → Kept Nil w W → w1.heap.size = X → Blk W X 124 #[.slice none 0 0] → W.heap.size = X + 1 → Calls Tryz.prog 79 #[.slice none 0 0, .slice a l.length cap, handS X] W (SEachEnd ok (fun g => w.heap.size ≤ g) w.heap.size X l (.slice none 0 0) [] (.slice none 0 0) [] W)) := Lib.hid fun w1 W X k1 k hX hb hs => by
    have := k1.size
    exact eachS_tree (.mk ⟨0, 0, 0, 0, []⟩ l) ok (fun g => w.heap.size ≤ g) w.heap.size X a cap (.slice none 0 0) [] (.slice none 0 0) [] W (h.keptN k) (RowD.nil W) KidsD.nil hb (LRowD.nil W) hok (by omega) (by omega) (fun g _ e => by cases e) (fun g hg => by omega) (by simp [St.subs]; omega) (by simp [St.subs]; omega)
  have HOk := Lib.hid hok
  clear h hok hr hm hcn
  generalize l.length = n at *
  go_enter Tryz.func68, Tryz.ntmps68
  go_wp2_with fail
  refine CR.out.mono ?_
  rintro e w1 ⟨rfl, k1⟩
  have K1 := Lib.hid k1
  clear k1
  go_wp2_with fail
  refine (CE.out w1 _ _ K1.out (K1.out.alloc _) rfl (Blk.new _ _ _) (by simp)).mono ?_
  rintro e w2 ⟨rfl, va', ws', h1, h2, h3, h4, h5, h6⟩
  have hL := h3.listsS (ok' := fun b _ => b < w2.heap.size) (fun b o hb => by have := HOk.out b o hb; have := K1.out.size; have := h5.size; simp at this; omega) (fun g _ hg => hg)
  have h1' : ws'.map trS = chSL l [] := h1
  rw [List.nil_append, h1'] at hL
  have HL := Lib.hid hL
  have HK : Hid (Kept Nil w w2) := Lib.hid ((K1.out.alloc _).trans h5 (fun i hi e => by
    have := K1.out.size
    rcases e with e | e | e
    · omega
    · cases e
    · cases e))
  have c0 := h2.cell 0
  simp at c0
  obtain ⟨a', n', c', rfl⟩ : ∃ a' n' c', va' = .slice a' n' c' := by obtain ⟨x, y, e⟩ := h3.shape; exact ⟨x, _, y, e⟩
  clear h1 h2 h3 h4 h5 h6 hL h1'
  go_wp2_with fail
  go_ret
  exact ⟨a', n', c', rfl, HL.out, HK.out⟩
end
end
end Go.Proofs.YtljefbfjehblpaaGreat
