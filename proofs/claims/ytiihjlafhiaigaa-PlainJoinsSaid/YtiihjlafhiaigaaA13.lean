/- Layer plain: the program's choose. – Layer plain: the program's stops (what a Neg or an Ncc asks that there isn't, there is), given what goesOn does with the Subs. – Layer plain: the program's goBack. -/
import Derived.Test.YtiihjlafhiaigaaA12
import Derived.BigRegion
import Derived.Deep.RegionHeld3
import Derived.Deep.RegionLaw
namespace Go.Proofs.Ytiihjlafhiaigaa
section
open Go.RowKit
set_option maxRecDepth 100000

/-- What the region with two appends reads. -/
abbrev SC (p E n : Nat) (iv bv : Value) (f0 f1 f2 f3 : Int) (w : World) : Prop := w.cell? ⟨p, 2, none⟩ = some (.int .i64 (n : Int)) ∧ w.cell? ⟨p, 3, none⟩ = some iv ∧ w.cell? ⟨p, 4, none⟩ = some bv ∧ w.cell? ⟨E, 0, none⟩ = some (.int .i64 f0) ∧ w.cell? ⟨E, 1, none⟩ = some (.int .i64 f1) ∧ w.cell? ⟨E, 2, none⟩ = some (.int .i64 f2) ∧ w.cell? ⟨E, 3, none⟩ = some (.int .i64 f3)
theorem wp_region_lastL {P : Program} {Q : Exit → Act → World → Prop} {id : Nat} {l : List Oper} {a : Act} {w : World} (S : World → Prop) (hl : l ≠ []) (hm : P.follows .mixedOrders = true) (hB : lastB .any l.dropLast.toArray (l.getLast hl) = true)
    (h : wpAnyH P .any l.dropLast.toArray (ThenLast P (l.getLast hl) Q) S l.dropLast.toArray.size (Array.replicate (l.dropLast.toArray.size + 1) false) a w.drew) : (Code.region id l.toArray true).wp P Q a w :=
  wp_region_last S l.dropLast.toArray (l.getLast hl) (by rw [List.push_toArray, List.dropLast_concat_getLast]) hm hB h
theorem Pt.sc {W0 Z W : World} {B p E n : Nat} {fv cv iv bv hv uv : Value} {f0 f1 f2 f3 : Int} {hv' : Value} {hl : List (Int × Int)} {iv0 bv0 iv' bv' : Value} {li : List Int} {lb : List T3} (h : Pt W0 Z B p E #[fv, cv, .int .i64 (n : Int), iv, bv, hv, uv] #[.int .i64 f0, .int .i64 f1, .int .i64 f2, .int .i64 f3] hv' hl iv0 bv0 iv' bv' li lb W) : SC p E n iv bv f0 f1 f2 f3 W :=
  ⟨h.bp.cell 2, h.bp.cell 3, h.bp.cell 4, h.bE.cell 0, h.bE.cell 1, h.bE.cell 2, h.bE.cell 3⟩
/-- What choose leaves. -/
def ChooseEnd (W0 : World) (B p : Nat) (fv cv : Value) (b0 : List F4) (G : Nat → Prop) (n : Nat) (k : Stk) (u : Nat) (fs : List F4) (s : St) (w : World) (e : Ending) (w' : World) : Prop :=
  (∃ i f, fs[i]? = some f ∧ (∀ K, nxt fs s (chOf b0 k) u K = K (chOf b0 k ++ [f]) ++ nxt fs s (chOf b0 k) (i + 1) K) ∧ e = .returned (.bool true) ∧ Kept G w w' ∧ ∃ iv' bv' hv', Wk W0 B p fv cv b0 w' (Gr G w w') (n + 1) ((n, i, f) :: k) 0 iv' bv' hv') ∨
  ((∀ K, nxt fs s (chOf b0 k) u K = []) ∧ e = .returned (.bool false) ∧ Kept Nil w w')
set_option maxHeartbeats 8000000 in
theorem choose_any {W0 : World} {B p : Nat} {cv : Value} {b0 : List F4} {G : Nat → Prop} {n u : Nat} {iv bv hv : Value} {fa : Option Addr} {fn fc : Nat} (fs : List F4) (s : St) (hs1 : s.hd.k = 1) (hg : s.goodS) (k : Stk) (w : World) (h : Wk W0 B p (.slice fa fn fc) cv b0 w G n k u iv bv hv) (hF : In cF 4 W0 fa fn fs) (hfn : fn ≤ 1000) (hu : u ≤ fn) (hk : k.length ≤ 1000) (hn : n ≤ 1000) (hb0 : b0.length ≤ 1000)
    (ta : Option Addr) (tn tc : Nat) (htn : s.hd.ts.length = tn) (ua : Option Addr) (un uc : Nat) (ht : TsAt W0 Any2 (.slice ta tn tc) s.hd.ts) :
    Calls Try.prog 73 #[.pointer (some ⟨p, 0, none⟩), vS s.hd (.slice ta tn tc) (.slice ua un uc)] w (ChooseEnd W0 B p (.slice fa fn fc) cv b0 G n k u fs s w) := by
  have HW := Lib.hid h
  obtain ⟨m, hm⟩ : ∃ m, k.length = m := ⟨_, rfl⟩
  obtain ⟨z, hz⟩ : ∃ z, b0.length + m = z := ⟨_, rfl⟩
  obtain ⟨ia, ic, e1⟩ := h.ids.shape
  obtain ⟨ba, bc, e2⟩ := h.back.shape
  obtain ⟨ha, hc, e3⟩ := h.chs.shape
  rw [idsOf_len, hm] at e1
  rw [List.length_map, chOf_len, hm, hz] at e2
  rw [hOf_len, hm] at e3
  subst e1 e2 e3
  obtain ⟨_, hts, htl, _⟩ := goodS_mk.1 (s.eta.symm ▸ hg)
  subst htn
  have CM := Lib.hid (fun (t : T3) W (kW : Kept Nil w W) => meets_any s.hd ((chOf b0 k).map Prod.snd) t hts (by omega) ba z bc (by unfold maxLen; omega) Any2 ta tc (.slice ua un uc) ⟨ua, un, uc, rfl⟩ W ((HW.out.keptN kW).back.toIn (HW.out.k0.trans kW (fun _ _ g => g))) (ht.keptN (HW.out.k0.trans kW (fun _ _ g => g))))
  generalize s.hd.ts.length = tn at *
  have HFi := Lib.hid hF
  have HN : Hid (∀ j f, fs[j]? = some f → meetH s.hd ((chOf b0 k).map Prod.snd) f.2 = false → ∀ K, nxt fs s (chOf b0 k) j K = nxt fs s (chOf b0 k) (j + 1) K) := Lib.hid fun j f hf hm K => nxt_skip hs1 hf hm
  have HY : Hid (∀ j f, fs[j]? = some f → meetH s.hd ((chOf b0 k).map Prod.snd) f.2 = true → ∀ K, nxt fs s (chOf b0 k) j K = K (chOf b0 k ++ [f]) ++ nxt fs s (chOf b0 k) (j + 1) K) := Lib.hid fun j f hf hm K => nxt_hit hs1 hf hm
  have HE : Hid (∀ K, nxt fs s (chOf b0 k) fn K = []) := Lib.hid fun K => nxt_end hs1 (by rw [hF.1]; exact Nat.le_refl _)
  obtain ⟨⟨sk, sk0, sk1, sk2, sts⟩, ssb⟩ := s
  have CM' : Hid (∀ (t : T3) W (kW : Kept Nil w W), Calls Try.prog 63 #[.agg #[.int .i64 sk, .int .i64 sk0, .int .i64 sk1, .int .i64 sk2, .slice ta tn tc, .slice ua un uc], .slice ba z bc, av t] W fun e w' => e = .returned (.bool (meetH ⟨sk, sk0, sk1, sk2, sts⟩ ((chOf b0 k).map Prod.snd) t)) ∧ Kept Nil W w') := CM
  have HN' : Hid (∀ j f, fs[j]? = some f → meetH ⟨sk, sk0, sk1, sk2, sts⟩ ((chOf b0 k).map Prod.snd) f.2 = false → ∀ K, nxt fs (.mk ⟨sk, sk0, sk1, sk2, sts⟩ ssb) (chOf b0 k) j K = nxt fs (.mk ⟨sk, sk0, sk1, sk2, sts⟩ ssb) (chOf b0 k) (j + 1) K) := HN
  have HY' : Hid (∀ j f, fs[j]? = some f → meetH ⟨sk, sk0, sk1, sk2, sts⟩ ((chOf b0 k).map Prod.snd) f.2 = true → ∀ K, nxt fs (.mk ⟨sk, sk0, sk1, sk2, sts⟩ ssb) (chOf b0 k) j K = K (chOf b0 k ++ [f]) ++ nxt fs (.mk ⟨sk, sk0, sk1, sk2, sts⟩ ssb) (chOf b0 k) (j + 1) K) := HY
  have KB := (Kept.refl Nil w).alloc (.cells #[.int .i64 sk, .int .i64 sk0, .int .i64 sk1, .int .i64 sk2, .slice ta tn tc, .slice ua un uc] 59)
  have BS := Lib.hid (Blk.new w 59 #[.int .i64 sk, .int .i64 sk0, .int .i64 sk1, .int .i64 sk2, .slice ta tn tc, .slice ua un uc])
  have b6 := (h.keptN KB).blk.cell 6
  have hp := h.blk.lt
  simp at b6
  have KB0 := Lib.hid KB
  clear h CM HN HY hF hs1 hg ht hts htl KB
  show Calls Try.prog 73 #[.pointer (some ⟨p, 0, none⟩), .agg #[.int .i64 sk, .int .i64 sk0, .int .i64 sk1, .int .i64 sk2, .slice ta tn tc, .slice ua un uc]] w _
  go_enter Try.func73, Try.ntmps73
  go_wp2_with fail
  go_loopw [5] (fun vi wr => ∃ j : Nat, j ≤ fn ∧ vi = .int .i64 j ∧ (∀ K, nxt fs (.mk ⟨sk, sk0, sk1, sk2, sts⟩ ssb) (chOf b0 k) u K = nxt fs (.mk ⟨sk, sk0, sk1, sk2, sts⟩ ssb) (chOf b0 k) j K) ∧ Kept Nil (w.alloc (.cells #[.int .i64 sk, .int .i64 sk0, .int .i64 sk1, .int .i64 sk2, .slice ta tn tc, .slice ua un uc] 59)) wr) (fun vi _ => fn - (intOf vi).toNat)
  case atStart => exact ⟨u, hu, rfl, fun _ => rfl, Kept.refl _ _⟩
  case round =>
    obtain ⟨j, hj, rfl, hch, hK⟩ := hrel
    have HCh := Lib.hid hch
    have HK := Lib.hid (KB0.out.trans hK (fun _ _ g => g))
    have HWr := Lib.hid (HW.out.keptN HK.out)
    have HBr := Lib.hid (BS.out.kept hK (fun e => e))
    have KB1 := Lib.hid hK
    clear hK hch
    have y0 := HWr.out.blk.cell 0
    have hpw := HWr.out.blk.lt
    simp at y0
    by_cases hlt : j < fn
    rotate_left
    · obtain rfl : j = fn := by omega
      go_wp2_with fail
      go_ret
      exact .inr ⟨fun K => (HCh.out K).trans (HE.out K), rfl, HK.out⟩
    obtain ⟨⟨f0, f1, f2, f3⟩, hx⟩ : ∃ x, fs[j]? = some x := ⟨_, List.getElem?_eq_getElem (by rw [HFi.out.1]; exact hlt)⟩
    obtain ⟨b, o, rfl, hb, p0, p1, p2, p3⟩ := (HFi.out.kept (HW.out.k0.trans HK.out (fun _ _ g => g))).four hx
    have HX := Lib.hid hx
    simp only at p0 p1 p2 p3
    clear hx
    go_wp2_with fail
    have kb := (Kept.refl Nil wr).alloc (.cells #[.int .i64 f0, .int .i64 f1, .int .i64 f2, .int .i64 f3] 62)
    have bf := Blk.new wr 62 #[.int .i64 f0, .int .i64 f1, .int .i64 f2, .int .i64 f3]
    generalize (wr.alloc (.cells #[.int .i64 f0, .int .i64 f1, .int .i64 f2, .int .i64 f3] 62)) = V at *
    have KV := Lib.hid (HK.out.trans kb (fun _ _ g => g))
    have KB2 := Lib.hid kb
    have WV := Lib.hid (HWr.out.keptN kb)
    have BV := Lib.hid (HBr.out.kept kb (fun e => e))
    have BF := Lib.hid bf
    have CX := Lib.hid (CM'.out (f1, f2, f3))
    generalize hq : meetH ⟨sk, sk0, sk1, sk2, sts⟩ ((chOf b0 k).map Prod.snd) (f1, f2, f3) = q at CX
    have HQ := Lib.hid hq
    have r0 : ∀ n : CW (Kept Nil V), n.w.cell? ⟨w.heap.size, 0, none⟩ = some (.int .i64 sk) := fun n => (BV.out.kept n.of (fun e => e)).cell 0
    have r1 : ∀ n : CW (Kept Nil V), n.w.cell? ⟨w.heap.size, 1, none⟩ = some (.int .i64 sk0) := fun n => (BV.out.kept n.of (fun e => e)).cell 1
    have r2 : ∀ n : CW (Kept Nil V), n.w.cell? ⟨w.heap.size, 2, none⟩ = some (.int .i64 sk1) := fun n => (BV.out.kept n.of (fun e => e)).cell 2
    have r3 : ∀ n : CW (Kept Nil V), n.w.cell? ⟨w.heap.size, 3, none⟩ = some (.int .i64 sk2) := fun n => (BV.out.kept n.of (fun e => e)).cell 3
    have r4 : ∀ n : CW (Kept Nil V), n.w.cell? ⟨w.heap.size, 4, none⟩ = some (.slice ta tn tc) := fun n => (BV.out.kept n.of (fun e => e)).cell 4
    have r5 : ∀ n : CW (Kept Nil V), n.w.cell? ⟨w.heap.size, 5, none⟩ = some (.slice ua un uc) := fun n => (BV.out.kept n.of (fun e => e)).cell 5
    have g1 : ∀ n : CW (Kept Nil V), n.w.cell? ⟨wr.heap.size, 1, none⟩ = some (.int .i64 f1) := fun n => (BF.out.kept n.of (fun e => e)).cell 1
    have g2 : ∀ n : CW (Kept Nil V), n.w.cell? ⟨wr.heap.size, 2, none⟩ = some (.int .i64 f2) := fun n => (BF.out.kept n.of (fun e => e)).cell 2
    have g3 : ∀ n : CW (Kept Nil V), n.w.cell? ⟨wr.heap.size, 3, none⟩ = some (.int .i64 f3) := fun n => (BF.out.kept n.of (fun e => e)).cell 3
    have h4 : ∀ n : CW (Kept Nil V), n.w.cell? ⟨p, 4, none⟩ = some (.slice ba z bc) := fun n => (WV.out.keptN n.of).blk.cell 4
    have CMn := Lib.hid (fun n : CW (Kept Nil V) => CX.out n.w (KV.out.trans n.of (fun _ _ g => g)))
    clear kb bf hq CX y0 p0 p1 p2 p3 hb
    refine wp_region_in (Kept Nil V) (by kernel_rfl) (by kernel_rfl) ((Kept.refl _ _).drew) ?_
    have inst : Nonempty (CW (Kept Nil V)) := ⟨⟨V, Kept.refl _ _⟩⟩
    repeat (go_big_quiet_step ((go_at_call 63; with_reducible exact call_in (fun _ _ a b => a.trans b (fun _ _ g => g)) (CMn.out _))))
    refine wpQuiet_nil ?_
    rintro _ ⟨n, rfl⟩
    have KX0 := Lib.hid (KV.out.trans n.of (fun _ _ g => g))
    have WX := Lib.hid (WV.out.keptN n.of)
    have BX := Lib.hid (BF.out.kept n.of (fun e => e))
    have KXB := Lib.hid (KB1.out.trans (KB2.out.trans n.of (fun _ _ g => g)) (fun _ _ g => g))
    generalize n.w = X at *
    clear r0 r1 r2 r3 r4 r5 g1 g2 g3 h4 CMn KV WV BV BF inst n HBr HWr
    cases q
    · go_wp2_with fail
      go_roundw
      case rel => exact ⟨j + 1, by omega, by go_num, fun K => (HCh.out K).trans (HN'.out j _ HX.out HQ.out K), KXB.out⟩
      case measure => simp [intOf]; omega
    have hm1 : m ≤ 1000 := by rw [← hm]; exact hk
    obtain ⟨q, hq⟩ : ∃ q, m + 1 = q := ⟨_, rfl⟩
    obtain ⟨WA, hWA⟩ : ∃ W, X.drew.alloc (.cells #[.int .i64 (n : Int), .int .i64 (j : Int)] 138) = W := ⟨_, rfl⟩
    obtain ⟨gX, hgX⟩ : ∃ g, X.heap.size = g := ⟨_, rfl⟩
    have kA : Kept Nil X WA := by rw [← hWA]; exact (Kept.refl Nil X).drew.alloc _
    have wA := WX.out.keptN kA
    obtain ⟨a6, c6, W6, r6, row6, k6, o6⟩ := wA.chs.pushLit elsH2 cH_len cH_one 123 (by rw [hOf_len, hm]; omega) (Nat.le_trans (wA.base p wA.gp).1 (Nat.le_of_lt (wA.base p wA.gp).2)) (x := ((n : Int), (j : Int))) (cs := #[.int .i64 (n : Int), .int .i64 (j : Int)]) (g := gX) (by rw [← hWA, ← hgX]; exact Blk.new X.drew _ _) rfl
    rw [hOf_len, hm, hq] at r6 row6 o6
    have bp6 := wA.blk.kept k6 (fun e => wA.chs.notBlk wA.blk neq_WH e.1)
    have x2 := WX.out.blk.cell 2
    have x5 := WX.out.blk.cell 5
    have y2 := wA.blk.cell 2
    have y5 := wA.blk.cell 5
    have z5 := bp6.cell 5
    have zf := bp6.frozen 5
    have hpX := WX.out.blk.lt
    have hpA := wA.blk.lt
    have hp6 := bp6.lt
    simp at x2 x5 y2 y5 z5
    have HR6 := Lib.hid row6
    have HK6 := Lib.hid k6
    have HO6 := Lib.hid o6
    have HKA := Lib.hid kA
    have HWA' := Lib.hid wA
    have HBP := Lib.hid bp6
    rw [hgX] at hpX
    clear kA wA row6 k6 o6 bp6
    go_upto_region 6 with fail
    go_cut [] from 36 to 51 (fun wx => wx = W6.setCell ⟨p, 5, none⟩ (.slice a6 q c6))
    case first =>
      go_region_law (refine step_append_run (v' := .slice a6 q c6) (w' := W6) rfl (.tmp 40) (.tmp 48) 123 rfl (.slice ha m hc) (.slice (some ⟨gX, 0, none⟩) 1 1) rfl rfl (by with_reducible exact r6) ?_)
      all_goals
        go_wp2_with fail
        go_meet
        exact rfl
    case rest =>
      subst hcut
      go_upto_region 7 with fail
      obtain ⟨E, hE⟩ : ∃ E, wr.heap.size = E := ⟨_, rfl⟩
      rw [hE] at BX ⊢
      obtain ⟨Y, hY⟩ : ∃ Y, W6.setCell ⟨p, 5, none⟩ (.slice a6 q c6) = Y := ⟨_, rfl⟩
      rw [hY]
      have KY0 : Kept G w Y := by
        rw [← hY]
        exact (((KX0.out.trans HKA.out (fun _ _ e => e)).mono (fun _ _ e => e.elim)).trans HK6.out (fun i hi e => HW.out.gh i e.1)).setCell _ (.inl HW.out.gp) _
      have bY : Blk Y p 125 #[.slice (some ⟨b, o, none⟩) fn fc, cv, .int .i64 n, .slice ia m ic, .slice ba z bc, .slice a6 q c6, .int .i64 u] := by
        rw [← hY]
        exact HBP.out.set_ 5 _
      have bE : Blk Y E 62 #[.int .i64 f0, .int .i64 f1, .int .i64 f2, .int .i64 f3] := by
        rw [← hY]
        have h1 := BX.out.kept HKA.out (fun e => e)
        have h2 := h1.kept HK6.out (fun e => HWA'.out.chs.notBlk h1 (by decide) e.1)
        exact h2.far (fun e => by
          have h3 := HBP.out
          subst e
          unfold Blk at h2 h3
          rw [h2] at h3
          injection h3 with h3
          injection h3 with _ h4 _
          exact absurd h4 (by decide)) _
      have kYX : Kept (fun b => (Value.slice ha m hc).ownBlock = some b ∧ B ≤ b ∨ b = p) X Y := by
        rw [← hY]
        exact ((HKA.out.mono (fun _ _ e => e.elim)).trans HK6.out (fun i hi e => .inl e)).setCell _ (.inl (.inr rfl)) _
      have chY : Row cH 138 2 Y B (.slice a6 q c6) (hOf k ++ [((n : Int), (j : Int))]) := by
        rw [← hY]
        have : Row cH 138 2 (W6.setCell ⟨p, 5, none⟩ (.slice a6 q c6)) B (.slice a6 q c6) (hOf k ++ [((n : Int), (j : Int))]) := HR6.out.keptF (F := fun b => b = p) ((Kept.refl (fun b => b = p) W6).setCell ⟨p, 5, none⟩ (.inl rfl) _) (fun x hx e => by subst e; exact HR6.out.notBlk HBP.out neq_WH hx)
        exact this
      have OH : Hid (∀ b, (Value.slice a6 q c6).ownBlock = some b → G b ∨ w.heap.size ≤ b) := Lib.hid fun x hx => by
        rcases HO6.out x hx with e | e
        · exact .inl (HW.out.gh x e.1)
        · exact .inr (by rw [e]; exact (KX0.out.trans HKA.out (fun _ _ e => e)).size)
      have ptY : Pt W0 Y.drew B p E #[.slice (some ⟨b, o, none⟩) fn fc, cv, .int .i64 n, .slice ia m ic, .slice ba z bc, .slice a6 q c6, .int .i64 u] #[.int .i64 f0, .int .i64 f1, .int .i64 f2, .int .i64 f3] (.slice a6 q c6) (hOf k ++ [((n : Int), (j : Int))]) (.slice ia m ic) (.slice ba z bc) (.slice ia m ic) (.slice ba z bc) (idsOf k) ((chOf b0 k).map Prod.snd) Y.drew :=
        ⟨RB.keptN (W := Y) ⟨WX.out.ids.keptF kYX (fun x hx e => by
            rcases e with e | e
            · exact rows_apart2 neq_IH WX.out.ids WX.out.chs x hx e.1
            · subst e; exact WX.out.ids.notBlk WX.out.blk neq_WI hx), WX.out.back.kept kYX (fun x hx hB e => by
            rcases e with e | e
            · obtain ⟨cur, hcur⟩ := WX.out.chs.block e.1
              exact WX.out.back.notBlk WX.out.hB (show Blk X x 138 cur from hcur) (fun e => neq_TH e.symm) ⟨hx, hB⟩
            · subst e; exact WX.out.back.notBlk WX.out.hB WX.out.blk neq_WT ⟨hx, hB⟩), HW.out.k0.trans KY0 (fun i hi e => absurd (HW.out.base i e).1 (by have := HW.out.hB; omega)), HW.out.hB, Nat.le_trans (Nat.le_trans (HW.out.base p HW.out.gp).1 (Nat.le_of_lt (HW.out.base p HW.out.gp).2)) KY0.size⟩ (Kept.refl Nil Y).drew, bY.drew, bE.drew, chY.keptN (Kept.refl Nil Y).drew, Kept.refl _ _, fun x hx => .inl ⟨hx, (WX.out.ids.lt x hx).1⟩, fun x hx hB => .inl ⟨hx, hB⟩⟩
      have KY := Lib.hid KY0
      have PY := Lib.hid ptY
      have nI : (idsOf k).length = m := by rw [idsOf_len, hm]
      have nT : ((chOf b0 k).map Prod.snd).length = z := by rw [List.length_map, chOf_len, hm, hz]
      have hn1 : (idsOf k).length ≤ 5000 := by rw [nI]; omega
      have hn2 : ((chOf b0 k).map Prod.snd).length ≤ 5000 := by rw [nT]; omega
      obtain ⟨y, hy⟩ : ∃ y, z + 1 = y := ⟨_, rfl⟩
      obtain ⟨WA, hWA⟩ : ∃ W, Y.drew.alloc (.cells #[.int .i64 f0] 3) = W := ⟨_, rfl⟩
      obtain ⟨WAB, hWAB⟩ : ∃ W, WA.alloc (.cells #[.int .i64 f1, .int .i64 f2, .int .i64 f3] 56) = W := ⟨_, rfl⟩
      obtain ⟨WB, hWB⟩ : ∃ W, Y.drew.alloc (.cells #[.int .i64 f1, .int .i64 f2, .int .i64 f3] 56) = W := ⟨_, rfl⟩
      obtain ⟨WBA, hWBA⟩ : ∃ W, WB.alloc (.cells #[.int .i64 f0] 3) = W := ⟨_, rfl⟩
      obtain ⟨gY, hgY⟩ : ∃ g, Y.heap.size = g := ⟨_, rfl⟩
      obtain ⟨gA, hgA⟩ : ∃ g, WA.heap.size = g := ⟨_, rfl⟩
      obtain ⟨gB, hgB⟩ : ∃ g, WB.heap.size = g := ⟨_, rfl⟩
      have kA : Kept Nil Y.drew WA := by rw [← hWA]; exact (Kept.refl Nil _).alloc _
      have kAB : Kept Nil WA WAB := by rw [← hWAB]; exact (Kept.refl Nil _).alloc _
      have kB : Kept Nil Y.drew WB := by rw [← hWB]; exact (Kept.refl Nil _).alloc _
      have kBA : Kept Nil WB WBA := by rw [← hWBA]; exact (Kept.refl Nil _).alloc _
      have lA : Blk WA gY 3 #[.int .i64 f0] := by rw [← hWA, ← hgY]; exact Blk.new Y.drew _ _
      have lAB : Blk WAB gA 56 #[.int .i64 f1, .int .i64 f2, .int .i64 f3] := by rw [← hWAB, ← hgA]; exact Blk.new WA _ _
      have lB : Blk WB gY 56 #[.int .i64 f1, .int .i64 f2, .int .i64 f3] := by rw [← hWB, ← hgY]; exact Blk.new Y.drew _ _
      have lBA : Blk WBA gB 3 #[.int .i64 f0] := by rw [← hWBA, ← hgB]; exact Blk.new WB _ _
      have pA := ptY.keptN kA
      have pAB := pA.keptN kAB
      have pB := ptY.keptN kB
      have pBA := pB.keptN kBA
      obtain ⟨a1, c1, w1, a2, c2, w2, r1, r2, p1, p2, t2⟩ := pA.late_IT lA (f1, f2, f3) hn1 hn2
      obtain ⟨a3, c3, w3, a4, c4, w4, r3, r4, p3, p4, t4⟩ := pAB.two_IT (t := (f1, f2, f3)) (lA.kept kAB (fun e => e)) lAB hn1 hn2
      obtain ⟨a5, c5, w5, a6_, c6_, w6, r5, r6_, p5, p6, t6⟩ := pBA.two_IT (t := (f1, f2, f3)) lBA (lB.kept kBA (fun e => e)) hn1 hn2
      obtain ⟨W1B, hW1B⟩ : ∃ W, w1.alloc (.cells #[.int .i64 f1, .int .i64 f2, .int .i64 f3] 56) = W := ⟨_, rfl⟩
      obtain ⟨g1, hg1⟩ : ∃ g, w1.heap.size = g := ⟨_, rfl⟩
      simp only at r2
      rw [hW1B, hg1] at r2
      rw [nI, hq] at r1 r3 r5 p1 p2 p3 p4 p5 p6
      rw [nT, hy] at r2 r4 r6_ p2 p4 p6 t2 t4 t6
      have p1B := p1.keptN ((Kept.refl Nil w1).alloc (.cells #[.int .i64 f1, .int .i64 f2, .int .i64 f3] 56))
      rw [hW1B] at p1B
      have hS := Lib.hid (Pt.sc ptY)
      have SA := Lib.hid (Pt.sc pA)
      have SAB := Lib.hid (Pt.sc pAB)
      have SB := Lib.hid (Pt.sc pB)
      have SBA := Lib.hid (Pt.sc pBA)
      have S1 := Lib.hid (Pt.sc p1)
      have S1B := Lib.hid (Pt.sc p1B)
      have S2 := Lib.hid (Pt.sc p2)
      have S3 := Lib.hid (Pt.sc p3)
      have S4 := Lib.hid (Pt.sc p4)
      have S5 := Lib.hid (Pt.sc p5)
      have S6 := Lib.hid (Pt.sc p6)
      have e22 := p2.bp.cell 2
      have e23 := p2.bp.cell 3
      have e24 := p2.bp.cell 4
      have e26 := p2.bp.cell 6
      have z22 := p2.bp.frozen 2
      have z23 := p2.bp.frozen 3
      have z24 := p2.bp.frozen 4
      have z26 := p2.bp.frozen 6
      have e42 := p4.bp.cell 2
      have e43 := p4.bp.cell 3
      have e44 := p4.bp.cell 4
      have e46 := p4.bp.cell 6
      have z42 := p4.bp.frozen 2
      have z43 := p4.bp.frozen 3
      have z44 := p4.bp.frozen 4
      have z46 := p4.bp.frozen 6
      have e62 := p6.bp.cell 2
      have e63 := p6.bp.cell 3
      have e64 := p6.bp.cell 4
      have e66 := p6.bp.cell 6
      have z62 := p6.bp.frozen 2
      have z63 := p6.bp.frozen 3
      have z64 := p6.bp.frozen 4
      have z66 := p6.bp.frozen 6
      simp at e22 e23 e24 e26 e42 e43 e44 e46 e62 e63 e64 e66
      have hp2 := p2.bp.lt
      have hp4 := p4.bp.lt
      have hp6 := p6.bp.lt
      have P2 := Lib.hid p2
      have P4 := Lib.hid p4
      have P6 := Lib.hid p6
      have T2 := Lib.hid t2
      have T4 := Lib.hid t4
      have T6 := Lib.hid t6
      have R1 := Lib.hid r1
      have R2 := Lib.hid r2
      have R3 := Lib.hid r3
      have R4 := Lib.hid r4
      have R5 := Lib.hid r5
      have R6 := Lib.hid r6_
      have s1 : IntKind.i64.wrap ((n : Int) + 1) = ((n + 1 : Nat) : Int) := by rw [IntKind.wrap_i64]; omega
      clear r1 r2 r3 r4 r5 r6_ p1 p2 p3 p4 p5 p6 p1B t2 t4 t6 pA pAB pB pBA lA lAB lB lBA kA kAB kB kBA ptY chY kYX bE bY KY0 nI nT hn1 hn2 x2 x5 y2 y5 z5 zf hpX hpA hp6 r6 hY hgX
      refine wp_region_lastL (SC p E n (.slice ia m ic) (.slice ba z bc) f0 f1 f2 f3) (by simp) (by kernel_rfl) (by kernel_rfl) ?_
      simp only [List.dropLast, List.getLast]
      refine takeH (i := 0) (some 52) (.pointer (some ⟨p, 0, none⟩)) rfl rfl (by kernel_rfl) (by kernel_rfl) (by kernel_rfl) (fun _ _ _ h => h) (by rfl) hS.out ?_ ?_
      · intro w hSw
        go_simp
      simp only [Act.put, List.setIfInBounds_toArray, List.set_cons_succ, List.set_cons_zero]
      refine takeH (i := 1) (some 53) (.pointer (some ⟨p, 0, none⟩)) rfl rfl (by kernel_rfl) (by kernel_rfl) (by kernel_rfl) (fun _ _ _ h => h) (by rfl) hS.out ?_ ?_
      · intro w hSw
        go_simp
      simp only [Act.put, List.setIfInBounds_toArray, List.set_cons_succ, List.set_cons_zero]
      refine takeH (i := 2) (some 54) (.pointer (some ⟨p, 0, none⟩)) rfl rfl (by kernel_rfl) (by kernel_rfl) (by kernel_rfl) (fun _ _ _ h => h) (by rfl) hS.out ?_ ?_
      · intro w hSw
        go_simp
      simp only [Act.put, List.setIfInBounds_toArray, List.set_cons_succ, List.set_cons_zero]
      refine takeH (i := 3) (some 55) (.pointer (some ⟨p, 2, none⟩)) rfl rfl (by kernel_rfl) (by kernel_rfl) (by kernel_rfl) (fun _ _ _ h => h) (by rfl) hS.out ?_ ?_
      · intro w hSw
        go_simp
      simp only [Act.put, List.setIfInBounds_toArray, List.set_cons_succ, List.set_cons_zero]
      refine takeH (i := 4) (some 56) (.pointer (some ⟨p, 2, none⟩)) rfl rfl (by kernel_rfl) (by kernel_rfl) (by kernel_rfl) (fun _ _ _ h => h) (by rfl) hS.out ?_ ?_
      · intro w hSw
        go_simp
      simp only [Act.put, List.setIfInBounds_toArray, List.set_cons_succ, List.set_cons_zero]
      refine takeH (i := 5) (some 57) (.int .i64 (n : Int)) rfl rfl (by kernel_rfl) (by kernel_rfl) (by kernel_rfl) (fun _ _ _ h => h) (by rfl) hS.out ?_ ?_
      · intro w hSw
        go_simp
      simp only [Act.put, List.setIfInBounds_toArray, List.set_cons_succ, List.set_cons_zero]
      refine takeH (i := 6) (some 58) (.int .i64 ((n + 1 : Nat) : Int)) rfl rfl (by kernel_rfl) (by kernel_rfl) (by kernel_rfl) (fun _ _ _ h => h) (by rfl) hS.out ?_ ?_
      · intro w hSw
        go_simp
      simp only [Act.put, List.setIfInBounds_toArray, List.set_cons_succ, List.set_cons_zero]
      refine takeH (i := 7) (some 59) (.pointer (some ⟨p, 0, none⟩)) rfl rfl (by kernel_rfl) (by kernel_rfl) (by kernel_rfl) (fun _ _ _ h => h) (by rfl) hS.out ?_ ?_
      · intro w hSw
        go_simp
      simp only [Act.put, List.setIfInBounds_toArray, List.set_cons_succ, List.set_cons_zero]
      refine takeH (i := 8) (some 60) (.pointer (some ⟨p, 0, none⟩)) rfl rfl (by kernel_rfl) (by kernel_rfl) (by kernel_rfl) (fun _ _ _ h => h) (by rfl) hS.out ?_ ?_
      · intro w hSw
        go_simp
      simp only [Act.put, List.setIfInBounds_toArray, List.set_cons_succ, List.set_cons_zero]
      refine takeH (i := 9) (some 61) (.pointer (some ⟨p, 2, none⟩)) rfl rfl (by kernel_rfl) (by kernel_rfl) (by kernel_rfl) (fun _ _ _ h => h) (by rfl) hS.out ?_ ?_
      · intro w hSw
        go_simp
      simp only [Act.put, List.setIfInBounds_toArray, List.set_cons_succ, List.set_cons_zero]
      refine takeH (i := 10) (some 62) (.pointer (some ⟨p, 3, none⟩)) rfl rfl (by kernel_rfl) (by kernel_rfl) (by kernel_rfl) (fun _ _ _ h => h) (by rfl) hS.out ?_ ?_
      · intro w hSw
        go_simp
      simp only [Act.put, List.setIfInBounds_toArray, List.set_cons_succ, List.set_cons_zero]
      refine takeH (i := 11) (some 63) (.slice ia m ic) rfl rfl (by kernel_rfl) (by kernel_rfl) (by kernel_rfl) (fun _ _ _ h => h) (by rfl) hS.out ?_ ?_
      · intro w hSw
        go_simp
      simp only [Act.put, List.setIfInBounds_toArray, List.set_cons_succ, List.set_cons_zero]
      refine takeH (i := 12) (some 64) (.pointer (some ⟨E, 0, none⟩)) rfl rfl (by kernel_rfl) (by kernel_rfl) (by kernel_rfl) (fun _ _ _ h => h) (by rfl) hS.out ?_ ?_
      · intro w hSw
        go_simp
      simp only [Act.put, List.setIfInBounds_toArray, List.set_cons_succ, List.set_cons_zero]
      refine takeH (i := 13) (some 65) (.int .i64 f0) rfl rfl (by kernel_rfl) (by kernel_rfl) (by kernel_rfl) (fun _ _ _ h => h) (by rfl) hS.out ?_ ?_
      · intro w hSw
        go_simp
      simp only [Act.put, List.setIfInBounds_toArray, List.set_cons_succ, List.set_cons_zero]
      refine takeH (i := 16) (some 68) (.pointer (some ⟨p, 0, none⟩)) rfl rfl (by kernel_rfl) (by kernel_rfl) (by kernel_rfl) (fun _ _ _ h => h) (by rfl) hS.out ?_ ?_
      · intro w hSw
        go_simp
      simp only [Act.put, List.setIfInBounds_toArray, List.set_cons_succ, List.set_cons_zero]
      refine takeH (i := 17) (some 69) (.pointer (some ⟨p, 0, none⟩)) rfl rfl (by kernel_rfl) (by kernel_rfl) (by kernel_rfl) (fun _ _ _ h => h) (by rfl) hS.out ?_ ?_
      · intro w hSw
        go_simp
      simp only [Act.put, List.setIfInBounds_toArray, List.set_cons_succ, List.set_cons_zero]
      refine takeH (i := 18) (some 70) (.pointer (some ⟨p, 2, none⟩)) rfl rfl (by kernel_rfl) (by kernel_rfl) (by kernel_rfl) (fun _ _ _ h => h) (by rfl) hS.out ?_ ?_
      · intro w hSw
        go_simp
      simp only [Act.put, List.setIfInBounds_toArray, List.set_cons_succ, List.set_cons_zero]
      refine takeH (i := 19) (some 71) (.pointer (some ⟨p, 4, none⟩)) rfl rfl (by kernel_rfl) (by kernel_rfl) (by kernel_rfl) (fun _ _ _ h => h) (by rfl) hS.out ?_ ?_
      · intro w hSw
        go_simp
      simp only [Act.put, List.setIfInBounds_toArray, List.set_cons_succ, List.set_cons_zero]
      refine takeH (i := 20) (some 72) (.slice ba z bc) rfl rfl (by kernel_rfl) (by kernel_rfl) (by kernel_rfl) (fun _ _ _ h => h) (by rfl) hS.out ?_ ?_
      · intro w hSw
        go_simp
      simp only [Act.put, List.setIfInBounds_toArray, List.set_cons_succ, List.set_cons_zero]
      refine takeH (i := 21) (some 73) (.pointer (some ⟨E, 1, none⟩)) rfl rfl (by kernel_rfl) (by kernel_rfl) (by kernel_rfl) (fun _ _ _ h => h) (by rfl) hS.out ?_ ?_
      · intro w hSw
        go_simp
      simp only [Act.put, List.setIfInBounds_toArray, List.set_cons_succ, List.set_cons_zero]
      refine takeH (i := 22) (some 74) (.agg #[.int .i64 f1, .int .i64 f2, .int .i64 f3]) rfl rfl (by kernel_rfl) (by kernel_rfl) (by kernel_rfl) (fun _ _ _ h => h) (by rfl) hS.out ?_ ?_
      · intro w hSw
        go_simp
      simp only [Act.put, List.setIfInBounds_toArray, List.set_cons_succ, List.set_cons_zero]
      refine wpAnyH_all (rs := [14, 23]) (by kernel_rfl) (by decide) (forall_two ?_ ?_)
      · refine wpOp_of rfl rfl (lit_wp (some 66) rfl (v := (.slice (some ⟨gY, 0, none⟩) 1 1)) (w' := WA) ?_ ⟨SA.out, ?_⟩)
        · go_simp
        simp only [Act.put, List.setIfInBounds_toArray, List.set_cons_succ, List.set_cons_zero]
        refine wpAnyH_all (rs := [15, 23]) (by kernel_rfl) (by decide) (forall_two ?_ ?_)
        · refine wpOp_of rfl rfl (app_wp (some 67) rfl (.tmp 63) (.tmp 66) 49 49 rfl rfl (.slice ia m ic) (.slice (some ⟨gY, 0, none⟩) 1 1) rfl rfl (v' := (.slice a1 q c1)) (w' := w1) (by with_reducible exact R1.out) ⟨S1.out, ?_⟩)
          simp only [Act.put, List.setIfInBounds_toArray, List.set_cons_succ, List.set_cons_zero]
          refine wpAnyH_all (rs := [23]) (by kernel_rfl) (by decide) (forall_one ?_)
          refine wpOp_of rfl rfl (lit_wp (some 75) rfl (v := (.slice (some ⟨g1, 0, none⟩) 1 1)) (w' := W1B) ?_ ⟨S1B.out, ?_⟩)
          · go_simp
          simp only [Act.put, List.setIfInBounds_toArray, List.set_cons_succ, List.set_cons_zero]
          refine wpAnyH_all (rs := [24]) (by kernel_rfl) (by decide) (forall_one ?_)
          refine wpOp_of rfl rfl (app_wp (some 76) rfl (.tmp 72) (.tmp 75) 25 25 rfl rfl (.slice ba z bc) (.slice (some ⟨g1, 0, none⟩) 1 1) rfl rfl (v' := (.slice a2 y c2)) (w' := w2) (by with_reducible exact R2.out) ⟨S2.out, ?_⟩)
          simp only [Act.put, List.setIfInBounds_toArray, List.set_cons_succ, List.set_cons_zero]
          refine takeH (i := 25) (some 77) (.agg #[.int .i64 ((n + 1 : Nat) : Int), (.slice a1 q c1), (.slice a2 y c2)]) rfl rfl (by kernel_rfl) (by kernel_rfl) (by kernel_rfl) (fun _ _ _ h => h) (by rfl) S2.out ?_ ?_
          · intro w hSw
            go_simp
          simp only [Act.put, List.setIfInBounds_toArray, List.set_cons_succ, List.set_cons_zero]
          refine takeH (i := 26) (some 78) (.pointer (some ⟨p, 0, none⟩)) rfl rfl (by kernel_rfl) (by kernel_rfl) (by kernel_rfl) (fun _ _ _ h => h) (by rfl) S2.out ?_ ?_
          · intro w hSw
            go_simp
          simp only [Act.put, List.setIfInBounds_toArray, List.set_cons_succ, List.set_cons_zero]
          refine takeH (i := 27) (some 79) (.pointer (some ⟨p, 2, none⟩)) rfl rfl (by kernel_rfl) (by kernel_rfl) (by kernel_rfl) (fun _ _ _ h => h) (by rfl) S2.out ?_ ?_
          · intro w hSw
            go_simp
          simp only [Act.put, List.setIfInBounds_toArray, List.set_cons_succ, List.set_cons_zero]
          refine wpAnyH_done (by kernel_rfl) ?_ _
          refine store_wp rfl rfl ?_
          go_wp2_with fail
          go_ret
          refine .inl ⟨j, _, HX.out, fun K => (HCh.out K).trans (HY'.out j _ HX.out HQ.out K), rfl, ?_⟩
          exact (wk_hit HW.out KY.out P2.out OH.out T2.out rfl).imp id fun h => ⟨_, _, _, h⟩
        · refine wpOp_of rfl rfl (lit_wp (some 75) rfl (v := (.slice (some ⟨gA, 0, none⟩) 1 1)) (w' := WAB) ?_ ⟨SAB.out, ?_⟩)
          · go_simp
          simp only [Act.put, List.setIfInBounds_toArray, List.set_cons_succ, List.set_cons_zero]
          refine wpAnyH_all (rs := [15]) (by kernel_rfl) (by decide) (forall_one ?_)
          refine wpOp_of rfl rfl (app_wp (some 67) rfl (.tmp 63) (.tmp 66) 49 49 rfl rfl (.slice ia m ic) (.slice (some ⟨gY, 0, none⟩) 1 1) rfl rfl (v' := (.slice a3 q c3)) (w' := w3) (by with_reducible exact R3.out) ⟨S3.out, ?_⟩)
          simp only [Act.put, List.setIfInBounds_toArray, List.set_cons_succ, List.set_cons_zero]
          refine wpAnyH_all (rs := [24]) (by kernel_rfl) (by decide) (forall_one ?_)
          refine wpOp_of rfl rfl (app_wp (some 76) rfl (.tmp 72) (.tmp 75) 25 25 rfl rfl (.slice ba z bc) (.slice (some ⟨gA, 0, none⟩) 1 1) rfl rfl (v' := (.slice a4 y c4)) (w' := w4) (by with_reducible exact R4.out) ⟨S4.out, ?_⟩)
          simp only [Act.put, List.setIfInBounds_toArray, List.set_cons_succ, List.set_cons_zero]
          refine takeH (i := 25) (some 77) (.agg #[.int .i64 ((n + 1 : Nat) : Int), (.slice a3 q c3), (.slice a4 y c4)]) rfl rfl (by kernel_rfl) (by kernel_rfl) (by kernel_rfl) (fun _ _ _ h => h) (by rfl) S4.out ?_ ?_
          · intro w hSw
            go_simp
          simp only [Act.put, List.setIfInBounds_toArray, List.set_cons_succ, List.set_cons_zero]
          refine takeH (i := 26) (some 78) (.pointer (some ⟨p, 0, none⟩)) rfl rfl (by kernel_rfl) (by kernel_rfl) (by kernel_rfl) (fun _ _ _ h => h) (by rfl) S4.out ?_ ?_
          · intro w hSw
            go_simp
          simp only [Act.put, List.setIfInBounds_toArray, List.set_cons_succ, List.set_cons_zero]
          refine takeH (i := 27) (some 79) (.pointer (some ⟨p, 2, none⟩)) rfl rfl (by kernel_rfl) (by kernel_rfl) (by kernel_rfl) (fun _ _ _ h => h) (by rfl) S4.out ?_ ?_
          · intro w hSw
            go_simp
          simp only [Act.put, List.setIfInBounds_toArray, List.set_cons_succ, List.set_cons_zero]
          refine wpAnyH_done (by kernel_rfl) ?_ _
          refine store_wp rfl rfl ?_
          go_wp2_with fail
          go_ret
          refine .inl ⟨j, _, HX.out, fun K => (HCh.out K).trans (HY'.out j _ HX.out HQ.out K), rfl, ?_⟩
          exact (wk_hit HW.out KY.out P4.out OH.out T4.out rfl).imp id fun h => ⟨_, _, _, h⟩
      · refine wpOp_of rfl rfl (lit_wp (some 75) rfl (v := (.slice (some ⟨gY, 0, none⟩) 1 1)) (w' := WB) ?_ ⟨SB.out, ?_⟩)
        · go_simp
        simp only [Act.put, List.setIfInBounds_toArray, List.set_cons_succ, List.set_cons_zero]
        refine wpAnyH_all (rs := [14]) (by kernel_rfl) (by decide) (forall_one ?_)
        refine wpOp_of rfl rfl (lit_wp (some 66) rfl (v := (.slice (some ⟨gB, 0, none⟩) 1 1)) (w' := WBA) ?_ ⟨SBA.out, ?_⟩)
        · go_simp
        simp only [Act.put, List.setIfInBounds_toArray, List.set_cons_succ, List.set_cons_zero]
        refine wpAnyH_all (rs := [15]) (by kernel_rfl) (by decide) (forall_one ?_)
        refine wpOp_of rfl rfl (app_wp (some 67) rfl (.tmp 63) (.tmp 66) 49 49 rfl rfl (.slice ia m ic) (.slice (some ⟨gB, 0, none⟩) 1 1) rfl rfl (v' := (.slice a5 q c5)) (w' := w5) (by with_reducible exact R5.out) ⟨S5.out, ?_⟩)
        simp only [Act.put, List.setIfInBounds_toArray, List.set_cons_succ, List.set_cons_zero]
        refine wpAnyH_all (rs := [24]) (by kernel_rfl) (by decide) (forall_one ?_)
        refine wpOp_of rfl rfl (app_wp (some 76) rfl (.tmp 72) (.tmp 75) 25 25 rfl rfl (.slice ba z bc) (.slice (some ⟨gY, 0, none⟩) 1 1) rfl rfl (v' := (.slice a6_ y c6_)) (w' := w6) (by with_reducible exact R6.out) ⟨S6.out, ?_⟩)
        simp only [Act.put, List.setIfInBounds_toArray, List.set_cons_succ, List.set_cons_zero]
        refine takeH (i := 25) (some 77) (.agg #[.int .i64 ((n + 1 : Nat) : Int), (.slice a5 q c5), (.slice a6_ y c6_)]) rfl rfl (by kernel_rfl) (by kernel_rfl) (by kernel_rfl) (fun _ _ _ h => h) (by rfl) S6.out ?_ ?_
        · intro w hSw
          go_simp
        simp only [Act.put, List.setIfInBounds_toArray, List.set_cons_succ, List.set_cons_zero]
        refine takeH (i := 26) (some 78) (.pointer (some ⟨p, 0, none⟩)) rfl rfl (by kernel_rfl) (by kernel_rfl) (by kernel_rfl) (fun _ _ _ h => h) (by rfl) S6.out ?_ ?_
        · intro w hSw
          go_simp
        simp only [Act.put, List.setIfInBounds_toArray, List.set_cons_succ, List.set_cons_zero]
        refine takeH (i := 27) (some 79) (.pointer (some ⟨p, 2, none⟩)) rfl rfl (by kernel_rfl) (by kernel_rfl) (by kernel_rfl) (fun _ _ _ h => h) (by rfl) S6.out ?_ ?_
        · intro w hSw
          go_simp
        simp only [Act.put, List.setIfInBounds_toArray, List.set_cons_succ, List.set_cons_zero]
        refine wpAnyH_done (by kernel_rfl) ?_ _
        refine store_wp rfl rfl ?_
        go_wp2_with fail
        go_ret
        refine .inl ⟨j, _, HX.out, fun K => (HCh.out K).trans (HY'.out j _ HX.out HQ.out K), rfl, ?_⟩
        exact (wk_hit HW.out KY.out P6.out OH.out T6.out rfl).imp id fun h => ⟨_, _, _, h⟩
end
section
open Go.RowKit
set_option maxRecDepth 100000

/-- A slice's address, as the walk hands it on. -/
def Adr (w : World) (a : Option Addr) : Prop := (∃ b o, a = some ⟨b, o, none⟩ ∧ b < w.heap.size) ∨ a = none
/-- What goesOn does with a chain. -/
def GoesOK (fs : List F4) (l : List St) : Prop := ∀ (b0 : List F4) (fa : Option Addr) (fn fc : Nat) (a : Option Addr) (cap : Nat) (ba : Option Addr) (bn bc : Nat) (w : World), In cF 4 w fa fn fs → SHolds w Any2 (.slice a l.length cap) l → In cT3 3 w ba bn (b0.map Prod.snd) → Adr w ba → bn ≤ bc → bc ≤ maxLen → bn + cntL l ≤ 1000 →
  Calls Try.prog 43 #[.slice fa fn fc, .slice a l.length cap, .slice ba bn bc] w fun e w' => e = .returned (.bool (!(smL fs l b0).isEmpty)) ∧ Kept Nil w w'
/-- What the closure of stops has caught. -/
structure CaughtS (w : World) (D E : Nat) (h : SH) (tv uv bv : Value) : Prop where
  b : Blk w D 59 (arrS h tv uv)
  t : Blk w E 25 #[bv]
theorem CaughtS.kept {w w' : World} {D E : Nat} {h : SH} {tv uv bv : Value} (c : CaughtS w D E h tv uv bv) (k : Kept Nil w w') : CaughtS w' D E h tv uv bv := ⟨c.b.kept k (fun e => e), c.t.kept k (fun e => e)⟩
set_option maxHeartbeats 2000000 in
theorem stopClo_any (f : F4) (h : SH) (bk : List T3) (hts : ∀ x ∈ h.ts, tFine x ∧ -1 ≤ x.2.1) (hl : h.ts.length ≤ 5000) (a : Option Addr) (n c D E : Nat) (hn : n ≤ maxLen) (ta : Option Addr) (tn tc : Nat) (htn : h.ts.length = tn) (ua : Option Addr) (un uc : Nat) (w : World) (hi : In cT3 3 w a n bk) (ht : TsAt w Any2 (.slice ta tn tc) h.ts) (hc : CaughtS w D E h (.slice ta tn tc) (.slice ua un uc) (.slice a n c)) :
    Calls Try.prog 85 #[.agg #[.int .i64 f.1, .int .i64 f.2.1, .int .i64 f.2.2.1, .int .i64 f.2.2.2], .pointer (some ⟨D, 0, none⟩), .pointer (some ⟨E, 0, none⟩)] w fun e w' => e = .returned (.bool (meetH h bk f.2)) ∧ Kept Nil w w' := by
  have K0 := Lib.hid ((Kept.refl Nil w).alloc (.cells #[.int .i64 f.1, .int .i64 f.2.1, .int .i64 f.2.2.1, .int .i64 f.2.2.2] 62))
  subst htn
  have CM := Lib.hid (meets_any h bk f.2 hts hl a n c hn Any2 ta tc (.slice ua un uc) ⟨ua, un, uc, rfl⟩ _ (hi.kept K0.out) (ht.keptN K0.out))
  generalize meetH h bk f.2 = q at *
  have d0 := hc.b.cell 0
  have d1 := hc.b.cell 1
  have d2 := hc.b.cell 2
  have d3 := hc.b.cell 3
  have d4 := hc.b.cell 4
  have d5 := hc.b.cell 5
  have e0 := hc.t.cell 0
  have hD : D < w.heap.size := hc.b.lt
  have hE : E < w.heap.size := hc.t.lt
  obtain ⟨k, k0, k1, k2, ts⟩ := h
  generalize ts.length = tn at *
  simp at d0 d1 d2 d3 d4 d5 e0
  obtain ⟨f0, f1, f2, f3⟩ := f
  clear hc hi ht hts
  simp only at CM K0
  go_enter Try.func85, Try.ntmps85
  go_wp2_with fail
  refine CM.out.mono ?_
  rintro e w2 ⟨rfl, k2'⟩
  go_wp2_with fail
  go_ret
  exact ⟨rfl, K0.out.trans k2' (fun _ _ g => g)⟩
theorem any_dropF {p : F4 → Bool} {fs : List F4} {j : Nat} {x : F4} (h : fs[j]? = some x) : (fs.drop j).any p = (p x || (fs.drop (j + 1)).any p) := by
  obtain ⟨hl, e⟩ := List.getElem?_eq_some_iff.1 h
  rw [List.drop_eq_getElem_cons hl, e, List.any_cons]
set_option maxHeartbeats 4000000 in
theorem stopIdx_any (fs : List F4) (hfn : fs.length ≤ 1000) (h : SH) (bk : List T3) (hts : ∀ x ∈ h.ts, tFine x ∧ -1 ≤ x.2.1) (hl : h.ts.length ≤ 5000) (a : Option Addr) (n c D E : Nat) (hn : n ≤ maxLen) (ta : Option Addr) (tn tc : Nat) (htn : h.ts.length = tn) (ua : Option Addr) (un uc : Nat) (fa : Option Addr) (fn fc : Nat) (w : World) (hF : In cF 4 w fa fn fs) (hi : In cT3 3 w a n bk) (ht : TsAt w Any2 (.slice ta tn tc) h.ts) (hc : CaughtS w D E h (.slice ta tn tc) (.slice ua un uc) (.slice a n c)) :
    Calls Try.prog 91 #[.slice fa fn fc, .func (.func 85) #[] #[.pointer (some ⟨D, 0, none⟩), .pointer (some ⟨E, 0, none⟩)]] w (IxEnd (fs.any fun f => meetH h bk f.2) w) := by
  have HF := Lib.hid hF
  have hfn' : fn ≤ 1000 := by rw [← hF.1]; exact hfn
  have CC := Lib.hid (fun (f : F4) W (kW : Kept Nil w W) => stopClo_any f h bk hts hl a n c D E hn ta tn tc htn ua un uc W (hi.kept kW) (ht.keptN kW) (hc.kept kW))
  clear hF hi ht hc hts hl htn hfn
  go_enter Try.func91, Try.ntmps91
  go_wp2_with fail
  go_loopw [5, 8] (fun _ i wr => ∃ j : Nat, j ≤ fn ∧ i = .int .i64 j ∧ (fs.any fun f => meetH h bk f.2) = ((fs.drop j).any fun f => meetH h bk f.2) ∧ Kept Nil w wr) (fun _ i _ => fn - (intOf i).toNat)
  case atStart => exact ⟨0, by omega, rfl, rfl, Kept.refl _ _⟩
  case round =>
    obtain ⟨j, hj, rfl, hch, hK⟩ := hrel
    have HK := Lib.hid hK
    have HCh := Lib.hid hch
    clear hK hch
    by_cases hlt : j < fn
    · obtain ⟨⟨f0, f1, f2, f3⟩, hx⟩ : ∃ x, fs[j]? = some x := ⟨_, List.getElem?_eq_getElem (by rw [HF.out.1]; exact hlt)⟩
      obtain ⟨b, o, rfl, hb, p0, p1, p2, p3⟩ := (HF.out.kept HK.out).four hx
      have CX := Lib.hid (CC.out (f0, f1, f2, f3) wr HK.out)
      have HN := Lib.hid (any_dropF (p := fun f => meetH h bk f.2) hx)
      simp only at p0 p1 p2 p3 CX HN
      generalize meetH h bk (f1, f2, f3) = q at CX HN
      clear hx
      go_wp2_with fail
      refine CX.out.mono ?_
      rintro e w2 ⟨rfl, k2⟩
      have K2 := Lib.hid (HK.out.trans k2 (fun _ _ g => g))
      clear k2
      cases q
      · go_wp2_with fail
        go_roundw
        case rel => exact ⟨j + 1, by omega, by go_num, by rw [HCh.out, HN.out]; rfl, K2.out⟩
        case measure => simp [intOf]; omega
      · go_wp2_with fail
        go_ret
        exact ⟨(j : Int), rfl, by rw [HCh.out, HN.out]; exact decide_eq_true (by omega), K2.out⟩
    · obtain rfl : j = fn := by omega
      have HE : Hid (((fs.drop j).any fun f => meetH h bk f.2) = false) := Lib.hid (by rw [List.drop_eq_nil_of_le (by rw [HF.out.1]; exact Nat.le_refl _)]; rfl)
      go_wp2_with fail
      go_ret
      exact ⟨-1, rfl, by rw [HCh.out, HE.out]; rfl, HK.out⟩
set_option maxHeartbeats 2000000 in
theorem stopCont_any (v : Bool) (fv gv : Value) (w : World) (C : Calls Try.prog 91 #[fv, gv] w (IxEnd v w)) :
    Calls Try.prog 84 #[fv, gv] w fun e w' => e = .returned (.bool v) ∧ Kept Nil w w' := by
  have C := Lib.hid C
  unfold IxEnd at C
  go_enter Try.func84, Try.ntmps84
  go_wp2_with fail
  refine C.out.mono ?_
  rintro e w2 ⟨r, rfl, hr, k2⟩
  go_wp2_with fail
  go_ret
  exact ⟨ret_bool (by first | rfl | exact hr), k2⟩
set_option maxHeartbeats 4000000 in
theorem stops_any (fs : List F4) (hfn : fs.length ≤ 1000) (s : St) (hg : s.goodS) (hk1 : s.hd.k ≠ 1) (GO : s.hd.k = 3 → GoesOK fs s.subs) (b0 : List F4) (fa : Option Addr) (fn fc : Nat) (ta : Option Addr) (tn tc : Nat) (ua : Option Addr) (un uc : Nat) (ba : Option Addr) (bn bc : Nat) (w : World) (htn : s.hd.ts.length = tn) (hun : s.subs.length = un) (hF : In cF 4 w fa fn fs) (ht : TsAt w Any2 (.slice ta tn tc) s.hd.ts) (hu : SHolds w Any2 (.slice ua un uc) s.subs) (hi : In cT3 3 w ba bn (b0.map Prod.snd)) (hba : Adr w ba) (hbc : bn ≤ bc ∧ bc ≤ maxLen) (hlen : bn + cntL s.subs ≤ 1000) :
    Calls Try.prog 74 #[.slice fa fn fc, vS s.hd (.slice ta tn tc) (.slice ua un uc), .slice ba bn bc] w fun e w' => e = .returned (.bool (stopB fs s b0)) ∧ Kept Nil w w' := by
  obtain ⟨h, subs⟩ := s
  have hk : h.k = 1 ∨ h.k = 2 ∨ h.k = 3 := hg.kind
  have hk1' : ¬ h.k = 1 := hk1
  obtain ⟨_, hts, htl, _⟩ := goodS_mk.1 hg
  have HV := Lib.hid (show stopB fs (.mk h subs) b0 = if h.k = 3 then !(smL fs subs b0).isEmpty else fs.any fun f => meetH h (b0.map Prod.snd) f.2 from rfl)
  generalize stopB fs (.mk h subs) b0 = q at *
  replace GO : h.k = 3 → GoesOK fs subs := GO
  replace htn : h.ts.length = tn := htn
  replace hun : subs.length = un := hun
  replace ht : TsAt w Any2 (.slice ta tn tc) h.ts := ht
  replace hu : SHolds w Any2 (.slice ua un uc) subs := hu
  replace hlen : bn + cntL subs ≤ 1000 := hlen
  have K0 := Lib.hid (((Kept.refl Nil w).alloc (.cells (arrS h (.slice ta tn tc) (.slice ua un uc)) 59)).alloc (.cells #[.slice ba bn bc] 25))
  have HC := Lib.hid (show CaughtS ((w.alloc (.cells (arrS h (.slice ta tn tc) (.slice ua un uc)) 59)).alloc (.cells #[.slice ba bn bc] 25)) w.heap.size (w.heap.size + 1) h (.slice ta tn tc) (.slice ua un uc) (.slice ba bn bc) from ⟨(Blk.new w _ _).alloc _, blk_at (by simp)⟩)
  have CI := Lib.hid (stopCont_any _ _ _ _ (stopIdx_any fs hfn h (b0.map Prod.snd) hts (by omega) ba bn bc _ _ (by unfold maxLen; omega) ta tn tc htn ua un uc fa fn fc _ (hF.kept K0.out) (hi.kept K0.out) (ht.keptN K0.out) HC.out))
  have CG : Hid (h.k = 3 → Calls Try.prog 43 #[.slice fa fn fc, .slice ua un uc, .slice ba bn bc] _ fun e w' => e = .returned (.bool (!(smL fs subs b0).isEmpty)) ∧ Kept Nil _ w') := Lib.hid fun e3 => by
    have := GO e3 b0 fa fn fc ua uc ba bn bc _ (hF.kept K0.out) (by rw [hun]; exact hu.keptN K0.out) (hi.kept K0.out) (hba.imp (fun ⟨b, o, e, hb⟩ => ⟨b, o, e, Nat.lt_of_lt_of_le hb K0.out.size⟩) id) hbc.1 hbc.2 hlen
    rw [hun] at this
    exact this
  generalize (!(smL fs subs b0).isEmpty) = q3 at *
  generalize (fs.any fun f => meetH h (b0.map Prod.snd) f.2) = q2 at *
  obtain ⟨k, k0, k1, k2, ts⟩ := h
  simp only at hk hk1' HV CG ⊢
  simp only [arrS] at K0 CI CG HC
  clear hF hi ht hu hba HC GO hts htl hg hk1 hlen htn hun
  rcases hk with rfl | rfl | rfl
  · exact absurd rfl hk1'
  · rw [if_neg (by decide)] at HV
    go_enter Try.func74, Try.ntmps74
    go_wp2_with fail
    refine CI.out.mono ?_
    rintro e w2 ⟨rfl, k2'⟩
    go_wp2_with fail
    go_ret
    exact ⟨ret_bool HV.out.symm, K0.out.trans k2' (fun _ _ g => g)⟩
  · rw [if_pos rfl] at HV
    have CG2 := Lib.hid (CG.out rfl)
    go_enter Try.func74, Try.ntmps74
    go_wp2_with fail
    refine CG2.out.mono ?_
    rintro e w2 ⟨rfl, k2'⟩
    go_wp2_with fail
    go_ret
    exact ⟨ret_bool HV.out.symm, K0.out.trans k2' (fun _ _ g => g)⟩
end
section
open Go.RowKit
set_option maxRecDepth 100000

/-- What goBack leaves. -/
def BackEnd (W0 : World) (B p : Nat) (fv cv : Value) (b0 : List F4) (G : Nat → Prop) (w : World) : Stk → Ending → World → Prop
  | [], e, w' => e = .returned (.bool false) ∧ Kept Nil w w'
  | c :: r, e, w' => e = .returned (.bool true) ∧ Kept G w w' ∧ ∃ iv' bv' hv', Wk W0 B p fv cv b0 w' (Gr G w w') c.1 r (c.2.1 + 1) iv' bv' hv'
set_option maxHeartbeats 8000000 in
theorem goBack_any {W0 : World} {B p : Nat} {fv cv : Value} {b0 : List F4} {G : Nat → Prop} {n u : Nat} {iv bv hv : Value} (k : Stk) (w : World) (h : Wk W0 B p fv cv b0 w G n k u iv bv hv) (hk : k.length ≤ 1000) (hb0 : b0.length ≤ 1000) (hi : ∀ c ∈ k, c.2.1 ≤ 5000) :
    Calls Try.prog 62 #[.pointer (some ⟨p, 0, none⟩)] w (BackEnd W0 B p fv cv b0 G w k) := by
  have HW := Lib.hid h
  rcases k with _ | ⟨⟨s, i, f⟩, r⟩
  · obtain ⟨ha, hc, e1⟩ := h.chs.shape
    have e1' : hv = .slice ha 0 hc := e1
    have b5 := h.blk.cell 5
    have hp := h.blk.lt
    simp at b5
    rw [e1'] at b5
    clear h hk hi
    go_enter Try.func62, Try.ntmps62
    go_wp2_with fail
    go_ret
    exact ⟨rfl, Kept.refl _ _⟩
  · obtain ⟨m, hm⟩ : ∃ m, r.length = m := ⟨_, rfl⟩
    obtain ⟨q, hq⟩ : ∃ q, m + 1 = q := ⟨_, rfl⟩
    obtain ⟨b, hb⟩ : ∃ b, b0.length + m = b := ⟨_, rfl⟩
    obtain ⟨z, hz⟩ : ∃ z, b + 1 = z := ⟨_, rfl⟩
    have hi5 : i ≤ 5000 := hi _ List.mem_cons_self
    have hm1 : m ≤ 1000 := by rw [← hm]; simp at hk; omega
    obtain ⟨ia, ic, e1⟩ := h.ids.shape
    obtain ⟨ba, bc, e2⟩ := h.back.shape
    obtain ⟨ha, hc, e3⟩ := h.chs.shape
    have n1 : (idsOf ((s, i, f) :: r)).length = q := by rw [idsOf_len, List.length_cons, hm, hq]
    have n2 : ((chOf b0 ((s, i, f) :: r)).map Prod.snd).length = z := by rw [List.length_map, chOf_len, List.length_cons, hm]; omega
    have n3 : (hOf ((s, i, f) :: r)).length = q := by rw [hOf_len, List.length_cons, hm, hq]
    rw [n1] at e1
    rw [n2] at e2
    rw [n3] at e3
    subst e1 e2 e3
    have r1 := h.ids
    have r2 := h.bown (by simp)
    have r3 := h.chs
    have c1 := r1.caps.2
    have c2 := r2.caps.2
    have c3 := r3.caps.2
    rw [← hq] at r1 r3
    rw [← hz] at r2
    obtain ⟨p1, g1, rfl⟩ := Row.pop (l := idsOf r) cN_len (by rw [idsOf_len, hm]) r1
    obtain ⟨p2, g2, rfl⟩ := Row.pop (l := (chOf b0 r).map Prod.snd) cT3_len (by rw [List.length_map, chOf_len, hm, hb]) (by rw [← List.map_singleton, ← List.map_append]; exact r2)
    obtain ⟨p3, g3, rfl⟩ := Row.pop (l := hOf r) cH_len (by rw [hOf_len, hm]) r3
    have hcell := r3.toIn cH_len (by decide)
    obtain ⟨bb, oo, e4, _, hcc⟩ := hcell.at_ (j := m) (x := ((s : Int), (i : Int))) (by rw [hOf, List.getElem?_append_right (by rw [hOf_len, hm]; exact Nat.le_refl _), hOf_len, hm, Nat.sub_self]; rfl)
    cases e4
    have x0 := hcc 0 _ rfl
    have x1 := hcc 1 _ rfl
    simp only [Nat.add_zero, Nat.zero_add] at x0 x1
    have P1 := Lib.hid p1
    have P2 := Lib.hid p2
    have P3 := Lib.hid p3
    have b0' := h.blk.cell 0
    have b2 := h.blk.cell 2
    have b3 := h.blk.cell 3
    have b4 := h.blk.cell 4
    have b5 := h.blk.cell 5
    have b6 := h.blk.cell 6
    have hp := h.blk.lt
    have fz := h.blk.frozen 5
    simp at b0' b2 b3 b4 b5 b6
    have s1 : IntKind.i64.wrap ((q : Int) - 1) = (m : Int) := by rw [IntKind.wrap_i64]; omega
    clear h r1 r2 r3 p1 p2 p3 hcell hcc n1 n2 n3 hk hi
    go_enter Try.func62, Try.ntmps62
    go_wp2_with fail
    have k1 : Kept (fun b => b = p) w ((w.setCell ⟨p, 5, none⟩ (.slice (some ⟨g3, 0, none⟩) m hc)).alloc (.cells #[.int .i64 s, .int .i64 i] 138)) := ((Kept.refl (fun b => b = p) w).setCell ⟨p, 5, none⟩ (.inl rfl) _).alloc _
    have w1 : Blk ((w.setCell ⟨p, 5, none⟩ (.slice (some ⟨g3, 0, none⟩) m hc)).alloc (.cells #[.int .i64 s, .int .i64 i] 138)) p 125 #[fv, cv, .int .i64 n, .slice (some ⟨g1, 0, none⟩) q ic, .slice (some ⟨g2, 0, none⟩) z bc, .slice (some ⟨g3, 0, none⟩) m hc, .int .i64 u] := (HW.out.blk.set_ 5 _).alloc _
    have w2 : Blk ((w.setCell ⟨p, 5, none⟩ (.slice (some ⟨g3, 0, none⟩) m hc)).alloc (.cells #[.int .i64 s, .int .i64 i] 138)) w.heap.size 138 #[.int .i64 s, .int .i64 i] := by
      have := Blk.new (w.setCell ⟨p, 5, none⟩ (.slice (some ⟨g3, 0, none⟩) m hc)) 138 #[.int .i64 s, .int .i64 i]
      rwa [show (w.setCell ⟨p, 5, none⟩ (.slice (some ⟨g3, 0, none⟩) m hc)).heap.size = w.heap.size by simp [World.setCell]] at this
    generalize ((w.setCell ⟨p, 5, none⟩ (.slice (some ⟨g3, 0, none⟩) m hc)).alloc (.cells #[.int .i64 s, .int .i64 i] 138)) = W at *
    obtain ⟨E, hE⟩ : ∃ E, w.heap.size = E := ⟨_, rfl⟩
    rw [hE] at w2
    rw [hE] at hp ⊢
    have HE := Lib.hid hE
    have HK1 := Lib.hid k1
    have HW1 := Lib.hid w1
    have HW2 := Lib.hid w2
    have y0 := w2.cell 0
    have y1 := w2.cell 1
    have z2 := w1.cell 2
    have z3 := w1.cell 3
    have z4 := w1.cell 4
    have z5 := w1.cell 5
    have z6 := w1.cell 6
    have zf2 := w1.frozen 2
    have zf3 := w1.frozen 3
    have zf4 := w1.frozen 4
    have zf6 := w1.frozen 6
    have hpW := w1.lt
    have hEW := w2.lt
    simp at y0 y1 z2 z3 z4 z5 z6
    have s2 : IntKind.i64.wrap ((z : Int) - 1) = (b : Int) := by rw [IntKind.wrap_i64]; omega
    have s3 : IntKind.i64.wrap ((i : Int) + 1) = ((i + 1 : Nat) : Int) := by rw [IntKind.wrap_i64]; omega
    have s4 : z - 1 = b := by omega
    clear k1 w1 w2 b0' b2 b3 b4 b5 b6 fz x0 x1 hE
    go_region
    have k2 : Kept (fun b => b = p) w ((((W.setCell ⟨p, 2, none⟩ (.int .i64 s)).setCell ⟨p, 3, none⟩ (.slice (some ⟨g1, 0, none⟩) m ic)).setCell ⟨p, 4, none⟩ (.slice (some ⟨g2, 0, none⟩) b bc)).drew) := (((HK1.out.setCell _ (.inl rfl) _).setCell _ (.inl rfl) _).setCell _ (.inl rfl) _).drew
    have w3 : Blk ((((W.setCell ⟨p, 2, none⟩ (.int .i64 s)).setCell ⟨p, 3, none⟩ (.slice (some ⟨g1, 0, none⟩) m ic)).setCell ⟨p, 4, none⟩ (.slice (some ⟨g2, 0, none⟩) b bc)).drew) p 125 #[fv, cv, .int .i64 s, .slice (some ⟨g1, 0, none⟩) m ic, .slice (some ⟨g2, 0, none⟩) b bc, .slice (some ⟨g3, 0, none⟩) m hc, .int .i64 u] := (((HW1.out.set_ 2 _).set_ 3 _).set_ 4 _).drew
    have w4 : Blk ((((W.setCell ⟨p, 2, none⟩ (.int .i64 s)).setCell ⟨p, 3, none⟩ (.slice (some ⟨g1, 0, none⟩) m ic)).setCell ⟨p, 4, none⟩ (.slice (some ⟨g2, 0, none⟩) b bc)).drew) E 138 #[.int .i64 s, .int .i64 i] := (((HW2.out.far (by show E ≠ p; omega) _).far (by show E ≠ p; omega) _).far (by show E ≠ p; omega) _).drew
    generalize ((((W.setCell ⟨p, 2, none⟩ (.int .i64 s)).setCell ⟨p, 3, none⟩ (.slice (some ⟨g1, 0, none⟩) m ic)).setCell ⟨p, 4, none⟩ (.slice (some ⟨g2, 0, none⟩) b bc)).drew) = W2 at *
    clear y0 y1 z2 z3 z4 z5 z6 zf2 zf3 zf4 zf6 hpW hEW s1 s2 s4 HK1 HW1 HW2
    have y0 := w4.cell 0
    have y1 := w4.cell 1
    have z6 := w3.cell 6
    have zf6 := w3.frozen 6
    have hpW := w3.lt
    have hEW := w4.lt
    simp at y0 y1 z6
    have HK2 := Lib.hid k2
    have HW3 := Lib.hid w3
    clear k2 w3 w4
    go_wp2_with fail
    go_ret
    have k3 : Kept (fun b => b = p) w (W2.setCell ⟨p, 6, none⟩ (.int .i64 ((i + 1 : Nat) : Int))) := HK2.out.setCell _ (.inl rfl) _
    have hbl := HW.out.blk
    refine ⟨rfl, k3.mono (fun x _ e => by subst e; exact HW.out.gp), _, _, _, HW3.out.set_ 6 _, P1.out.keptF k3 ?_, .inr (P2.out.keptF k3 ?_), P3.out.keptF k3 ?_, .inl HW.out.gp, fun b hb => .inl (HW.out.gi b hb), fun b hb hB => .inl (HW.out.gb b hb hB), fun b hb => .inl (HW.out.gh b hb), HW.out.gr k3.size, HW.out.k0.trans k3 ?_, HW.out.hB, fun _ => P2.out.keptF k3 ?_⟩
    · rintro x hx rfl; exact P1.out.notBlk hbl neq_WI hx
    · rintro x hx rfl; exact P2.out.notBlk hbl neq_WT hx
    · rintro x hx rfl; exact P3.out.notBlk hbl neq_WH hx
    · rintro x hx rfl
      have := (HW.out.base x HW.out.gp).1
      have := HW.out.hB
      omega
    · rintro x hx rfl; exact P2.out.notBlk hbl neq_WT hx
end
end Go.Proofs.Ytiihjlafhiaigaa
