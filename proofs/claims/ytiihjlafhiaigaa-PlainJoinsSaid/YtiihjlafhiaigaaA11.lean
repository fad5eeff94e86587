/- Layer plain: the reference's Steps. -/
import Derived.Test.YtiihjlafhiaigaaA10
import Derived.Test.YtiihjlafhiaigaaA8
import Derived.Deep.RegionHeld3
import Derived.Deep.DeepCutAuto
namespace Go.Proofs.Ytiihjlafhiaigaa
section
open Go.RowKit
set_option maxRecDepth 100000

theorem rows_apart2 {α β : Type} {c1 : α → List Value} {c2 : β → List Value} {e1 e2 : TypeId} {s1 s2 : Nat} {w : World} {B B' : Nat} {v v' : Value} {l : List α} {l' : List β} (hne : e1 ≠ e2) (h : Row c1 e1 s1 w B v l) (h' : Row c2 e2 s2 w B' v' l') : ∀ b, v.ownBlock = some b → ¬ v'.ownBlock = some b := fun b hb hb' => by
  obtain ⟨x1, y1⟩ := h.block hb
  obtain ⟨x2, y2⟩ := h'.block hb'
  rw [y1] at y2
  injection y2 with y2
  injection y2 with _ y3 _
  exact hne y3
theorem neqI3 : 3 ≠ 51 := by decide
theorem infoB3 : (Try.prog.info? 51).map (fun i => (i.zero, i.size, i.bytes)) = some (some (.agg #[.int .i64 0, .int .i64 0, .int .i64 0]), 3, 24) := by kernel_rfl
theorem elsB3 : Els Try.prog 97 51 3 := Els.of Try.underlying97 infoB3 rfl (by decide) (by decide)
theorem map_take_succ {β : Type} {f : F4 → β} {fs : List F4} {j : Nat} {x : F4} (h : fs[j]? = some x) : (fs.take (j + 1)).map f = (fs.take j).map f ++ [f x] := by
  rw [List.take_add_one, h, List.map_append]; rfl
theorem any_drop3 {p : F4 → Bool} {fs : List F4} {j : Nat} {x : F4} (h : fs[j]? = some x) : (fs.drop j).any p = (p x || (fs.drop (j + 1)).any p) := by
  obtain ⟨hl, e⟩ := List.getElem?_eq_some_iff.1 h
  rw [List.drop_eq_getElem_cons hl, e, List.any_cons]
/-- What Steps does with steps. -/
def SmC (fs : List F4) (l : List St) : Prop := ∀ (ch : List F4) (fa : Option Addr) (fn fc : Nat) (a : Option Addr) (cap : Nat) (ca : Option Addr) (cn cc : Nat) (w : World),
  In cF 4 w fa fn fs → SHolds w Any2 (.slice a l.length cap) l → In cF 4 w ca cn ch → cn + posSL l ≤ 1000 →
  Calls Try.prog 20 #[.slice fa fn fc, .slice a l.length cap, .slice ca cn cc] w fun e w' => ∃ r, e = .returned r ∧ LL w' w.heap.size r (smL fs l ch) ∧ Kept Nil w w'
theorem SHolds.tail {w : World} {b o : Nat} {n cap : Nat} {c : St} {r : List St} (h : SHolds w Any2 (.slice (some ⟨b, o, none⟩) n cap) (c :: r)) : r = [] ∨ SHolds w Any2 (.slice (some ⟨b, o + 6, none⟩) r.length (cap - 1)) r := by
  rcases r with _ | ⟨d, r⟩
  · exact .inl rfl
  · right
    generalize e : Value.slice (some ⟨b, o, none⟩) n cap = v at h
    cases h with
    | row b' o' cap' _ t u hn hok hr ht hs =>
      cases e
      have := SHolds.row (w := w) (ok := Any2) b (o + 6) (cap - 1) (d :: r) (fun i => t (i + 1)) (fun i => u (i + 1)) (by simp at hn ⊢; omega) trivial (fun i x hi => ?_) (fun i x hi => ht (i + 1) x (by simpa using hi)) (fun i x hi => hs (i + 1) x (by simpa using hi))
      · exact this
      · have := hr (i + 1) x (by simpa using hi)
        rwa [show o + (i + 1) * 6 = o + 6 + i * 6 by omega] at this
/-- What one fact adds. -/
def smF (fs : List F4) (h : SH) (r : List St) (ch : List F4) (f : F4) : List (List Int) := if meetH h (ch.map Prod.snd) f.2 then smL fs r (ch ++ [f]) else []
theorem smF_len (fs : List F4) (h : SH) (r : List St) (ch : List F4) (f : F4) : (smF fs h r ch f).length ≤ (fs.length + 1) ^ posSL r := by
  unfold smF
  split
  · exact (sm_len fs).2 r _
  · exact Nat.zero_le _
set_option maxHeartbeats 16000000 in
theorem steps_one (fs : List F4) (hn12 : fs.length ≤ 12) (l : List St) (hgl : ∀ x ∈ l, x.goodS) (hcost : (fs.length + 1) ^ posSL l ≤ 3000) (IHs : ∀ c r, l = c :: r → SmC fs c.subs) (IHr : ∀ c r, l = c :: r → SmC fs r) : SmC fs l := by
  intro ch fa fn fc a cap ca cn cc w hF hH hC hcn
  have HF := Lib.hid hF
  have HH := Lib.hid hH
  have HC := Lib.hid hC
  have hcap := hH.fits.2
  obtain ⟨len, hlen⟩ : ∃ len, l.length = len := ⟨_, rfl⟩
  rw [hlen] at HH hcap ⊢
  have HLen := Lib.hid hlen
  have HCN := Lib.hid hcn
  have hcn1 : cn ≤ 1000 := by omega
  have HFn := Lib.hid (And.intro hn12 hcost)
  have HIs := Lib.hid IHs
  have HIr := Lib.hid IHr
  have HGl := Lib.hid hgl
  clear hF hH hC hlen hcn hn12 hcost IHs IHr hgl
  go_enter Try.func20, Try.ntmps20
  go_wp2_with fail
  go_loopw [7, 8, 18] (fun vb vi i wr => ∃ (j : Nat) (ab : Option Addr) (cb : Nat) (ai : Option Addr) (ci : Nat), j ≤ cn ∧ i = .int .i64 j ∧ vb = .slice ab j cb ∧ vi = .slice ai j ci ∧ (ch.take j).length = j ∧ Row cT3 51 3 wr w.heap.size (.slice ab j cb) ((ch.take j).map Prod.snd) ∧ Row cN 3 1 wr w.heap.size (.slice ai j ci) ((ch.take j).map Prod.fst) ∧ Kept Nil w wr) (fun _ _ i _ => cn - (intOf i).toNat)
  case atStart => exact ⟨0, none, 0, none, 0, Nat.zero_le _, rfl, rfl, rfl, rfl, Row.nil _ _, Row.nil _ _, Kept.refl _ _⟩
  case round =>
    obtain ⟨j, ab, cb, ai, ci, hj, rfl, rfl, rfl, hlj, hRb, hRi, hK⟩ := hrel
    have HRb := Lib.hid hRb
    have HRi := Lib.hid hRi
    have HK := Lib.hid hK
    have HLJ := Lib.hid hlj
    clear hRb hRi hK hlj
    by_cases hjn : j < cn
    · obtain ⟨⟨fi, t1, t2, t3⟩, hf⟩ : ∃ f, ch[j]? = some f := ⟨ch[j]'(by rw [HC.out.1]; exact hjn), by simp⟩
      obtain ⟨b, o, rfl, hb, p0, p1, p2, p3⟩ := (HC.out.kept HK.out).four hf
      have H2 := Lib.hid (map_take_succ (f := Prod.snd) hf)
      have H1 := Lib.hid (map_take_succ (f := Prod.fst) hf)
      have HT := Lib.hid (show (ch.take (j + 1)).length = j + 1 from by rw [List.take_add_one, hf, List.length_append, HLJ.out]; rfl)
      simp only at p0 p1 p2 p3
      have kb := (Kept.refl Nil wr).alloc (.cells #[.int .i64 fi, .int .i64 t1, .int .i64 t2, .int .i64 t3] 94)
      have BF := Lib.hid (Blk.new wr 94 #[.int .i64 fi, .int .i64 t1, .int .i64 t2, .int .i64 t3])
      have K1 := Lib.hid (HK.out.trans kb (fun _ _ e => e))
      have hRb1 := HRb.out.keptN kb
      have hRi1 := HRi.out.keptN kb
      have hs1 : (wr.alloc (.cells #[.int .i64 fi, .int .i64 t1, .int .i64 t2, .int .i64 t3] 94)).heap.size = wr.heap.size + 1 := by simp
      obtain ⟨a4, c4, w4, r4, row4, kk4, ko4⟩ := Row.push elsB3 cT3_len cT3_one 97 K1.out hRb1 (by rw [List.length_map, HLJ.out]) (by rw [List.length_map, HLJ.out]; omega) (t1, t2, t3) #[.int .i64 t1, .int .i64 t2, .int .i64 t3] rfl
      rw [hs1] at r4
      have hRi4 := hRi1.keptF ko4 (rows_apart2 neqI3 hRi1 hRb1)
      have B4 := Lib.hid (BF.out.kept ko4 (fun e => by
        obtain ⟨x, y⟩ := hRb1.block e
        have hbf := BF.out
        unfold Blk at hbf
        rw [y] at hbf
        injection hbf with hbf
        injection hbf with _ h2 _
        exact absurd h2 (by decide)))
      have hbw : wr.heap.size < w4.heap.size := B4.out.lt
      have y0 := B4.out.cell 0
      simp at y0
      obtain ⟨a5, c5, w5, r5, row5, kk5, ko5⟩ := Row.push elsI1 cN_len cN_one 49 kk4 hRi4 (by rw [List.length_map, HLJ.out]) (by rw [List.length_map, HLJ.out]; omega) fi #[.int .i64 fi] rfl
      have R4 := Lib.hid r4
      have R5 := Lib.hid r5
      have H5 := Lib.hid (And.intro (row4.keptF ko5 (rows_apart2 (fun e => neqI3 e.symm) row4 hRi4)) (And.intro row5 kk5))
      clear hf kb hRb1 hRi1 hs1 r4 row4 kk4 ko4 hRi4 r5 row5 kk5 ko5
      go_wp2_with (first
        | (at_builtin; refine wpList_append_run rfl (.tmp 22) (.tmp 25) 97 rfl _ _ rfl rfl R4.out ?_)
        | (at_builtin; refine wpList_append_run rfl (.tmp 27) (.tmp 30) 49 rfl _ _ rfl rfl R5.out ?_))
      go_roundw
      case rel =>
        refine ⟨j + 1, a4, c4, a5, c5, hjn, by go_num, rfl, rfl, HT.out, ?_, ?_, H5.out.2.2⟩
        · rw [H2.out]; exact H5.out.1
        · rw [H1.out]; exact H5.out.2.1
      case measure => simp [intOf]; omega
    obtain rfl : j = cn := by omega
    rename World => wo
    have e1 : ch.take j = ch := List.take_of_length_le (by rw [HC.out.1]; exact Nat.le_refl _)
    rw [e1] at HRb HRi
    clear e1 HLJ hj hjn
    rcases l with _ | ⟨⟨⟨k, k0, k1, k2, ts⟩, sb⟩, r⟩
    · obtain rfl : len = 0 := HLen.out.symm
      have HL1 := Lib.hid (LL.one (HRi.out.down (Nat.zero_le _)))
      clear HIs HIr
      go_wp2_with fail
      go_ret
      refine ⟨_, rfl, ?_, HK.out.alloc _⟩
      rw [smL_nil]
      exact HL1.out.down HK.out.size
    obtain ⟨bb, o, ta, tc, sa, sc, e, _, hr, ht, hs⟩ := (HH.out.keptN HK.out).at_ (i := 0) (hd := ⟨k, k0, k1, k2, ts⟩) (sb := sb) rfl
    subst e
    have HTl := Lib.hid (HH.out.keptN HK.out).tail
    have HV := Lib.hid ((smL_cons fs (.mk ⟨k, k0, k1, k2, ts⟩ sb) r ch).trans (sm_mk fs ⟨k, k0, k1, k2, ts⟩ sb (smL fs r) ch))
    have hgd := goodS_mk.1 (HGl.out _ List.mem_cons_self)
    have HGd := Lib.hid hgd
    have hpa : posSL (.mk ⟨k, k0, k1, k2, ts⟩ sb :: r) = ((if k = 1 then 1 else 0) + posSL sb) + posSL r := by rw [posSL_cons, posS_mk]
    have HPA := Lib.hid hpa
    have HSb := Lib.hid (HIs.out _ _ rfl)
    have HRr := Lib.hid (HIr.out _ _ rfl)
    have HRng : Hid (wo.rangeAt bb (o + 0 * 6) (cS ⟨k, k0, k1, k2, ts⟩ (.slice ta ts.length tc) (.slice sa sb.length sc))) := Lib.hid hr
    have HTs := Lib.hid ht
    have HS := Lib.hid hs
    have hfn12 : fn ≤ 12 := by have := HFn.out.1; have := HF.out.1; omega
    have hl0 : ((len : Int) == 0) = false := beq_eq_false_iff_ne.2 (by have := HLen.out; simp at this; omega)
    have hl1 : (0 : Int) < (len : Int) := by have := HLen.out; simp at this; omega
    obtain ⟨tn, htn⟩ : ∃ tn, ts.length = tn := ⟨_, rfl⟩
    obtain ⟨sn, hsn⟩ : ∃ sn, sb.length = sn := ⟨_, rfl⟩
    simp only at HRng HTs HS
    rw [htn] at HRng HTs
    rw [hsn] at HRng HS
    have HTN := Lib.hid (And.intro htn hsn)
    have HMt : Hid (∀ W t, Kept Nil wo W → Calls Try.prog 37 #[.agg #[.int .i64 k, .int .i64 k0, .int .i64 k1, .int .i64 k2, .slice ta tn tc, .slice sa sn sc], .slice ab j cb, av t] W fun e w' => e = .returned (.bool (meetR ⟨k, k0, k1, k2, ts⟩ (ch.map Prod.snd) t)) ∧ Kept Nil W w') := Lib.hid fun W t kW => by
      have := refMeets_any ⟨k, k0, k1, k2, ts⟩ (ch.map Prod.snd) t HGd.out.2.1 (Nat.le_trans HGd.out.2.2.1 (by decide)) ab j cb (by omega) Any2 ta tc (.slice sa sn sc) ⟨sa, sn, sc, rfl⟩ W ((HRb.out.toIn cT3_len (by decide)).kept kW) (by show TsAt W Any2 (.slice ta ts.length tc) ts; rw [htn]; exact HTs.out.keptN kW)
      rw [show (⟨k, k0, k1, k2, ts⟩ : SH).ts.length = tn from htn] at this
      exact this
    have hmr : ∀ t, meetR ⟨k, k0, k1, k2, ts⟩ (ch.map Prod.snd) t = meetH ⟨k, k0, k1, k2, ts⟩ (ch.map Prod.snd) t := fun t => meetR_eq HGd.out.1 _ t
    simp only [hmr] at HMt
    have HSub : Hid (∀ W, Kept Nil wo W → Calls Try.prog 20 #[.slice fa fn fc, .slice sa sn sc, .slice ca j cc] W fun e w' => ∃ r', e = .returned r' ∧ LL w' W.heap.size r' (smL fs sb ch) ∧ Kept Nil W w') := Lib.hid fun W kW => by
      have := HSb.out ch fa fn fc sa sc ca j cc W (HF.out.kept (HK.out.trans kW (fun _ _ e => e))) (by show SHolds W Any2 (.slice sa sb.length sc) sb; rw [hsn]; exact HS.out.keptN kW) (HC.out.kept (HK.out.trans kW (fun _ _ e => e))) (by have h1 := HCN.out; have h2 := HPA.out; simp only [St.subs]; omega)
      rw [show (St.mk ⟨k, k0, k1, k2, ts⟩ sb).subs.length = sn from hsn] at this
      exact this
    have BY := Lib.hid (Blk.new wo 54 #[.int .i64 k, .int .i64 k0, .int .i64 k1, .int .i64 k2, .slice ta tn tc, .slice sa sn sc])
    have KY := Lib.hid ((Kept.refl Nil wo).alloc (.cells #[.int .i64 k, .int .i64 k0, .int .i64 k1, .int .i64 k2, .slice ta tn tc, .slice sa sn sc] 54))
    have hk3 := hgd.1
    have hcases : (cap = 1 ∧ r = []) ∨ ¬ cap = 1 := by
      by_cases h : cap = 1
      · exact .inl ⟨h, List.length_eq_zero_iff.1 (by have := HLen.out; simp at this; omega)⟩
      · exact .inr h
    have hll : len = r.length + 1 := by have := HLen.out; simp at this; omega
    have HLr := Lib.hid hll
    simp only at hgd hk3
    clear hgd hpa hr ht hs htn hsn hmr HIs HIr HSb HH HS HTs hll
    rcases hcases with ⟨rfl, hr0⟩ | hcc
    · obtain rfl : len = 1 := by have := HLr.out; omega
      have CT : Hid (∀ (W : World) (ch' : List F4) (ca' : Option Addr) (cn' cc' : Nat), Kept Nil wo W → In cF 4 W ca' cn' ch' → cn' + posSL r ≤ 1000 → Calls Try.prog 20 #[.slice fa fn fc, .slice (some ⟨bb, o, none⟩) 0 0, .slice ca' cn' cc'] W fun e w' => ∃ r', e = .returned r' ∧ LL w' W.heap.size r' (smL fs r ch') ∧ Kept Nil W w') := Lib.hid fun W ch' ca' cn' cc' kW hc hcn' => by
        have := HRr.out ch' fa fn fc (some ⟨bb, o, none⟩) 0 ca' cn' cc' W (HF.out.kept (HK.out.trans kW (fun _ _ e => e))) (by rw [hr0]; exact .nil _ _) hc hcn'
        rwa [show r.length = 0 by rw [hr0]; rfl] at this
      clear HRr hr0 HTl
      rcases hk3 with rfl | rfl | rfl
      · replace BY : Hid (Blk (wo.alloc (.cells #[.int .i64 1, .int .i64 k0, .int .i64 k1, .int .i64 k2, .slice ta tn tc, .slice sa sn sc] 54)) wo.heap.size 54 #[.int .i64 1, .int .i64 k0, .int .i64 k1, .int .i64 k2, .slice ta tn tc, .slice sa sn sc]) := BY
        replace KY : Hid (Kept Nil wo (wo.alloc (.cells #[.int .i64 1, .int .i64 k0, .int .i64 k1, .int .i64 k2, .slice ta tn tc, .slice sa sn sc] 54))) := KY
        have hwl : wo.heap.size < (wo.alloc (.cells #[.int .i64 1, .int .i64 k0, .int .i64 k1, .int .i64 k2, .slice ta tn tc, .slice sa sn sc] 54)).heap.size := BY.out.lt
        have HPA1 := Lib.hid (show posSL (.mk ⟨1, k0, k1, k2, ts⟩ sb :: r) = 1 + posSL sb + posSL r from HPA.out)
        have HV3 : Hid (smL fs (.mk ⟨1, k0, k1, k2, ts⟩ sb :: r) ch = fs.flatMap (smF fs ⟨1, k0, k1, k2, ts⟩ r ch)) := Lib.hid (by rw [HV.out, if_pos rfl]; rfl)
        have HLenF : Hid (∀ m, ((fs.take m).flatMap (smF fs ⟨1, k0, k1, k2, ts⟩ r ch)).length ≤ 3000) := Lib.hid fun m => by
          refine Nat.le_trans (flatMap_len (N := (fs.length + 1) ^ posSL r) fun f _ => smF_len fs _ r ch f) (Nat.le_trans ?_ HFn.out.2)
          rw [HPA1.out, Nat.pow_add, Nat.pow_add, Nat.pow_one]
          refine Nat.mul_le_mul_right _ (Nat.le_trans ?_ (Nat.le_mul_of_pos_right _ (pow_pos' _ _)))
          rw [List.length_take]; omega
        clear HV
        go_wp2_with ((with_reducible refine wpList_load_Q rfl (.tmp 39) rfl _ _ rfl ⟨1, k0, k1, k2, ts⟩ (.slice ta tn tc) (.slice sa sn sc) ?_ ?_)
                     · exact HRng.out)
        generalize wo.alloc (.cells #[.int .i64 1, .int .i64 k0, .int .i64 k1, .int .i64 k2, .slice ta tn tc, .slice sa sn sc] 54) = w1 at *
        generalize hw0 : wo.heap.size = B0 at *
        have HB0 := Lib.hid hw0
        clear hw0
        generalize hFF : smF fs ⟨1, k0, k1, k2, ts⟩ r ch = FF at *
        have HFF := Lib.hid hFF
        clear hFF
        go_loopw [12, 43] (fun v i wr => ∃ (m : Nat) (ao : Option Addr) (co : Nat), m ≤ fn ∧ i = .int .i64 m ∧ v = .slice ao ((fs.take m).flatMap FF).length co ∧ LL wr w1.heap.size (.slice ao ((fs.take m).flatMap FF).length co) ((fs.take m).flatMap FF) ∧ Kept Nil w1 wr) (fun _ i _ => fn - (intOf i).toNat)
        case atStart =>
          refine ⟨0, none, 0, Nat.zero_le _, rfl, ?_⟩
          rw [List.take_zero, List.flatMap_nil]
          exact ⟨rfl, LL.nil _ _, Kept.refl _ _⟩
        case round =>
          obtain ⟨m, ao, co, hm, rfl, rfl, hL, hK2⟩ := hrel
          have HK2 := Lib.hid hK2
          have HLL := Lib.hid hL
          have BR := Lib.hid (BY.out.kept hK2 (fun e => e))
          have KR := Lib.hid (KY.out.trans hK2 (fun _ _ e => e))
          clear hK2 hL
          have hll := HLenF.out m
          have c0 := BR.out.cell 0
          have c1 := BR.out.cell 1
          have c2 := BR.out.cell 2
          have c3 := BR.out.cell 3
          have c4 := BR.out.cell 4
          have c5 := BR.out.cell 5
          have hbr : B0 < wr.heap.size := BR.out.lt
          simp at c0 c1 c2 c3 c4 c5
          by_cases hmn : m < fn
          rotate_left
          · obtain rfl : m = fn := by omega
            have e1 : fs.take m = fs := List.take_of_length_le (by rw [HF.out.1]; exact Nat.le_refl _)
            rw [e1] at HLL hll ⊢
            generalize hvl : (fs.flatMap FF).length = vn at *
            go_wp2_with fail
            go_ret
            refine ⟨_, rfl, ?_, HK.out.trans KR.out (fun _ _ e => e)⟩
            rw [HV3.out]
            exact HLL.out.down (by have h1 := KY.out.size; have h2 := HB0.out; have h3 := HK.out.size; omega)
          obtain ⟨⟨fi, t1, t2, t3⟩, hx⟩ : ∃ x, fs[m]? = some x := ⟨_, List.getElem?_eq_getElem (by have := HF.out.1; omega)⟩
          obtain ⟨bf, of, rfl, hb, p0, p1, p2, p3⟩ := (HF.out.kept (HK.out.trans KR.out (fun _ _ e => e))).four hx
          simp only at p0 p1 p2 p3
          have KA := Lib.hid ((Kept.refl Nil wr).alloc (.cells #[.int .i64 fi, .int .i64 t1, .int .i64 t2, .int .i64 t3] 94))
          have BF := Lib.hid (Blk.new wr 94 #[.int .i64 fi, .int .i64 t1, .int .i64 t2, .int .i64 t3])
          have CM := Lib.hid (HMt.out _ (t1, t2, t3) (KR.out.trans KA.out (fun _ _ e => e)))
          have HN := Lib.hid (flat_take_succ (f := FF) hx)
          have HFx : Hid (FF (fi, t1, t2, t3) = if meetH ⟨1, k0, k1, k2, ts⟩ (ch.map Prod.snd) (t1, t2, t3) = true then smL fs r (ch ++ [(fi, t1, t2, t3)]) else []) := Lib.hid (by rw [← HFF.out]; rfl)
          have hll2 := HLenF.out (m + 1)
          rw [HN.out] at hll2
          generalize (fs.take m).flatMap FF = L at *
          generalize FF (fi, t1, t2, t3) = Lx at *
          rw [List.length_append] at hll2
          generalize meetH ⟨1, k0, k1, k2, ts⟩ (ch.map Prod.snd) (t1, t2, t3) = q at CM HFx
          clear hx
          go_wp2_with fail
          refine CM.out.mono ?_
          rintro e w2 ⟨rfl, k2'⟩
          have K2 := Lib.hid (KA.out.trans k2' (fun _ _ e => e))
          have B2 := Lib.hid (BF.out.kept k2' (fun e => e))
          have KR2 := Lib.hid (KR.out.trans K2.out (fun _ _ e => e))
          have d0 := (BR.out.kept K2.out (fun e => e)).cell 0
          have hbf2 : wr.heap.size < w2.heap.size := B2.out.lt
          simp at d0
          clear k2' c0 c1 c2 c3 c4 c5 p0 p1 p2 p3
          cases q
          · have HE : Hid (Lx = []) := Lib.hid HFx.out
            clear HFx
            go_wp2_with fail
            go_roundw
            case rel =>
              refine ⟨m + 1, ao, co, hmn, by go_num, ?_⟩
              rw [HN.out, HE.out, List.append_nil]
              exact ⟨rfl, HLL.out.keptN K2.out, HK2.out.trans K2.out (fun _ _ e => e)⟩
            case measure => simp [intOf]; omega
          have HE : Hid (Lx = smL fs r (ch ++ [(fi, t1, t2, t3)])) := Lib.hid HFx.out
          clear HFx
          -- next: what is chosen, and this fact
          obtain ⟨a3, c3, w3, r3, row3, k3, _⟩ := Row.pushAll elsR4 cF_len cF_one (by decide) 43 (Kept.refl Nil w2) (Row.nil (cells := cF) (e := 94) (size := 4) w2 w2.heap.size) rfl (Nat.zero_le _) (HC.out.kept (HK.out.trans KR2.out (fun _ _ e => e))) (by have := HC.out.1; omega) (c2 := cc)
          rw [Nat.zero_add] at r3 row3
          rw [List.nil_append] at row3
          have R3 := Lib.hid r3
          have B3 := Lib.hid (B2.out.kept k3 (fun e => e))
          have y0 := B3.out.cell 0
          have y1 := B3.out.cell 1
          have y2 := B3.out.cell 2
          have y3 := B3.out.cell 3
          simp at y0 y1 y2 y3
          have hbf3 : wr.heap.size < w3.heap.size := B3.out.lt
          obtain ⟨a4, c4, w4, r4, row4, k4, _⟩ := Row.push elsR4 cF_len cF_one 43 k3 row3 HC.out.1.symm (by have := HC.out.1; omega) (fi, t1, t2, t3) #[.int .i64 fi, .int .i64 t1, .int .i64 t2, .int .i64 t3] rfl
          have R4 := Lib.hid r4
          have HX4 := Lib.hid k4
          have K4 := Lib.hid (KR2.out.trans k4 (fun _ _ e => e))
          have CT4 := Lib.hid (CT.out w4 (ch ++ [(fi, t1, t2, t3)]) a4 (j + 1) c4 K4.out (row4.toIn cF_len (by decide)) (by have h1 := HCN.out; have h2 := HPA1.out; omega))
          clear r3 row3 k3 r4 row4 k4
          go_wp2_with (first
            | (at_builtin; refine wpList_append_run rfl (.tmp 61) (.tmp 62) 43 rfl _ _ rfl rfl R3.out ?_)
            | (at_builtin; refine wpList_append_run rfl (.tmp 64) (.tmp 66) 43 rfl _ _ rfl rfl R4.out ?_))
          refine CT4.out.mono ?_
          rintro e w5 ⟨r5, rfl, hr5, k5⟩
          rw [← HE.out] at hr5
          obtain ⟨a5, c5, rfl⟩ := hr5.shape
          have K15 := Lib.hid ((K2.out.trans HX4.out (fun _ _ e => e)).trans k5 (fun _ _ e => e))
          have hLL5 := HLL.out.keptN K15.out
          obtain ⟨a6, c6, w6, r6, ll6, k6, _⟩ := hLL5.append (HK2.out.trans K15.out (fun _ _ e => e)) (by omega) hr5 (by omega)
          have R6 := Lib.hid r6
          have H6 := Lib.hid (And.intro ll6 k6)
          clear r6 ll6 k6 k5 hr5 hLL5
          generalize hlx : Lx.length = lx at *
          generalize hll' : L.length = lL at *
          have HLX := Lib.hid (And.intro hlx hll')
          clear hlx hll'
          go_wp2_with (at_builtin; refine wpList_append_run rfl (.tmp 68) (.tmp 73) 35 rfl _ _ rfl rfl R6.out ?_)
          go_roundw
          case rel =>
            refine ⟨m + 1, a6, c6, hmn, by go_num, ?_⟩
            rw [HN.out, List.length_append, HLX.out.1, HLX.out.2]
            exact ⟨rfl, H6.out.1, H6.out.2⟩
          case measure => simp [intOf]; omega
      · replace BY : Hid (Blk (wo.alloc (.cells #[.int .i64 2, .int .i64 k0, .int .i64 k1, .int .i64 k2, .slice ta tn tc, .slice sa sn sc] 54)) wo.heap.size 54 #[.int .i64 2, .int .i64 k0, .int .i64 k1, .int .i64 k2, .slice ta tn tc, .slice sa sn sc]) := BY
        replace KY : Hid (Kept Nil wo (wo.alloc (.cells #[.int .i64 2, .int .i64 k0, .int .i64 k1, .int .i64 k2, .slice ta tn tc, .slice sa sn sc] 54))) := KY
        have hwl : wo.heap.size < (wo.alloc (.cells #[.int .i64 2, .int .i64 k0, .int .i64 k1, .int .i64 k2, .slice ta tn tc, .slice sa sn sc] 54)).heap.size := BY.out.lt
        have HV3 : Hid (smL fs (.mk ⟨2, k0, k1, k2, ts⟩ sb :: r) ch = if (fs.any fun f => meetH ⟨2, k0, k1, k2, ts⟩ (ch.map Prod.snd) f.2) = true then [] else smL fs r ch) := Lib.hid (by
          rw [HV.out, if_neg (show ¬ (2 : Int) = 1 by decide)]
          by_cases hx : (fs.any fun f => meetH ⟨2, k0, k1, k2, ts⟩ (ch.map Prod.snd) f.2) = true
          · rw [if_pos ⟨rfl, hx⟩, if_pos hx]
          · rw [if_neg (fun a => hx a.2), if_neg (fun a => absurd a.1 (show ¬ (2 : Int) = 3 by decide)), if_neg hx])
        clear HV
        go_wp2_with ((with_reducible refine wpList_load_Q rfl (.tmp 39) rfl _ _ rfl ⟨2, k0, k1, k2, ts⟩ (.slice ta tn tc) (.slice sa sn sc) ?_ ?_)
                     · exact HRng.out)
        generalize wo.alloc (.cells #[.int .i64 2, .int .i64 k0, .int .i64 k1, .int .i64 k2, .slice ta tn tc, .slice sa sn sc] 54) = w1 at *
        generalize hw0 : wo.heap.size = B0 at *
        have HB0 := Lib.hid hw0
        clear hw0
        go_loopw [12, 43] (fun v i wr => ∃ m : Nat, m ≤ fn ∧ i = .int .i64 m ∧ v = .slice none 0 0 ∧ (fs.any fun f => meetH ⟨2, k0, k1, k2, ts⟩ (ch.map Prod.snd) f.2) = ((fs.drop m).any fun f => meetH ⟨2, k0, k1, k2, ts⟩ (ch.map Prod.snd) f.2) ∧ Kept Nil w1 wr) (fun _ i _ => fn - (intOf i).toNat)
        case atStart => exact ⟨0, Nat.zero_le _, rfl, rfl, rfl, Kept.refl _ _⟩
        case round =>
          obtain ⟨m, hm, rfl, rfl, hch, hK2⟩ := hrel
          have HK2 := Lib.hid hK2
          have HCh := Lib.hid hch
          have BR := Lib.hid (BY.out.kept hK2 (fun e => e))
          have KR := Lib.hid (KY.out.trans hK2 (fun _ _ e => e))
          clear hK2 hch
          have c0 := BR.out.cell 0
          have c1 := BR.out.cell 1
          have c2 := BR.out.cell 2
          have c3 := BR.out.cell 3
          have c4 := BR.out.cell 4
          have c5 := BR.out.cell 5
          have hbr : B0 < wr.heap.size := BR.out.lt
          simp at c0 c1 c2 c3 c4 c5
          by_cases hmn : m < fn
          · obtain ⟨⟨fi, t1, t2, t3⟩, hx⟩ : ∃ x, fs[m]? = some x := ⟨_, List.getElem?_eq_getElem (by have := HF.out.1; omega)⟩
            obtain ⟨bf, of, rfl, hb, p0, p1, p2, p3⟩ := (HF.out.kept (HK.out.trans KR.out (fun _ _ e => e))).four hx
            simp only at p0 p1 p2 p3
            have KA := Lib.hid ((Kept.refl Nil wr).alloc (.cells #[.int .i64 fi, .int .i64 t1, .int .i64 t2, .int .i64 t3] 94))
            have CM := Lib.hid (HMt.out _ (t1, t2, t3) (KR.out.trans KA.out (fun _ _ e => e)))
            have HN := Lib.hid (any_drop3 (p := fun f : F4 => meetH ⟨2, k0, k1, k2, ts⟩ (ch.map Prod.snd) f.2) hx)
            simp only at HN
            generalize meetH ⟨2, k0, k1, k2, ts⟩ (ch.map Prod.snd) (t1, t2, t3) = q at CM HN
            clear hx
            go_wp2_with fail
            refine CM.out.mono ?_
            rintro e w2 ⟨rfl, k2'⟩
            have K2 := Lib.hid (KA.out.trans k2' (fun _ _ e => e))
            have d0 := (BR.out.kept K2.out (fun e => e)).cell 0
            simp at d0
            clear k2' c0 c1 c2 c3 c4 c5 p0 p1 p2 p3
            cases q
            · go_wp2_with fail
              go_roundw
              case rel => exact ⟨m + 1, hmn, by go_num, rfl, by rw [HCh.out, HN.out]; rfl, HK2.out.trans K2.out (fun _ _ e => e)⟩
              case measure => simp [intOf]; omega
            · go_wp2_with fail
              go_ret
              refine ⟨_, rfl, ?_, HK.out.trans (KR.out.trans K2.out (fun _ _ e => e)) (fun _ _ e => e)⟩
              rw [HV3.out, HCh.out, HN.out, Bool.true_or, if_pos rfl]
              exact LL.nil _ _
          · obtain rfl : m = fn := by omega
            have HE : Hid (((fs.drop m).any fun f => meetH ⟨2, k0, k1, k2, ts⟩ (ch.map Prod.snd) f.2) = false) := Lib.hid (by rw [List.drop_eq_nil_of_le (by rw [HF.out.1]; exact Nat.le_refl _)]; rfl)
            have CT3 := Lib.hid (CT.out wr ch ca j cc KR.out (HC.out.kept (HK.out.trans KR.out (fun _ _ e => e))) (by have h1 := HCN.out; have h2 := HPA.out; omega))
            go_wp2_with fail
            refine CT3.out.mono ?_
            rintro e w3 ⟨r3, rfl, hr3, k3⟩
            go_wp2_with fail
            go_ret
            refine ⟨r3, rfl, ?_, HK.out.trans (KR.out.trans k3 (fun _ _ e => e)) (fun _ _ e => e)⟩
            rw [HV3.out, HCh.out, HE.out, if_neg (by decide)]
            exact hr3.down (by have h1 := KR.out.size; have h2 := HB0.out; have h3 := HK.out.size; omega)
      · replace BY : Hid (Blk (wo.alloc (.cells #[.int .i64 3, .int .i64 k0, .int .i64 k1, .int .i64 k2, .slice ta tn tc, .slice sa sn sc] 54)) wo.heap.size 54 #[.int .i64 3, .int .i64 k0, .int .i64 k1, .int .i64 k2, .slice ta tn tc, .slice sa sn sc]) := BY
        replace KY : Hid (Kept Nil wo (wo.alloc (.cells #[.int .i64 3, .int .i64 k0, .int .i64 k1, .int .i64 k2, .slice ta tn tc, .slice sa sn sc] 54))) := KY
        have hwl : wo.heap.size < (wo.alloc (.cells #[.int .i64 3, .int .i64 k0, .int .i64 k1, .int .i64 k2, .slice ta tn tc, .slice sa sn sc] 54)).heap.size := BY.out.lt
        have HV3 : Hid (smL fs (.mk ⟨3, k0, k1, k2, ts⟩ sb :: r) ch = if (smL fs sb ch).isEmpty = false then [] else smL fs r ch) := Lib.hid (by
          rw [HV.out, if_neg (show ¬ (3 : Int) = 1 by decide), if_neg (fun a => absurd a.1 (show ¬ (3 : Int) = 2 by decide))]
          by_cases hx : (smL fs sb ch).isEmpty = false
          · rw [if_pos ⟨rfl, hx⟩, if_pos hx]
          · rw [if_neg (fun a => hx a.2), if_neg hx])
        clear HV HMt
        go_wp2_with ((with_reducible refine wpList_load_Q rfl (.tmp 39) rfl _ _ rfl ⟨3, k0, k1, k2, ts⟩ (.slice ta tn tc) (.slice sa sn sc) ?_ ?_)
                     · exact HRng.out)
        generalize wo.alloc (.cells #[.int .i64 3, .int .i64 k0, .int .i64 k1, .int .i64 k2, .slice ta tn tc, .slice sa sn sc] 54) = w1 at *
        generalize hw0 : wo.heap.size = B0 at *
        have HB0 := Lib.hid hw0
        clear hw0
        go_loopw [12, 43] (fun v i wr => ∃ m : Nat, m ≤ fn ∧ i = .int .i64 m ∧ v = .slice none 0 0 ∧ Kept Nil w1 wr) (fun _ i _ => fn - (intOf i).toNat)
        case atStart => exact ⟨0, Nat.zero_le _, rfl, rfl, Kept.refl _ _⟩
        case round =>
          obtain ⟨m, hm, rfl, rfl, hK2⟩ := hrel
          have HK2 := Lib.hid hK2
          have BR := Lib.hid (BY.out.kept hK2 (fun e => e))
          have KR := Lib.hid (KY.out.trans hK2 (fun _ _ e => e))
          clear hK2
          have c0 := BR.out.cell 0
          have c5 := BR.out.cell 5
          have hbr : B0 < wr.heap.size := BR.out.lt
          simp at c0 c5
          by_cases hmn : m < fn
          · obtain ⟨⟨fi, t1, t2, t3⟩, hx⟩ : ∃ x, fs[m]? = some x := ⟨_, List.getElem?_eq_getElem (by have := HF.out.1; omega)⟩
            obtain ⟨bf, of, rfl, hb, p0, p1, p2, p3⟩ := (HF.out.kept (HK.out.trans KR.out (fun _ _ e => e))).four hx
            simp only at p0 p1 p2 p3
            have KA := Lib.hid ((Kept.refl Nil wr).alloc (.cells #[.int .i64 fi, .int .i64 t1, .int .i64 t2, .int .i64 t3] 94))
            clear hx
            go_wp2_with fail
            go_roundw
            case rel => exact ⟨m + 1, hmn, by go_num, rfl, HK2.out.trans KA.out (fun _ _ e => e)⟩
            case measure => simp [intOf]; omega
          · obtain rfl : m = fn := by omega
            go_wp2_with fail
            refine (HSub.out _ KR.out).mono ?_
            rintro e w2 ⟨r2, rfl, hr2, k2'⟩
            have K2 := Lib.hid (KR.out.trans k2' (fun _ _ e => e))
            obtain ⟨a2, c2, rfl⟩ := hr2.shape
            generalize smL fs sb ch = L2 at *
            clear hr2 k2'
            rcases L2 with _ | ⟨y, L2⟩
            · have CT3 := Lib.hid (CT.out w2 ch ca j cc K2.out (HC.out.kept (HK.out.trans K2.out (fun _ _ e => e))) (by have h1 := HCN.out; have h2 := HPA.out; omega))
              go_wp2_with fail
              refine CT3.out.mono ?_
              rintro e w3 ⟨r3, rfl, hr3, k3⟩
              go_wp2_with fail
              go_ret
              refine ⟨r3, rfl, ?_, HK.out.trans (K2.out.trans k3 (fun _ _ e => e)) (fun _ _ e => e)⟩
              rw [HV3.out]
              exact hr3.down (by have h1 := K2.out.size; have h2 := HB0.out; have h3 := HK.out.size; omega)
            · have hl2 : (y :: L2).length = L2.length + 1 := rfl
              generalize (y :: L2).length = l2 at *
              have hp2 : (0 : Int) < (l2 : Int) := by omega
              have hp2' : decide (0 < l2) = true := decide_eq_true (by omega)
              go_wp2_with fail
              go_ret
              refine ⟨_, rfl, ?_, HK.out.trans K2.out (fun _ _ e => e)⟩
              rw [HV3.out]
              exact LL.nil _ _
    · have CT : Hid (∀ (W : World) (ch' : List F4) (ca' : Option Addr) (cn' cc' : Nat), Kept Nil wo W → In cF 4 W ca' cn' ch' → cn' + posSL r ≤ 1000 → Calls Try.prog 20 #[.slice fa fn fc, .slice (some ⟨bb, o + 6, none⟩) (len - 1) (cap - 1), .slice ca' cn' cc'] W fun e w' => ∃ r', e = .returned r' ∧ LL w' W.heap.size r' (smL fs r ch') ∧ Kept Nil W w') := Lib.hid fun W ch' ca' cn' cc' kW hc hcn' => by
        have := HRr.out ch' fa fn fc (some ⟨bb, o + 6, none⟩) (cap - 1) ca' cn' cc' W (HF.out.kept (HK.out.trans kW (fun _ _ e => e))) (by
          rcases HTl.out with e | e
          · rw [e]; exact .nil _ _
          · exact e.keptN kW) hc hcn'
        rwa [show r.length = len - 1 by have := HLr.out; omega] at this
      clear HRr HTl
      rcases hk3 with rfl | rfl | rfl
      · replace BY : Hid (Blk (wo.alloc (.cells #[.int .i64 1, .int .i64 k0, .int .i64 k1, .int .i64 k2, .slice ta tn tc, .slice sa sn sc] 54)) wo.heap.size 54 #[.int .i64 1, .int .i64 k0, .int .i64 k1, .int .i64 k2, .slice ta tn tc, .slice sa sn sc]) := BY
        replace KY : Hid (Kept Nil wo (wo.alloc (.cells #[.int .i64 1, .int .i64 k0, .int .i64 k1, .int .i64 k2, .slice ta tn tc, .slice sa sn sc] 54))) := KY
        have hwl : wo.heap.size < (wo.alloc (.cells #[.int .i64 1, .int .i64 k0, .int .i64 k1, .int .i64 k2, .slice ta tn tc, .slice sa sn sc] 54)).heap.size := BY.out.lt
        have HPA1 := Lib.hid (show posSL (.mk ⟨1, k0, k1, k2, ts⟩ sb :: r) = 1 + posSL sb + posSL r from HPA.out)
        have HV3 : Hid (smL fs (.mk ⟨1, k0, k1, k2, ts⟩ sb :: r) ch = fs.flatMap (smF fs ⟨1, k0, k1, k2, ts⟩ r ch)) := Lib.hid (by rw [HV.out, if_pos rfl]; rfl)
        have HLenF : Hid (∀ m, ((fs.take m).flatMap (smF fs ⟨1, k0, k1, k2, ts⟩ r ch)).length ≤ 3000) := Lib.hid fun m => by
          refine Nat.le_trans (flatMap_len (N := (fs.length + 1) ^ posSL r) fun f _ => smF_len fs _ r ch f) (Nat.le_trans ?_ HFn.out.2)
          rw [HPA1.out, Nat.pow_add, Nat.pow_add, Nat.pow_one]
          refine Nat.mul_le_mul_right _ (Nat.le_trans ?_ (Nat.le_mul_of_pos_right _ (pow_pos' _ _)))
          rw [List.length_take]; omega
        clear HV
        go_wp2_with ((with_reducible refine wpList_load_Q rfl (.tmp 39) rfl _ _ rfl ⟨1, k0, k1, k2, ts⟩ (.slice ta tn tc) (.slice sa sn sc) ?_ ?_)
                     · exact HRng.out)
        generalize wo.alloc (.cells #[.int .i64 1, .int .i64 k0, .int .i64 k1, .int .i64 k2, .slice ta tn tc, .slice sa sn sc] 54) = w1 at *
        generalize hw0 : wo.heap.size = B0 at *
        have HB0 := Lib.hid hw0
        clear hw0
        generalize hFF : smF fs ⟨1, k0, k1, k2, ts⟩ r ch = FF at *
        have HFF := Lib.hid hFF
        clear hFF
        go_loopw [12, 43] (fun v i wr => ∃ (m : Nat) (ao : Option Addr) (co : Nat), m ≤ fn ∧ i = .int .i64 m ∧ v = .slice ao ((fs.take m).flatMap FF).length co ∧ LL wr w1.heap.size (.slice ao ((fs.take m).flatMap FF).length co) ((fs.take m).flatMap FF) ∧ Kept Nil w1 wr) (fun _ i _ => fn - (intOf i).toNat)
        case atStart =>
          refine ⟨0, none, 0, Nat.zero_le _, rfl, ?_⟩
          rw [List.take_zero, List.flatMap_nil]
          exact ⟨rfl, LL.nil _ _, Kept.refl _ _⟩
        case round =>
          obtain ⟨m, ao, co, hm, rfl, rfl, hL, hK2⟩ := hrel
          have HK2 := Lib.hid hK2
          have HLL := Lib.hid hL
          have BR := Lib.hid (BY.out.kept hK2 (fun e => e))
          have KR := Lib.hid (KY.out.trans hK2 (fun _ _ e => e))
          clear hK2 hL
          have hll := HLenF.out m
          have c0 := BR.out.cell 0
          have c1 := BR.out.cell 1
          have c2 := BR.out.cell 2
          have c3 := BR.out.cell 3
          have c4 := BR.out.cell 4
          have c5 := BR.out.cell 5
          have hbr : B0 < wr.heap.size := BR.out.lt
          simp at c0 c1 c2 c3 c4 c5
          by_cases hmn : m < fn
          rotate_left
          · obtain rfl : m = fn := by omega
            have e1 : fs.take m = fs := List.take_of_length_le (by rw [HF.out.1]; exact Nat.le_refl _)
            rw [e1] at HLL hll ⊢
            generalize hvl : (fs.flatMap FF).length = vn at *
            go_wp2_with fail
            go_ret
            refine ⟨_, rfl, ?_, HK.out.trans KR.out (fun _ _ e => e)⟩
            rw [HV3.out]
            exact HLL.out.down (by have h1 := KY.out.size; have h2 := HB0.out; have h3 := HK.out.size; omega)
          obtain ⟨⟨fi, t1, t2, t3⟩, hx⟩ : ∃ x, fs[m]? = some x := ⟨_, List.getElem?_eq_getElem (by have := HF.out.1; omega)⟩
          obtain ⟨bf, of, rfl, hb, p0, p1, p2, p3⟩ := (HF.out.kept (HK.out.trans KR.out (fun _ _ e => e))).four hx
          simp only at p0 p1 p2 p3
          have KA := Lib.hid ((Kept.refl Nil wr).alloc (.cells #[.int .i64 fi, .int .i64 t1, .int .i64 t2, .int .i64 t3] 94))
          have BF := Lib.hid (Blk.new wr 94 #[.int .i64 fi, .int .i64 t1, .int .i64 t2, .int .i64 t3])
          have CM := Lib.hid (HMt.out _ (t1, t2, t3) (KR.out.trans KA.out (fun _ _ e => e)))
          have HN := Lib.hid (flat_take_succ (f := FF) hx)
          have HFx : Hid (FF (fi, t1, t2, t3) = if meetH ⟨1, k0, k1, k2, ts⟩ (ch.map Prod.snd) (t1, t2, t3) = true then smL fs r (ch ++ [(fi, t1, t2, t3)]) else []) := Lib.hid (by rw [← HFF.out]; rfl)
          have hll2 := HLenF.out (m + 1)
          rw [HN.out] at hll2
          generalize (fs.take m).flatMap FF = L at *
          generalize FF (fi, t1, t2, t3) = Lx at *
          rw [List.length_append] at hll2
          generalize meetH ⟨1, k0, k1, k2, ts⟩ (ch.map Prod.snd) (t1, t2, t3) = q at CM HFx
          clear hx
          go_wp2_with fail
          refine CM.out.mono ?_
          rintro e w2 ⟨rfl, k2'⟩
          have K2 := Lib.hid (KA.out.trans k2' (fun _ _ e => e))
          have B2 := Lib.hid (BF.out.kept k2' (fun e => e))
          have KR2 := Lib.hid (KR.out.trans K2.out (fun _ _ e => e))
          have d0 := (BR.out.kept K2.out (fun e => e)).cell 0
          have hbf2 : wr.heap.size < w2.heap.size := B2.out.lt
          simp at d0
          clear k2' c0 c1 c2 c3 c4 c5 p0 p1 p2 p3
          cases q
          · have HE : Hid (Lx = []) := Lib.hid HFx.out
            clear HFx
            go_wp2_with fail
            go_roundw
            case rel =>
              refine ⟨m + 1, ao, co, hmn, by go_num, ?_⟩
              rw [HN.out, HE.out, List.append_nil]
              exact ⟨rfl, HLL.out.keptN K2.out, HK2.out.trans K2.out (fun _ _ e => e)⟩
            case measure => simp [intOf]; omega
          have HE : Hid (Lx = smL fs r (ch ++ [(fi, t1, t2, t3)])) := Lib.hid HFx.out
          clear HFx
          -- next: what is chosen, and this fact
          obtain ⟨a3, c3, w3, r3, row3, k3, _⟩ := Row.pushAll elsR4 cF_len cF_one (by decide) 43 (Kept.refl Nil w2) (Row.nil (cells := cF) (e := 94) (size := 4) w2 w2.heap.size) rfl (Nat.zero_le _) (HC.out.kept (HK.out.trans KR2.out (fun _ _ e => e))) (by have := HC.out.1; omega) (c2 := cc)
          rw [Nat.zero_add] at r3 row3
          rw [List.nil_append] at row3
          have R3 := Lib.hid r3
          have B3 := Lib.hid (B2.out.kept k3 (fun e => e))
          have y0 := B3.out.cell 0
          have y1 := B3.out.cell 1
          have y2 := B3.out.cell 2
          have y3 := B3.out.cell 3
          simp at y0 y1 y2 y3
          have hbf3 : wr.heap.size < w3.heap.size := B3.out.lt
          obtain ⟨a4, c4, w4, r4, row4, k4, _⟩ := Row.push elsR4 cF_len cF_one 43 k3 row3 HC.out.1.symm (by have := HC.out.1; omega) (fi, t1, t2, t3) #[.int .i64 fi, .int .i64 t1, .int .i64 t2, .int .i64 t3] rfl
          have R4 := Lib.hid r4
          have HX4 := Lib.hid k4
          have K4 := Lib.hid (KR2.out.trans k4 (fun _ _ e => e))
          have CT4 := Lib.hid (CT.out w4 (ch ++ [(fi, t1, t2, t3)]) a4 (j + 1) c4 K4.out (row4.toIn cF_len (by decide)) (by have h1 := HCN.out; have h2 := HPA1.out; omega))
          clear r3 row3 k3 r4 row4 k4
          go_wp2_with (first
            | (at_builtin; refine wpList_append_run rfl (.tmp 61) (.tmp 62) 43 rfl _ _ rfl rfl R3.out ?_)
            | (at_builtin; refine wpList_append_run rfl (.tmp 64) (.tmp 66) 43 rfl _ _ rfl rfl R4.out ?_))
          refine CT4.out.mono ?_
          rintro e w5 ⟨r5, rfl, hr5, k5⟩
          rw [← HE.out] at hr5
          obtain ⟨a5, c5, rfl⟩ := hr5.shape
          have K15 := Lib.hid ((K2.out.trans HX4.out (fun _ _ e => e)).trans k5 (fun _ _ e => e))
          have hLL5 := HLL.out.keptN K15.out
          obtain ⟨a6, c6, w6, r6, ll6, k6, _⟩ := hLL5.append (HK2.out.trans K15.out (fun _ _ e => e)) (by omega) hr5 (by omega)
          have R6 := Lib.hid r6
          have H6 := Lib.hid (And.intro ll6 k6)
          clear r6 ll6 k6 k5 hr5 hLL5
          generalize hlx : Lx.length = lx at *
          generalize hll' : L.length = lL at *
          have HLX := Lib.hid (And.intro hlx hll')
          clear hlx hll'
          go_wp2_with (at_builtin; refine wpList_append_run rfl (.tmp 68) (.tmp 73) 35 rfl _ _ rfl rfl R6.out ?_)
          go_roundw
          case rel =>
            refine ⟨m + 1, a6, c6, hmn, by go_num, ?_⟩
            rw [HN.out, List.length_append, HLX.out.1, HLX.out.2]
            exact ⟨rfl, H6.out.1, H6.out.2⟩
          case measure => simp [intOf]; omega
      · replace BY : Hid (Blk (wo.alloc (.cells #[.int .i64 2, .int .i64 k0, .int .i64 k1, .int .i64 k2, .slice ta tn tc, .slice sa sn sc] 54)) wo.heap.size 54 #[.int .i64 2, .int .i64 k0, .int .i64 k1, .int .i64 k2, .slice ta tn tc, .slice sa sn sc]) := BY
        replace KY : Hid (Kept Nil wo (wo.alloc (.cells #[.int .i64 2, .int .i64 k0, .int .i64 k1, .int .i64 k2, .slice ta tn tc, .slice sa sn sc] 54))) := KY
        have hwl : wo.heap.size < (wo.alloc (.cells #[.int .i64 2, .int .i64 k0, .int .i64 k1, .int .i64 k2, .slice ta tn tc, .slice sa sn sc] 54)).heap.size := BY.out.lt
        have HV3 : Hid (smL fs (.mk ⟨2, k0, k1, k2, ts⟩ sb :: r) ch = if (fs.any fun f => meetH ⟨2, k0, k1, k2, ts⟩ (ch.map Prod.snd) f.2) = true then [] else smL fs r ch) := Lib.hid (by
          rw [HV.out, if_neg (show ¬ (2 : Int) = 1 by decide)]
          by_cases hx : (fs.any fun f => meetH ⟨2, k0, k1, k2, ts⟩ (ch.map Prod.snd) f.2) = true
          · rw [if_pos ⟨rfl, hx⟩, if_pos hx]
          · rw [if_neg (fun a => hx a.2), if_neg (fun a => absurd a.1 (show ¬ (2 : Int) = 3 by decide)), if_neg hx])
        clear HV
        go_wp2_with ((with_reducible refine wpList_load_Q rfl (.tmp 39) rfl _ _ rfl ⟨2, k0, k1, k2, ts⟩ (.slice ta tn tc) (.slice sa sn sc) ?_ ?_)
                     · exact HRng.out)
        generalize wo.alloc (.cells #[.int .i64 2, .int .i64 k0, .int .i64 k1, .int .i64 k2, .slice ta tn tc, .slice sa sn sc] 54) = w1 at *
        generalize hw0 : wo.heap.size = B0 at *
        have HB0 := Lib.hid hw0
        clear hw0
        go_loopw [12, 43] (fun v i wr => ∃ m : Nat, m ≤ fn ∧ i = .int .i64 m ∧ v = .slice none 0 0 ∧ (fs.any fun f => meetH ⟨2, k0, k1, k2, ts⟩ (ch.map Prod.snd) f.2) = ((fs.drop m).any fun f => meetH ⟨2, k0, k1, k2, ts⟩ (ch.map Prod.snd) f.2) ∧ Kept Nil w1 wr) (fun _ i _ => fn - (intOf i).toNat)
        case atStart => exact ⟨0, Nat.zero_le _, rfl, rfl, rfl, Kept.refl _ _⟩
        case round =>
          obtain ⟨m, hm, rfl, rfl, hch, hK2⟩ := hrel
          have HK2 := Lib.hid hK2
          have HCh := Lib.hid hch
          have BR := Lib.hid (BY.out.kept hK2 (fun e => e))
          have KR := Lib.hid (KY.out.trans hK2 (fun _ _ e => e))
          clear hK2 hch
          have c0 := BR.out.cell 0
          have c1 := BR.out.cell 1
          have c2 := BR.out.cell 2
          have c3 := BR.out.cell 3
          have c4 := BR.out.cell 4
          have c5 := BR.out.cell 5
          have hbr : B0 < wr.heap.size := BR.out.lt
          simp at c0 c1 c2 c3 c4 c5
          by_cases hmn : m < fn
          · obtain ⟨⟨fi, t1, t2, t3⟩, hx⟩ : ∃ x, fs[m]? = some x := ⟨_, List.getElem?_eq_getElem (by have := HF.out.1; omega)⟩
            obtain ⟨bf, of, rfl, hb, p0, p1, p2, p3⟩ := (HF.out.kept (HK.out.trans KR.out (fun _ _ e => e))).four hx
            simp only at p0 p1 p2 p3
            have KA := Lib.hid ((Kept.refl Nil wr).alloc (.cells #[.int .i64 fi, .int .i64 t1, .int .i64 t2, .int .i64 t3] 94))
            have CM := Lib.hid (HMt.out _ (t1, t2, t3) (KR.out.trans KA.out (fun _ _ e => e)))
            have HN := Lib.hid (any_drop3 (p := fun f : F4 => meetH ⟨2, k0, k1, k2, ts⟩ (ch.map Prod.snd) f.2) hx)
            simp only at HN
            generalize meetH ⟨2, k0, k1, k2, ts⟩ (ch.map Prod.snd) (t1, t2, t3) = q at CM HN
            clear hx
            go_wp2_with fail
            refine CM.out.mono ?_
            rintro e w2 ⟨rfl, k2'⟩
            have K2 := Lib.hid (KA.out.trans k2' (fun _ _ e => e))
            have d0 := (BR.out.kept K2.out (fun e => e)).cell 0
            simp at d0
            clear k2' c0 c1 c2 c3 c4 c5 p0 p1 p2 p3
            cases q
            · go_wp2_with fail
              go_roundw
              case rel => exact ⟨m + 1, hmn, by go_num, rfl, by rw [HCh.out, HN.out]; rfl, HK2.out.trans K2.out (fun _ _ e => e)⟩
              case measure => simp [intOf]; omega
            · go_wp2_with fail
              go_ret
              refine ⟨_, rfl, ?_, HK.out.trans (KR.out.trans K2.out (fun _ _ e => e)) (fun _ _ e => e)⟩
              rw [HV3.out, HCh.out, HN.out, Bool.true_or, if_pos rfl]
              exact LL.nil _ _
          · obtain rfl : m = fn := by omega
            have HE : Hid (((fs.drop m).any fun f => meetH ⟨2, k0, k1, k2, ts⟩ (ch.map Prod.snd) f.2) = false) := Lib.hid (by rw [List.drop_eq_nil_of_le (by rw [HF.out.1]; exact Nat.le_refl _)]; rfl)
            have CT3 := Lib.hid (CT.out wr ch ca j cc KR.out (HC.out.kept (HK.out.trans KR.out (fun _ _ e => e))) (by have h1 := HCN.out; have h2 := HPA.out; omega))
            go_wp2_with fail
            refine CT3.out.mono ?_
            rintro e w3 ⟨r3, rfl, hr3, k3⟩
            go_wp2_with fail
            go_ret
            refine ⟨r3, rfl, ?_, HK.out.trans (KR.out.trans k3 (fun _ _ e => e)) (fun _ _ e => e)⟩
            rw [HV3.out, HCh.out, HE.out, if_neg (by decide)]
            exact hr3.down (by have h1 := KR.out.size; have h2 := HB0.out; have h3 := HK.out.size; omega)
      · replace BY : Hid (Blk (wo.alloc (.cells #[.int .i64 3, .int .i64 k0, .int .i64 k1, .int .i64 k2, .slice ta tn tc, .slice sa sn sc] 54)) wo.heap.size 54 #[.int .i64 3, .int .i64 k0, .int .i64 k1, .int .i64 k2, .slice ta tn tc, .slice sa sn sc]) := BY
        replace KY : Hid (Kept Nil wo (wo.alloc (.cells #[.int .i64 3, .int .i64 k0, .int .i64 k1, .int .i64 k2, .slice ta tn tc, .slice sa sn sc] 54))) := KY
        have hwl : wo.heap.size < (wo.alloc (.cells #[.int .i64 3, .int .i64 k0, .int .i64 k1, .int .i64 k2, .slice ta tn tc, .slice sa sn sc] 54)).heap.size := BY.out.lt
        have HV3 : Hid (smL fs (.mk ⟨3, k0, k1, k2, ts⟩ sb :: r) ch = if (smL fs sb ch).isEmpty = false then [] else smL fs r ch) := Lib.hid (by
          rw [HV.out, if_neg (show ¬ (3 : Int) = 1 by decide), if_neg (fun a => absurd a.1 (show ¬ (3 : Int) = 2 by decide))]
          by_cases hx : (smL fs sb ch).isEmpty = false
          · rw [if_pos ⟨rfl, hx⟩, if_pos hx]
          · rw [if_neg (fun a => hx a.2), if_neg hx])
        clear HV HMt
        go_wp2_with ((with_reducible refine wpList_load_Q rfl (.tmp 39) rfl _ _ rfl ⟨3, k0, k1, k2, ts⟩ (.slice ta tn tc) (.slice sa sn sc) ?_ ?_)
                     · exact HRng.out)
        generalize wo.alloc (.cells #[.int .i64 3, .int .i64 k0, .int .i64 k1, .int .i64 k2, .slice ta tn tc, .slice sa sn sc] 54) = w1 at *
        generalize hw0 : wo.heap.size = B0 at *
        have HB0 := Lib.hid hw0
        clear hw0
        go_loopw [12, 43] (fun v i wr => ∃ m : Nat, m ≤ fn ∧ i = .int .i64 m ∧ v = .slice none 0 0 ∧ Kept Nil w1 wr) (fun _ i _ => fn - (intOf i).toNat)
        case atStart => exact ⟨0, Nat.zero_le _, rfl, rfl, Kept.refl _ _⟩
        case round =>
          obtain ⟨m, hm, rfl, rfl, hK2⟩ := hrel
          have HK2 := Lib.hid hK2
          have BR := Lib.hid (BY.out.kept hK2 (fun e => e))
          have KR := Lib.hid (KY.out.trans hK2 (fun _ _ e => e))
          clear hK2
          have c0 := BR.out.cell 0
          have c5 := BR.out.cell 5
          have hbr : B0 < wr.heap.size := BR.out.lt
          simp at c0 c5
          by_cases hmn : m < fn
          · obtain ⟨⟨fi, t1, t2, t3⟩, hx⟩ : ∃ x, fs[m]? = some x := ⟨_, List.getElem?_eq_getElem (by have := HF.out.1; omega)⟩
            obtain ⟨bf, of, rfl, hb, p0, p1, p2, p3⟩ := (HF.out.kept (HK.out.trans KR.out (fun _ _ e => e))).four hx
            simp only at p0 p1 p2 p3
            have KA := Lib.hid ((Kept.refl Nil wr).alloc (.cells #[.int .i64 fi, .int .i64 t1, .int .i64 t2, .int .i64 t3] 94))
            clear hx
            go_wp2_with fail
            go_roundw
            case rel => exact ⟨m + 1, hmn, by go_num, rfl, HK2.out.trans KA.out (fun _ _ e => e)⟩
            case measure => simp [intOf]; omega
          · obtain rfl : m = fn := by omega
            go_wp2_with fail
            refine (HSub.out _ KR.out).mono ?_
            rintro e w2 ⟨r2, rfl, hr2, k2'⟩
            have K2 := Lib.hid (KR.out.trans k2' (fun _ _ e => e))
            obtain ⟨a2, c2, rfl⟩ := hr2.shape
            generalize smL fs sb ch = L2 at *
            clear hr2 k2'
            rcases L2 with _ | ⟨y, L2⟩
            · have CT3 := Lib.hid (CT.out w2 ch ca j cc K2.out (HC.out.kept (HK.out.trans K2.out (fun _ _ e => e))) (by have h1 := HCN.out; have h2 := HPA.out; omega))
              go_wp2_with fail
              refine CT3.out.mono ?_
              rintro e w3 ⟨r3, rfl, hr3, k3⟩
              go_wp2_with fail
              go_ret
              refine ⟨r3, rfl, ?_, HK.out.trans (K2.out.trans k3 (fun _ _ e => e)) (fun _ _ e => e)⟩
              rw [HV3.out]
              exact hr3.down (by have h1 := K2.out.size; have h2 := HB0.out; have h3 := HK.out.size; omega)
            · have hl2 : (y :: L2).length = L2.length + 1 := rfl
              generalize (y :: L2).length = l2 at *
              have hp2 : (0 : Int) < (l2 : Int) := by omega
              have hp2' : decide (0 < l2) = true := decide_eq_true (by omega)
              go_wp2_with fail
              go_ret
              refine ⟨_, rfl, ?_, HK.out.trans K2.out (fun _ _ e => e)⟩
              rw [HV3.out]
              exact LL.nil _ _
/-- The reference's Steps, of any right steps. -/
theorem steps_all (fs : List F4) (hn12 : fs.length ≤ 12) : ∀ l : List St, (∀ x ∈ l, x.goodS) → (fs.length + 1) ^ posSL l ≤ 3000 → SmC fs l := by
  refine (St.ind2 (P := fun s => s.goodS → (fs.length + 1) ^ s.posS ≤ 3000 → SmC fs s.subs) (Q := fun l => (∀ x ∈ l, x.goodS) → (fs.length + 1) ^ posSL l ≤ 3000 → SmC fs l) (fun hd subs ih hg hc => ?_) (fun hg hc => ?_) (fun c r hc hr hg hco => ?_)).2
  · exact ih (goodS_mk.1 hg).2.2.2 (Nat.le_trans (pow_le_of _ posS_sub) hc)
  · exact steps_one fs hn12 [] hg hc (fun _ _ e => by cases e) (fun _ _ e => by cases e)
  · refine steps_one fs hn12 (c :: r) hg hco (fun c' r' e => ?_) (fun c' r' e => ?_)
    · cases e
      exact hc (hg c List.mem_cons_self) (Nat.le_trans (pow_le_of _ (by rw [posSL_cons]; omega)) hco)
    · cases e
      exact hr (fun x hx => hg x (List.mem_cons_of_mem _ hx)) (Nat.le_trans (pow_le_of _ (by rw [posSL_cons]; omega)) hco)
end
end Go.Proofs.Ytiihjlafhiaigaa
