/- Layer test: the reference's Fit, with how long its list grows. – Layer plain: the reference's Terms. -/
import Derived.Test.YtiihjlafhiaigaaA7
import Derived.Deep.RegionHeld3
import Derived.Test.YtiihjlafhiaigaaA8
import Derived.Deep.DeepCutAuto
namespace Go.Proofs.Ytiihjlafhiaigaa
section
open Go.RowKit

/-- The answer: a list that says what the binding then says, and whether they fit. -/
def RefFitN (l : List (Tm × Int)) (b : Bd) (B N : Nat) (w : World) (e : Ending) (w' : World) : Prop :=
  ∃ v qs, e = .returned (.tuple #[v, .bool (fitOk l b)]) ∧ QRow w' B v qs ∧ qs.length ≤ N ∧ Rep qs (fitB l b) ∧ Kept Nil w w'
theorem refFitN_none {l : List (Tm × Int)} {b : Bd} {B N : Nat} {w w' : World} {v : Value} {qs : List P2} (h : runL l b = none) (hp : QRow w' B v qs) (hl : qs.length ≤ N) (hr : Rep qs b) (k : Kept Nil w w') : RefFitN l b B N w (.returned (.tuple #[v, .bool false])) w' :=
  ⟨v, qs, by rw [(fit_none h).2], hp, hl, by rw [(fit_none h).1]; exact hr, k⟩
theorem refFitN_some {l : List (Tm × Int)} {b g : Bd} {B N : Nat} {w w' : World} {v : Value} {qs : List P2} (h : runL l b = some g) (hp : QRow w' B v qs) (hl : qs.length ≤ N) (hr : Rep qs g) (k : Kept Nil w w') : RefFitN l b B N w (.returned (.tuple #[v, .bool true])) w' :=
  ⟨v, qs, by rw [(fit_some h).2], hp, hl, by rw [(fit_some h).1]; exact hr, k⟩

set_option maxHeartbeats 2000000 in
theorem refFitN_any {x0 x1 x2 : Bool} {n0 n1 n2 t0 t1 t2 : Int} (hf : fine x0 x1 x2 n0 n1 n2 = true) (ht : 1 ≤ t0 ∧ 1 ≤ t1 ∧ 1 ≤ t2) {w : World} {B : Nat} {vb : Value} {ps : List P2} {b : Bd} (h : QRow w B vb ps) (hB : B ≤ w.heap.size) (hl : ps.length ≤ 1000) (hr : Rep ps b) :
    Calls Try.prog 36 #[valR (isV x0) (isV x1) (isV x2) n0 n1 n2, .agg #[.int .i64 t0, .int .i64 t1, .int .i64 t2], vb] w (RefFitN (fl x0 x1 x2 n0 n1 n2 t0 t1 t2) b B (ps.length + 3) w) := by
  have S0 := Lib.hid (RF.start w (refC x0 x1 x2 n0 n1 n2) (triC t0 t1 t2))
  have H0 := Lib.hid h
  have HOwn := Lib.hid h.own_lt
  have HL0 := Lib.hid hl
  have HRep := Lib.hid hr
  have HFine := Lib.hid hf
  have HT := Lib.hid ht
  have HB := Lib.hid hB
  have R1 := Lib.hid (appendQ_all ((w.alloc (.cells (refC x0 x1 x2 n0 n1 n2) 75)).alloc (.cells (triC t0 t1 t2) 51)) (h.kept (((Kept.refl Nil w).alloc _).alloc _)) (by omega))
  clear h hl hr hf ht hB
  obtain ⟨v1, w1, r1, o1, k1⟩ := R1.out
  have RR := Lib.hid r1
  have O1 : Hid (QRow w1 (w.heap.size + 1 + 1) v1 ps) := Lib.hid (by simpa using o1)
  have K1 := Lib.hid k1
  clear r1 o1 k1 R1
  go_enter Try.func36, Try.ntmps36
  go_wp2_with (at_builtin; refine wpList_append_run rfl (.tmp 12) (.tmp 13) 92 rfl _ _ rfl rfl RR.out ?_)
  go_loopw [8, 9] (fun v i wr => ∃ (k : Nat) (g : Bd) (qs : List P2), k ≤ 3 ∧ i = .int .i64 k ∧ runL ((fl x0 x1 x2 n0 n1 n2 t0 t1 t2).take k) b = some g ∧ Rep qs g ∧ QRow wr (w.heap.size + 1 + 1) v qs ∧ qs.length ≤ ps.length + k ∧ RF w (refC x0 x1 x2 n0 n1 n2) (triC t0 t1 t2) wr ∧ QRow wr B vb ps) (fun _ i _ => 3 - (intOf i).toNat)
  case atStart => exact ⟨0, b, ps, by omega, rfl, rfl, HRep.out, O1.out, by have := HL0.out; omega, S0.out.step K1.out, (H0.out.kept (((Kept.refl Nil w).alloc _).alloc _)).kept K1.out⟩
  case round =>
    obtain ⟨k, g, qs, hk, rfl, hg, hrep, hrow, hlen, hF, hV⟩ := hrel
    have hl1k := HL0.out
    have HG := Lib.hid hg
    have HF := Lib.hid hF
    have HR := Lib.hid hrow
    have HQ := Lib.hid hrep
    have HV := Lib.hid hV
    clear hg hF hrow hrep hV S0 H0 K1 O1 RR
    by_cases hlt : k < 3
    · obtain ⟨v, n, s, hget, hc0, hc1, hct, hok, hs1⟩ := fieldsR HFine.out HT.out hlt
      have c0 : wr.cell? ⟨w.heap.size, k * 2, none⟩ = some (.int .i64 (isV v)) := by rw [HF.out.b0.cell]; exact hc0
      have c1 : wr.cell? ⟨w.heap.size, k * 2 + 1, none⟩ = some (.int .i64 n) := by rw [HF.out.b0.cell]; exact hc1
      have ct : wr.cell? ⟨w.heap.size + 1, k, none⟩ = some (.int .i64 s) := by rw [HF.out.b1.cell]; exact hct
      have hl0 := HF.out.b0.lt
      have hl1 := HF.out.b1.lt
      have HGet := Lib.hid hget
      have HO := Lib.hid hok
      clear hget hc0 hc1 hct
      cases v
      · clear hok
        replace c0 : wr.cell? ⟨w.heap.size, k * 2, none⟩ = some (.int .i64 0) := c0
        by_cases es : n = s
        · subst es
          go_wp2_with fail
          go_quiet (fail)
          go_wp2_with fail
          go_roundw
          case rel =>
            have K2 : Kept Nil wr ((wr.alloc (.cells #[.int .i64 0, .int .i64 n] 74)).drewN nq) := ((Kept.refl _ _).alloc _).drewN _
            exact ⟨k + 1, g, qs, by omega, by go_num, (runL_take HG.out HGet.out).trans (step1_sym HO.out rfl), HQ.out, HR.out.kept K2, by omega, HF.out.step K2, HV.out.kept K2⟩
          case measure => simp [intOf]; omega
        · have hn : (n != s) = true := bne_iff_ne.2 es
          have HE := Lib.hid es
          clear es
          go_wp2_with fail
          go_quiet (fail)
          go_wp2_with fail
          go_ret2
          have K2 : Kept Nil wr ((wr.alloc (.cells #[.int .i64 0, .int .i64 n] 74)).drewN nq) := ((Kept.refl _ _).alloc _).drewN _
          exact refFitN_none (runL_fail HG.out HGet.out (step1_sym_no HO.out HE.out)) (HV.out.kept K2) (by have := HL0.out; omega) HRep.out (HF.out.step K2).kept
      · obtain ⟨l, u⟩ := okTm_var.1 hok
        clear hok
        obtain ⟨m, rfl⟩ : ∃ m : Nat, n = (m : Int) := ⟨n.toNat, by omega⟩
        have l' : 1 ≤ m := by omega
        have u' : m < 33 := by omega
        clear l u
        replace c0 : wr.cell? ⟨w.heap.size, k * 2, none⟩ = some (.int .i64 1) := c0
        obtain ⟨q, hq⟩ : ∃ q, q = g m := ⟨_, rfl⟩
        have CG : Hid (∀ W, Kept Nil wr W → Calls Try.prog 57 #[u8, .int .i64 m] W fun e w' => e = .returned (.int .i64 q) ∧ Kept Nil W w') := Lib.hid fun W k2 => by
          have := get_any (HR.out.kept k2) (by omega) (m : Int)
          rw [HQ.out.2 m l' u', ← hq] at this
          exact this
        have HQe := Lib.hid hq
        clear hq
        by_cases e0 : q = 0
        · subst e0
          go_wp2_with fail
          refine (CG.out _ ((Kept.refl _ _).alloc _)).mono ?_
          rintro e w2 ⟨rfl, k2⟩
          have K2 : Hid (Kept Nil wr w2) := Lib.hid (((Kept.refl _ _).alloc _).trans k2 (fun _ _ g => g))
          have X2 := Lib.hid ((Blk.new wr 74 #[.int .i64 1, .int .i64 m]).kept k2 id)
          have F2 := Lib.hid (HF.out.step K2.out)
          have x0 : w2.cell? ⟨wr.heap.size, 0, none⟩ = some (.int .i64 1) := X2.out.cell 0
          have x1 : w2.cell? ⟨wr.heap.size, 1, none⟩ = some (.int .i64 m) := X2.out.cell 1
          have ct2 : w2.cell? ⟨w.heap.size + 1, k, none⟩ = some (.int .i64 s) := by rw [F2.out.b1.cell, ← HF.out.b1.cell]; exact ct
          have hx2 := X2.out.lt
          have hl2 := F2.out.b1.lt
          have HCt := Lib.hid ct
          clear ct k2 c0 c1 hl0 hl1
          have R2 := Lib.hid (appendQ_one w2.drew ((HR.out.kept K2.out).kept (Kept.refl Nil w2).drew) (by have := F2.out.kept.size; have := hl2; show _ ≤ w2.heap.size; omega) (by omega) m s)
          obtain ⟨v2, w3, r2, o2, g2⟩ := R2.out
          have RR2 := Lib.hid r2
          have O2 := Lib.hid o2
          have G2 := Lib.hid g2
          have k3 : Kept (fun i => w.heap.size + 1 + 1 ≤ i ∧ i < wr.heap.size) w2 w3 := (((Kept.refl _ w2).drew).alloc _).grown g2 (fun i hi => .inl ⟨HR.out.own i hi, HR.out.own_lt i hi⟩)
          have F3 := Lib.hid (F2.out.keptF k3)
          have SS : Hid (w3.cell? ⟨wr.heap.size, 1, none⟩ = some (.int .i64 m) ∧ w3.cell? ⟨w.heap.size + 1, k, none⟩ = some (.int .i64 s)) := Lib.hid ⟨(X2.out.kept k3 (by omega)).cell 1, by rw [F3.out.b1.cell, ← HF.out.b1.cell]; exact HCt.out⟩
          have K3 := Lib.hid k3
          clear r2 o2 g2 R2 k3
          go_wp2_with fail
          go_region_held3 (fun w' => w'.cell? ⟨wr.heap.size, 1, none⟩ = some (.int .i64 m) ∧ w'.cell? ⟨w.heap.size + 1, k, none⟩ = some (.int .i64 s)) (first | (go_keep; done) | exact SS.out) ((refine step_append_run (by rfl) _ _ _ (by rfl) _ _ (by rfl) (by rfl) RR2.out ?_))
          go_wp2_with fail
          go_roundw
          case rel => exact ⟨k + 1, upd g m s, qs ++ [((m : Int), s)], by omega, by go_num, (runL_take HG.out HGet.out).trans (step1_new HO.out HQe.out.symm), HQ.out.snoc HQe.out.symm l' u' (by omega), O2.out, by rw [List.length_append]; show _ + 1 ≤ _; omega, F3.out, Kept.row K3.out (HV.out.kept K2.out) (fun i hi e => absurd e.1 (by have := HOwn.out i hi; omega))⟩
          case measure => simp [intOf]; omega
        · have e1 : (q == 0) = false := by simpa using e0
          have HE := Lib.hid e0
          clear e0
          by_cases es : q = s
          · subst es
            go_wp2_with fail
            refine (CG.out _ ((Kept.refl _ _).alloc _)).mono ?_
            rintro e w2 ⟨rfl, k2⟩
            have K2 : Hid (Kept Nil wr w2) := Lib.hid (((Kept.refl _ _).alloc _).trans k2 (fun _ _ g => g))
            have F2 := Lib.hid (HF.out.step K2.out)
            have ct2 : w2.cell? ⟨w.heap.size + 1, k, none⟩ = some (.int .i64 q) := by rw [F2.out.b1.cell, ← HF.out.b1.cell]; exact ct
            clear ct k2 c0 c1 hl0 hl1
            go_wp2_with fail
            go_roundw
            case rel => exact ⟨k + 1, g, qs, by omega, by go_num, (runL_take HG.out HGet.out).trans (step1_old HO.out (HQe.out ▸ HE.out) HQe.out.symm), HQ.out, HR.out.kept K2.out, by omega, F2.out, HV.out.kept K2.out⟩
            case measure => simp [intOf]; omega
          · have hn : (q != s) = true := bne_iff_ne.2 es
            have HN := Lib.hid es
            clear es
            go_wp2_with fail
            refine (CG.out _ ((Kept.refl _ _).alloc _)).mono ?_
            rintro e w2 ⟨rfl, k2⟩
            have K2 : Hid (Kept Nil wr w2) := Lib.hid (((Kept.refl _ _).alloc _).trans k2 (fun _ _ g => g))
            have F2 := Lib.hid (HF.out.step K2.out)
            have ct2 : w2.cell? ⟨w.heap.size + 1, k, none⟩ = some (.int .i64 s) := by rw [F2.out.b1.cell, ← HF.out.b1.cell]; exact ct
            clear ct k2 c0 c1 hl0 hl1
            go_wp2_with fail
            go_ret2
            exact refFitN_none (runL_fail HG.out HGet.out (step1_old_no HO.out (HQe.out ▸ HE.out) (HQe.out ▸ HN.out))) (HV.out.kept K2.out) (by have := HL0.out; omega) HRep.out F2.out.kept
    · have hk3 : k = 3 := by omega
      subst hk3
      go_wp2_with fail
      go_ret2
      exact refFitN_some HG.out (HR.out.less (by have := HB.out; omega)) (by omega) HQ.out HF.out.kept
end
section
open Go.RowKit
set_option maxRecDepth 100000

/-- A fact's cells. -/
abbrev cF (f : F4) : List Value := [.int .i64 f.1, .int .i64 f.2.1, .int .i64 f.2.2.1, .int .i64 f.2.2.2]
theorem cF_len (f : F4) : (cF f).length = 4 := rfl
abbrev Any2 (_ _ : Nat) : Prop := True
/-- What Terms does with conditions. -/
def TmC (fs : List F4) (l : List Sh) : Prop := ∀ (b : Bd) (ids : List Int) (fa : Option Addr) (fn fc : Nat) (a : Option Addr) (cap : Nat) (vb : Value) (ps : List P2) (B : Nat) (vi : Value) (w : World),
  In cF 4 w fa fn fs → Holds cR w Any2 (.slice a l.length cap) l → QRow w B vb ps → B ≤ w.heap.size → Rep ps b → ps.length + 3 * posAL l ≤ 1000 → IdsR w vi ids → ids.length + posAL l ≤ 1000 →
  Calls Try.prog 17 #[.slice fa fn fc, .slice a l.length cap, vb, vi] w fun e w' => ∃ r, e = .returned r ∧ LL w' w.heap.size r (tmL fs l b ids) ∧ Kept Nil w w'
theorem terms_nil (fs : List F4) : TmC fs [] := by
  intro b ids fa fn fc a cap vb ps B vi w _ _ _ _ _ _ hi _
  obtain ⟨ai, ci, rfl⟩ := hi.shape
  have HI := Lib.hid hi
  generalize ids.length = ni at *
  have HL := Lib.hid (LL.one HI.out)
  clear hi
  rw [tmL_nil]
  go_enter Try.func17, Try.ntmps17
  go_wp2_with fail
  go_ret
  exact ⟨_, rfl, HL.out, (Kept.refl Nil w).alloc _⟩
/-- All but the first of a row of conditions. -/
theorem Holds.tail {w : World} {b o : Nat} {n cap : Nat} {c : Sh} {r : List Sh} (h : Holds cR w Any2 (.slice (some ⟨b, o, none⟩) n cap) (c :: r)) : r = [] ∨ Holds cR w Any2 (.slice (some ⟨b, o + 8, none⟩) r.length (cap - 1)) r := by
  rcases r with _ | ⟨d, r⟩
  · exact .inl rfl
  · right
    generalize e : Value.slice (some ⟨b, o, none⟩) n cap = v at h
    cases h with
    | row b' o' cap' _ u hn hok hr hs =>
      cases e
      have := Holds.row (E := cR) (w := w) (ok := Any2) b (o + 8) (cap - 1) (d :: r) (fun i => u (i + 1)) (by simp at hn ⊢; omega) trivial (fun i x hi => ?_) (fun i x hi => hs (i + 1) x (by simpa using hi))
      · exact this
      · have := hr (i + 1) x (by simpa using hi)
        rwa [show o + (i + 1) * 8 = o + 8 + i * 8 by omega] at this
theorem any_drop {p : F4 → Bool} {fs : List F4} {j : Nat} {x : F4} (h : fs[j]? = some x) : (fs.drop j).any p = (p x || (fs.drop (j + 1)).any p) := by
  obtain ⟨hl, e⟩ := List.getElem?_eq_some_iff.1 h
  rw [List.drop_eq_getElem_cons hl, e, List.any_cons]
/-- What one fact adds. -/
def tmF (fs : List F4) (h : Hd) (r : List Sh) (b : Bd) (ids : List Int) (f : F4) : List (List Int) := match runL (flH h f.2) b with
  | some g => tmL fs r g (ids ++ [f.1])
  | none => []
theorem tmF_len (fs : List F4) (h : Hd) (r : List Sh) (b : Bd) (ids : List Int) (f : F4) : (tmF fs h r b ids f).length ≤ (fs.length + 1) ^ posAL r := by
  unfold tmF
  cases runL (flH h f.2) b with
  | none => exact Nat.zero_le _
  | some g => exact (tm_len fs).2 r _ _
theorem flat_take_succ {α : Type} {f : F4 → List α} {fs : List F4} {j : Nat} {x : F4} (h : fs[j]? = some x) : (fs.take (j + 1)).flatMap f = (fs.take j).flatMap f ++ f x := by
  rw [List.take_add_one, h, List.flatMap_append]
  simp
set_option maxHeartbeats 8000000 in
theorem terms_cons (fs : List F4) (hfs : ∀ f ∈ fs, okT f.2 = true) (hn12 : fs.length ≤ 12) (c : Sh) (r : List Sh) (hg : c.good) (hcost : (fs.length + 1) ^ posAL (c :: r) ≤ 3000) (IHs : c.hd.k = 3 → TmC fs c.subs) (IHr : TmC fs r) : TmC fs (c :: r) := by
  intro b ids fa fn fc a cap vb ps B vi w hF hH hQ hB hR hps hI hids
  obtain ⟨⟨k, x0, x1, x2, n0, n1, n2⟩, sb⟩ := c
  obtain ⟨bb, o, a', cap', e, _, hr, hs⟩ := hH.at_ (i := 0) (hd := ⟨k, x0, x1, x2, n0, n1, n2⟩) (sb := sb) rfl
  subst e
  have HV := Lib.hid ((tmL_cons fs (.mk ⟨k, x0, x1, x2, n0, n1, n2⟩ sb) r b ids).trans (tm_mk fs ⟨k, x0, x1, x2, n0, n1, n2⟩ sb (tmL fs r) b ids))
  have HGd := Lib.hid (good_mk.1 hg)
  have hpa : posAL (.mk ⟨k, x0, x1, x2, n0, n1, n2⟩ sb :: r) = ((if k = 1 then 1 else 0) + posAL sb) + posAL r := by rw [posAL_cons, posA_mk]
  have hpr : (fs.length + 1) ^ posAL r ≤ 3000 := Nat.le_trans (pow_le_of _ (by rw [hpa]; omega)) hcost
  have HPA := Lib.hid (And.intro hpa hcost)
  have HPR := Lib.hid hpr
  have HTl := Lib.hid hH.tail
  have HF := Lib.hid hF
  have HQ := Lib.hid hQ
  have HBs := Lib.hid hB
  have HR := Lib.hid hR
  have HI := Lib.hid hI
  have HRng : Hid (w.rangeAt bb (o + 0 * 8) (cR ⟨k, x0, x1, x2, n0, n1, n2⟩ (.slice a' sb.length cap'))) := Lib.hid hr
  have HS := Lib.hid hs
  have HFs := Lib.hid (And.intro hfs hn12)
  have hcap := hH.fits.2
  obtain ⟨ai, ci, rfl⟩ := hI.shape
  obtain ⟨len, hlen⟩ : ∃ len, (Sh.mk ⟨k, x0, x1, x2, n0, n1, n2⟩ sb :: r).length = len := ⟨_, rfl⟩
  have HLen := Lib.hid (show r.length + 1 = len from hlen)
  rw [hlen] at hcap ⊢
  have hl0 : ((len : Int) == 0) = false := beq_eq_false_iff_ne.2 (by have := HLen.out; omega)
  have hl1 : (0 : Int) < (len : Int) := by have := HLen.out; omega
  have hps1 : ps.length ≤ 1000 := by omega
  have hidl : ids.length ≤ 1000 := by omega
  have HNm := Lib.hid (And.intro hps hids)
  have BY := Lib.hid (Blk.new w 77 (arrR ⟨k, x0, x1, x2, n0, n1, n2⟩ (.slice a' sb.length cap')))
  have KY := Lib.hid ((Kept.refl Nil w).alloc (.cells (arrR ⟨k, x0, x1, x2, n0, n1, n2⟩ (.slice a' sb.length cap')) 77))
  generalize hsl : sb.length = slen at *
  have HSl := Lib.hid hsl
  generalize hil : ids.length = il at *
  have HIl := Lib.hid hil
  generalize tmL fs (.mk ⟨k, x0, x1, x2, n0, n1, n2⟩ sb :: r) b ids = V at *
  clear hr hs hF hH hQ hB hR hps hI hids hpa hpr hsl hil hlen hg hfs hn12 hcost
  go_enter Try.func17, Try.ntmps17
  have hk3 := HGd.out.2.1
  have hw2 := fun W (kW : Kept Nil w W) => Nat.le_trans HBs.out kW.size
  have HW2 := Lib.hid hw2
  clear hw2
  have hcases : (cap = 1 ∧ r = []) ∨ ¬ cap = 1 := by
    by_cases h : cap = 1
    · exact .inl ⟨h, List.length_eq_zero_iff.1 (by have := HLen.out; omega)⟩
    · exact .inr h
  have HIr := Lib.hid IHr
  clear IHr
  rcases hcases with ⟨rfl, hr0⟩ | hcc
  · obtain rfl : len = 1 := by have := HLen.out; omega
    have CT : Hid (∀ (W : World) (g : Bd) (ids' : List Int) (vb' : Value) (qs : List P2) (vi' : Value), Kept Nil w W → QRow W B vb' qs → Rep qs g → qs.length + 3 * posAL r ≤ 1000 → IdsR W vi' ids' → ids'.length + posAL r ≤ 1000 → Calls Try.prog 17 #[.slice fa fn fc, .slice (some ⟨bb, o, none⟩) 0 0, vb', vi'] W fun e w' => ∃ r', e = .returned r' ∧ LL w' W.heap.size r' (tmL fs r g ids') ∧ Kept Nil W w') := Lib.hid fun W g ids' vb' qs vi' kW hq hrep hql hi hil => by
      have := HIr.out g ids' fa fn fc (some ⟨bb, o, none⟩) 0 vb' qs B vi' W (HF.out.kept kW) (by rw [hr0]; exact .nil _ _) hq (HW2.out W kW) hrep hql hi hil
      rwa [show r.length = 0 by rw [hr0]; rfl] at this
    clear HIr hr0 HTl
    have := HLen.out
    rcases hk3 with rfl | rfl | rfl
    · replace BY : Hid (Blk (w.alloc (.cells #[.int .i64 1, .int .i64 (isV x0), .int .i64 n0, .int .i64 (isV x1), .int .i64 n1, .int .i64 (isV x2), .int .i64 n2, .slice a' slen cap'] 77)) w.heap.size 77 #[.int .i64 1, .int .i64 (isV x0), .int .i64 n0, .int .i64 (isV x1), .int .i64 n1, .int .i64 (isV x2), .int .i64 n2, .slice a' slen cap']) := BY
      replace KY : Hid (Kept Nil w (w.alloc (.cells #[.int .i64 1, .int .i64 (isV x0), .int .i64 n0, .int .i64 (isV x1), .int .i64 n1, .int .i64 (isV x2), .int .i64 n2, .slice a' slen cap'] 77))) := KY
      have hwl : w.heap.size < (w.alloc (.cells #[.int .i64 1, .int .i64 (isV x0), .int .i64 n0, .int .i64 (isV x1), .int .i64 n1, .int .i64 (isV x2), .int .i64 n2, .slice a' slen cap'] 77)).heap.size := BY.out.lt
      have hfn12 : fn ≤ 12 := by have := HFs.out.2; have := HF.out.1; omega
      have HPA1 := Lib.hid (show posAL (.mk ⟨1, x0, x1, x2, n0, n1, n2⟩ sb :: r) = 1 + posAL sb + posAL r from HPA.out.1)
      have hfine := HGd.out.1 (.inl rfl)
      have CFit : Hid (∀ W (t : T3), okT t = true → Kept Nil w W → Calls Try.prog 36 #[.agg #[.int .i64 (isV x0), .int .i64 n0, .int .i64 (isV x1), .int .i64 n1, .int .i64 (isV x2), .int .i64 n2], .agg #[.int .i64 t.1, .int .i64 t.2.1, .int .i64 t.2.2], vb] W fun e w' => ∃ v qs, e = .returned (.tuple #[v, .bool (fitOk (flH ⟨1, x0, x1, x2, n0, n1, n2⟩ t) b)]) ∧ QRow w' B v qs ∧ qs.length ≤ ps.length + 3 ∧ Rep qs (fitB (flH ⟨1, x0, x1, x2, n0, n1, n2⟩ t) b) ∧ Kept Nil W w') := Lib.hid fun W t ht kW => refFitN_any hfine (okT_pos ht) (HQ.out.kept kW) (HW2.out W kW) hps1 HR.out
      have HV3 : Hid (V = fs.flatMap (tmF fs ⟨1, x0, x1, x2, n0, n1, n2⟩ r b ids)) := Lib.hid (by rw [HV.out, if_pos rfl]; rfl)
      have HLenF : Hid (∀ j, ((fs.take j).flatMap (tmF fs ⟨1, x0, x1, x2, n0, n1, n2⟩ r b ids)).length ≤ 3000) := Lib.hid fun j => by
        refine Nat.le_trans (flatMap_len (N := (fs.length + 1) ^ posAL r) fun f _ => tmF_len fs _ r b ids f) (Nat.le_trans ?_ HPA.out.2)
        rw [HPA.out.1, if_pos rfl, Nat.pow_add, Nat.pow_add, Nat.pow_one]
        refine Nat.mul_le_mul_right _ (Nat.le_trans ?_ (Nat.le_mul_of_pos_right _ (pow_pos' _ _)))
        rw [List.length_take]; omega
      clear HV hfine
      go_wp2_with ((with_reducible refine wpList_load_R rfl (.tmp 26) rfl _ _ rfl ⟨1, x0, x1, x2, n0, n1, n2⟩ (.slice a' slen cap') ?_ ?_)
                   · exact HRng.out)
      generalize w.alloc (.cells #[.int .i64 1, .int .i64 (isV x0), .int .i64 n0, .int .i64 (isV x1), .int .i64 n1, .int .i64 (isV x2), .int .i64 n2, .slice a' slen cap'] 77) = w1 at *
      generalize hw0 : w.heap.size = B0 at *
      have HB0 := Lib.hid hw0
      clear hw0
      generalize hFF : tmF fs ⟨1, x0, x1, x2, n0, n1, n2⟩ r b ids = FF at *
      have HFF := Lib.hid hFF
      clear hFF
      go_loopw [10, 33] (fun v i wr => ∃ (j : Nat) (ao : Option Addr) (co : Nat), j ≤ fn ∧ i = .int .i64 j ∧ v = .slice ao ((fs.take j).flatMap FF).length co ∧ LL wr w1.heap.size (.slice ao ((fs.take j).flatMap FF).length co) ((fs.take j).flatMap FF) ∧ Kept Nil w1 wr) (fun _ i _ => fn - (intOf i).toNat)
      case atStart =>
        refine ⟨0, none, 0, Nat.zero_le _, rfl, ?_⟩
        rw [List.take_zero, List.flatMap_nil]
        exact ⟨rfl, LL.nil _ _, Kept.refl _ _⟩
      case round =>
        obtain ⟨j, ao, co, hj, rfl, rfl, hL, hK⟩ := hrel
        have HK := Lib.hid hK
        have HLL := Lib.hid hL
        have BR := Lib.hid (BY.out.kept hK (fun e => e))
        have KR := Lib.hid (KY.out.trans hK (fun _ _ e => e))
        clear hK hL
        have hll := HLenF.out j
        by_cases hjn : j < fn
        rotate_left
        · obtain rfl : j = fn := by omega
          have e1 : fs.take j = fs := List.take_of_length_le (by rw [HF.out.1]; exact Nat.le_refl _)
          rw [e1] at HLL hll ⊢
          rw [← HV3.out] at HLL ⊢
          generalize V.length = vn at *
          go_wp2_with fail
          go_ret
          exact ⟨_, rfl, HLL.out.down (by have := HB0.out; omega), KR.out⟩
        have c0 := BR.out.cell 0
        have c1 := BR.out.cell 1
        have c2 := BR.out.cell 2
        have c3 := BR.out.cell 3
        have c4 := BR.out.cell 4
        have c5 := BR.out.cell 5
        have c6 := BR.out.cell 6
        have hbr : B0 < wr.heap.size := BR.out.lt
        simp at c0 c1 c2 c3 c4 c5 c6
        obtain ⟨⟨fi, t1, t2, t3⟩, hx⟩ : ∃ x, fs[j]? = some x := ⟨_, List.getElem?_eq_getElem (by have := HF.out.1; omega)⟩
        obtain ⟨bf, of, rfl, hb, hc⟩ := (HF.out.kept KR.out).at_ hx
        have p0 := hc 0 _ rfl
        have p1 := hc 1 _ rfl
        have p2 := hc 2 _ rfl
        have p3 := hc 3 _ rfl
        simp only [Nat.add_zero] at p0 p1 p2 p3
        have hok := HFs.out.1 _ (List.mem_of_getElem? hx)
        have KA := Lib.hid ((Kept.refl Nil wr).alloc (.cells #[.int .i64 fi, .int .i64 t1, .int .i64 t2, .int .i64 t3] 94))
        have BF := Lib.hid (Blk.new wr 94 #[.int .i64 fi, .int .i64 t1, .int .i64 t2, .int .i64 t3])
        have CF := Lib.hid (CFit.out _ (t1, t2, t3) hok (KR.out.trans KA.out (fun _ _ e => e)))
        have HN := Lib.hid (flat_take_succ (f := FF) hx)
        have HFx : Hid (FF (fi, t1, t2, t3) = match runL (flH ⟨1, x0, x1, x2, n0, n1, n2⟩ (t1, t2, t3)) b with | some g => tmL fs r g (ids ++ [fi]) | none => []) := Lib.hid (by rw [← HFF.out]; rfl)
        have hll2 := HLenF.out (j + 1)
        rw [HN.out] at hll2
        generalize (fs.take j).flatMap FF = L at *
        generalize FF (fi, t1, t2, t3) = Lx at *
        rw [List.length_append] at hll2
        have hfs : fitOk (flH ⟨1, x0, x1, x2, n0, n1, n2⟩ (t1, t2, t3)) b = (runL (flH ⟨1, x0, x1, x2, n0, n1, n2⟩ (t1, t2, t3)) b).isSome := rfl
        simp only at CF
        rw [hfs] at CF
        clear hx hc hok hfs
        go_wp2_with fail
        refine CF.out.mono ?_
        rintro e w2 ⟨v2, qs, rfl, hq2, hl2, hr2, k2⟩
        have K2 := Lib.hid (KA.out.trans k2 (fun _ _ e => e))
        have B2 := Lib.hid (BF.out.kept k2 (fun e => e))
        have HQ2 := Lib.hid (And.intro hq2 (And.intro hl2 hr2))
        clear k2 hq2 hl2 hr2 CF c0 c1 c2 c3 c4 c5 c6 p0 p1 p2 p3
        cases hrun : runL (flH ⟨1, x0, x1, x2, n0, n1, n2⟩ (t1, t2, t3)) b with
        | none =>
          rw [hrun] at HFx
          have HE : Hid (Lx = []) := Lib.hid HFx.out
          clear hrun HFx
          show _
          simp only [Option.isSome_none]
          go_wp2_with fail
          go_roundw
          case rel =>
            refine ⟨j + 1, ao, co, hjn, by go_num, ?_⟩
            rw [HN.out, HE.out, List.append_nil]
            exact ⟨rfl, HLL.out.keptN K2.out, HK.out.trans K2.out (fun _ _ e => e)⟩
          case measure => simp [intOf]; omega
        | some g =>
          rw [hrun] at HFx
          have HE : Hid (Lx = tmL fs r g (ids ++ [fi])) := Lib.hid HFx.out
          have hrp := HQ2.out.2.2
          rw [(fit_some hrun).1] at hrp
          have HQ3 := Lib.hid (show QRow w2 B v2 qs ∧ qs.length ≤ ps.length + 3 ∧ Rep qs g from ⟨HQ2.out.1, HQ2.out.2.1, hrp⟩)
          have KR2 := Lib.hid (KR.out.trans K2.out (fun _ _ e => e))
          clear hrun HFx HQ2 hrp
          simp only [Option.isSome_some]
          -- next: the ids, and this one
          obtain ⟨a3, c3, w3, r3, row3, k3, ko3⟩ := Row.pushAll elsI1 cN_len cN_one (by decide) 49 (Kept.refl Nil w2) (Row.nil (cells := cN) (e := 3) (size := 1) w2 w2.heap.size) rfl (Nat.zero_le _) (((HI.out.keptN KR2.out).toIn (cap := ci) cN_len (by decide))) (by rw [HIl.out]; omega) (c2 := ci)
          rw [Nat.zero_add] at r3 row3
          rw [List.nil_append] at row3
          have R3 := Lib.hid r3
          have B3 := Lib.hid (B2.out.kept k3 (fun e => e))
          have x0' := B3.out.cell 0
          simp at x0'
          have hbf3 : wr.heap.size < w3.heap.size := B3.out.lt
          obtain ⟨a4, c4, w4, r4, row4, k4, ko4⟩ := Row.push elsI1 cN_len cN_one 49 k3 row3 HIl.out.symm (by rw [HIl.out]; omega) fi #[.int .i64 fi] rfl
          have R4 := Lib.hid r4
          have HX4 := Lib.hid (And.intro row4 k4)
          have K4 := Lib.hid (KR2.out.trans k4 (fun _ _ e => e))
          have CT4 := Lib.hid (CT.out w4 g (ids ++ [fi]) v2 qs (.slice a4 (il + 1) c4) K4.out (HQ3.out.1.kept k4) HQ3.out.2.2 (by have := HQ3.out.2.1; have := HNm.out.1; have h := HPA1.out; omega) (row4.down (Nat.zero_le _)) (by rw [List.length_append, HIl.out]; have := HNm.out.2; have h := HPA1.out; have := HIl.out; simp only [List.length_cons, List.length_nil]; omega))
          clear r3 row3 k3 ko3 r4 row4 k4 ko4
          go_wp2_with (first
            | (at_builtin; refine wpList_append_run rfl (.tmp 48) (.tmp 49) 49 rfl _ _ rfl rfl R3.out ?_)
            | (at_builtin; refine wpList_append_run rfl (.tmp 51) (.tmp 54) 49 rfl _ _ rfl rfl R4.out ?_))
          refine CT4.out.mono ?_
          rintro e w5 ⟨r5, rfl, hr5, k5⟩
          rw [← HE.out] at hr5
          obtain ⟨a5, c5, rfl⟩ := hr5.shape
          have K5 := Lib.hid (K4.out.trans k5 (fun _ _ e => e))
          have K15 := Lib.hid ((K2.out.trans HX4.out.2 (fun _ _ e => e)).trans k5 (fun _ _ e => e))
          have hLL5 := HLL.out.keptN K15.out
          obtain ⟨a6, c6, w6, r6, ll6, k6, _⟩ := hLL5.append (HK.out.trans K15.out (fun _ _ e => e)) (by omega) hr5 (by omega)
          have R6 := Lib.hid r6
          have H6 := Lib.hid (And.intro ll6 k6)
          clear r6 ll6 k6 k5 hr5 hLL5
          generalize hlx : Lx.length = lx at *
          generalize hll' : L.length = lL at *
          have HLX := Lib.hid (And.intro hlx hll')
          clear hlx hll'
          go_wp2_with (at_builtin; refine wpList_append_run rfl (.tmp 56) (.tmp 62) 35 rfl _ _ rfl rfl R6.out ?_)
          go_roundw
          case rel =>
            refine ⟨j + 1, a6, c6, hjn, by go_num, ?_⟩
            rw [HN.out, List.length_append, HLX.out.1, HLX.out.2]
            exact ⟨rfl, H6.out.1, H6.out.2⟩
          case measure => simp [intOf]; omega
    · replace BY : Hid (Blk (w.alloc (.cells #[.int .i64 2, .int .i64 (isV x0), .int .i64 n0, .int .i64 (isV x1), .int .i64 n1, .int .i64 (isV x2), .int .i64 n2, .slice a' slen cap'] 77)) w.heap.size 77 #[.int .i64 2, .int .i64 (isV x0), .int .i64 n0, .int .i64 (isV x1), .int .i64 n1, .int .i64 (isV x2), .int .i64 n2, .slice a' slen cap']) := BY
      replace KY : Hid (Kept Nil w (w.alloc (.cells #[.int .i64 2, .int .i64 (isV x0), .int .i64 n0, .int .i64 (isV x1), .int .i64 n1, .int .i64 (isV x2), .int .i64 n2, .slice a' slen cap'] 77))) := KY
      have hwl : w.heap.size < (w.alloc (.cells #[.int .i64 2, .int .i64 (isV x0), .int .i64 n0, .int .i64 (isV x1), .int .i64 n1, .int .i64 (isV x2), .int .i64 n2, .slice a' slen cap'] 77)).heap.size := BY.out.lt
      have hfn12 : fn ≤ 12 := by have := HFs.out.2; have := HF.out.1; omega
      have hfine := HGd.out.1 (.inr rfl)
      have CFit : Hid (∀ W (t : T3), okT t = true → Kept Nil w W → Calls Try.prog 36 #[.agg #[.int .i64 (isV x0), .int .i64 n0, .int .i64 (isV x1), .int .i64 n1, .int .i64 (isV x2), .int .i64 n2], .agg #[.int .i64 t.1, .int .i64 t.2.1, .int .i64 t.2.2], vb] W fun e w' => ∃ v qs, e = .returned (.tuple #[v, .bool (fitOk (flH ⟨2, x0, x1, x2, n0, n1, n2⟩ t) b)]) ∧ QRow w' B v qs ∧ qs.length ≤ ps.length + 3 ∧ Rep qs (fitB (flH ⟨2, x0, x1, x2, n0, n1, n2⟩ t) b) ∧ Kept Nil W w') := Lib.hid fun W t ht kW => refFitN_any hfine (okT_pos ht) (HQ.out.kept kW) (HW2.out W kW) hps1 HR.out
      have HV3 : Hid (V = if (fs.any fun f => fitOk (flH ⟨2, x0, x1, x2, n0, n1, n2⟩ f.2) b) = true then [] else tmL fs r b ids) := Lib.hid (by
        rw [HV.out, if_neg (show ¬ (2 : Int) = 1 by decide)]
        by_cases hx : (fs.any fun f => fitOk (flH ⟨2, x0, x1, x2, n0, n1, n2⟩ f.2) b) = true
        · rw [if_pos ⟨rfl, hx⟩, if_pos hx]
        · rw [if_neg (fun a => hx a.2), if_neg (fun a => absurd a.1 (show ¬ (2 : Int) = 3 by decide)), if_neg hx])
      clear HV hfine
      go_wp2_with ((with_reducible refine wpList_load_R rfl (.tmp 26) rfl _ _ rfl ⟨2, x0, x1, x2, n0, n1, n2⟩ (.slice a' slen cap') ?_ ?_)
                   · exact HRng.out)
      generalize w.alloc (.cells #[.int .i64 2, .int .i64 (isV x0), .int .i64 n0, .int .i64 (isV x1), .int .i64 n1, .int .i64 (isV x2), .int .i64 n2, .slice a' slen cap'] 77) = w1 at *
      generalize hw0 : w.heap.size = B0 at *
      have HB0 := Lib.hid hw0
      clear hw0
      go_loopw [71] (fun i wr => ∃ j : Nat, j ≤ fn ∧ i = .int .i64 j ∧ (fs.any fun f => fitOk (flH ⟨2, x0, x1, x2, n0, n1, n2⟩ f.2) b) = ((fs.drop j).any fun f => fitOk (flH ⟨2, x0, x1, x2, n0, n1, n2⟩ f.2) b) ∧ Kept Nil w1 wr) (fun i _ => fn - (intOf i).toNat)
      case atStart => exact ⟨0, Nat.zero_le _, rfl, rfl, Kept.refl _ _⟩
      case round =>
        obtain ⟨j, hj, rfl, hch, hK⟩ := hrel
        have HK := Lib.hid hK
        have HCh := Lib.hid hch
        have BR := Lib.hid (BY.out.kept hK (fun e => e))
        have KR := Lib.hid (KY.out.trans hK (fun _ _ e => e))
        clear hK hch
        have c0 := BR.out.cell 0
        have c1 := BR.out.cell 1
        have c2 := BR.out.cell 2
        have c3 := BR.out.cell 3
        have c4 := BR.out.cell 4
        have c5 := BR.out.cell 5
        have c6 := BR.out.cell 6
        have hbr : B0 < wr.heap.size := BR.out.lt
        simp at c0 c1 c2 c3 c4 c5 c6
        by_cases hjn : j < fn
        · obtain ⟨⟨fi, t1, t2, t3⟩, hx⟩ : ∃ x, fs[j]? = some x := ⟨_, List.getElem?_eq_getElem (by have := HF.out.1; omega)⟩
          obtain ⟨bf, of, rfl, hb, hc⟩ := (HF.out.kept KR.out).at_ hx
          have p0 := hc 0 _ rfl
          have p1 := hc 1 _ rfl
          have p2 := hc 2 _ rfl
          have p3 := hc 3 _ rfl
          simp only [Nat.add_zero] at p0 p1 p2 p3
          have hok := HFs.out.1 _ (List.mem_of_getElem? hx)
          have KA := Lib.hid ((Kept.refl Nil wr).alloc (.cells #[.int .i64 fi, .int .i64 t1, .int .i64 t2, .int .i64 t3] 94))
          have CF := Lib.hid (CFit.out _ (t1, t2, t3) hok (KR.out.trans KA.out (fun _ _ e => e)))
          have HN := Lib.hid (any_drop (p := fun f : F4 => fitOk (flH ⟨2, x0, x1, x2, n0, n1, n2⟩ f.2) b) hx)
          simp only at HN CF
          generalize fitOk (flH ⟨2, x0, x1, x2, n0, n1, n2⟩ (t1, t2, t3)) b = q at *
          clear hx hc hok
          go_wp2_with fail
          refine CF.out.mono ?_
          rintro e w2 ⟨v2, qs, rfl, _, _, _, k2⟩
          have K2 := Lib.hid (KA.out.trans k2 (fun _ _ e => e))
          clear k2
          cases q
          · go_wp2_with fail
            go_roundw
            case rel => exact ⟨j + 1, hjn, by go_num, by rw [HCh.out, HN.out]; rfl, HK.out.trans K2.out (fun _ _ e => e)⟩
            case measure => simp [intOf]; omega
          · go_wp2_with fail
            go_ret
            refine ⟨_, rfl, ?_, KR.out.trans K2.out (fun _ _ e => e)⟩
            rw [HV3.out, HCh.out, HN.out, Bool.true_or, if_pos rfl]
            exact LL.nil _ _
        · obtain rfl : j = fn := by omega
          have HE : Hid (((fs.drop j).any fun f => fitOk (flH ⟨2, x0, x1, x2, n0, n1, n2⟩ f.2) b) = false) := Lib.hid (by rw [List.drop_eq_nil_of_le (by rw [HF.out.1]; exact Nat.le_refl _)]; rfl)
          have CT3 := Lib.hid (CT.out wr b ids vb ps (.slice ai il ci) KR.out (HQ.out.kept KR.out) HR.out (by have := HNm.out.1; have := HPA.out.1; omega) (HI.out.keptN KR.out) (by have := HNm.out.2; have := HPA.out.1; have := HIl.out; omega))
          go_wp2_with fail
          refine CT3.out.mono ?_
          rintro e w3 ⟨r3, rfl, hr3, k3⟩
          go_wp2_with fail
          go_ret
          refine ⟨r3, rfl, ?_, KR.out.trans k3 (fun _ _ e => e)⟩
          rw [HV3.out, HCh.out, HE.out, if_neg (by decide)]
          exact hr3.down (by have := KR.out.size; have := HB0.out; omega)
    · replace BY : Hid (Blk (w.alloc (.cells #[.int .i64 3, .int .i64 (isV x0), .int .i64 n0, .int .i64 (isV x1), .int .i64 n1, .int .i64 (isV x2), .int .i64 n2, .slice a' slen cap'] 77)) w.heap.size 77 #[.int .i64 3, .int .i64 (isV x0), .int .i64 n0, .int .i64 (isV x1), .int .i64 n1, .int .i64 (isV x2), .int .i64 n2, .slice a' slen cap']) := BY
      replace KY : Hid (Kept Nil w (w.alloc (.cells #[.int .i64 3, .int .i64 (isV x0), .int .i64 n0, .int .i64 (isV x1), .int .i64 n1, .int .i64 (isV x2), .int .i64 n2, .slice a' slen cap'] 77))) := KY
      have hwl : w.heap.size < (w.alloc (.cells #[.int .i64 3, .int .i64 (isV x0), .int .i64 n0, .int .i64 (isV x1), .int .i64 n1, .int .i64 (isV x2), .int .i64 n2, .slice a' slen cap'] 77)).heap.size := BY.out.lt
      have CS : Hid (∀ W, Kept Nil w W → Calls Try.prog 17 #[.slice fa fn fc, .slice a' slen cap', vb, .slice none 0 0] W fun e w' => ∃ r', e = .returned r' ∧ LL w' W.heap.size r' (tmL fs sb b []) ∧ Kept Nil W w') := Lib.hid fun W kW => by
        have := IHs rfl b [] fa fn fc a' cap' vb ps B (.slice none 0 0) W (HF.out.kept kW) (by show Holds cR W Any2 (.slice a' sb.length cap') sb; rw [HSl.out]; exact HS.out.keptN kW) (HQ.out.kept kW) (HW2.out W kW) HR.out (by have := HNm.out.1; have := HPA.out.1; simp only [Sh.subs]; omega) (Row.nil _ _) (by have := HNm.out.2; have := HPA.out.1; simp only [Sh.subs, List.length_nil]; omega)
        rw [show (Sh.mk ⟨3, x0, x1, x2, n0, n1, n2⟩ sb).subs.length = slen from HSl.out] at this
        exact this
      have HV3 : Hid (V = if (tmL fs sb b []).isEmpty = false then [] else tmL fs r b ids) := Lib.hid (by
        rw [HV.out, if_neg (show ¬ (3 : Int) = 1 by decide), if_neg (fun a => absurd a.1 (show ¬ (3 : Int) = 2 by decide))]
        by_cases hx : (tmL fs sb b []).isEmpty = false
        · rw [if_pos ⟨rfl, hx⟩, if_pos hx]
        · rw [if_neg (fun a => hx a.2), if_neg hx])
      clear HV
      go_wp2_with ((with_reducible refine wpList_load_R rfl (.tmp 26) rfl _ _ rfl ⟨3, x0, x1, x2, n0, n1, n2⟩ (.slice a' slen cap') ?_ ?_)
                   · exact HRng.out)
      refine (CS.out _ KY.out).mono ?_
      rintro e w2 ⟨r2, rfl, hr2, k2⟩
      have K2 := Lib.hid (KY.out.trans k2 (fun _ _ e => e))
      obtain ⟨a2, c2, rfl⟩ := hr2.shape
      generalize hL : tmL fs sb b [] = L2 at *
      clear hL hr2 k2
      rcases L2 with _ | ⟨y, L2⟩
      · have CT3 := Lib.hid (CT.out w2 b ids vb ps (.slice ai il ci) K2.out (HQ.out.kept K2.out) HR.out (by have := HNm.out.1; have := HPA.out.1; omega) (HI.out.keptN K2.out) (by have := HNm.out.2; have := HPA.out.1; have := HIl.out; omega))
        go_wp2_with fail
        refine CT3.out.mono ?_
        rintro e w3 ⟨r3, rfl, hr3, k3⟩
        go_wp2_with fail
        go_ret
        refine ⟨r3, rfl, ?_, K2.out.trans k3 (fun _ _ e => e)⟩
        rw [HV3.out]
        exact hr3.down K2.out.size
      · have hl2 : (y :: L2).length = L2.length + 1 := rfl
        generalize (y :: L2).length = l2 at *
        have hp2 : (0 : Int) < (l2 : Int) := by omega
        have hp2' : decide (0 < l2) = true := decide_eq_true (by omega)
        have HV4 : Hid (V = []) := Lib.hid (by rw [HV3.out]; rfl)
        go_wp2_with fail
        go_ret
        refine ⟨_, rfl, ?_, K2.out⟩
        rw [HV4.out]
        exact LL.nil _ _
  · have CT : Hid (∀ (W : World) (g : Bd) (ids' : List Int) (vb' : Value) (qs : List P2) (vi' : Value), Kept Nil w W → QRow W B vb' qs → Rep qs g → qs.length + 3 * posAL r ≤ 1000 → IdsR W vi' ids' → ids'.length + posAL r ≤ 1000 → Calls Try.prog 17 #[.slice fa fn fc, .slice (some ⟨bb, o + 8, none⟩) (len - 1) (cap - 1), vb', vi'] W fun e w' => ∃ r', e = .returned r' ∧ LL w' W.heap.size r' (tmL fs r g ids') ∧ Kept Nil W w') := Lib.hid fun W g ids' vb' qs vi' kW hq hrep hql hi hil => by
      have := HIr.out g ids' fa fn fc (some ⟨bb, o + 8, none⟩) (cap - 1) vb' qs B vi' W (HF.out.kept kW) (by
        rcases HTl.out with e | e
        · rw [e]; exact .nil _ _
        · exact e.keptN kW) hq (HW2.out W kW) hrep hql hi hil
      rwa [show r.length = len - 1 by have := HLen.out; omega] at this
    clear HIr HTl
    rcases hk3 with rfl | rfl | rfl
    · replace BY : Hid (Blk (w.alloc (.cells #[.int .i64 1, .int .i64 (isV x0), .int .i64 n0, .int .i64 (isV x1), .int .i64 n1, .int .i64 (isV x2), .int .i64 n2, .slice a' slen cap'] 77)) w.heap.size 77 #[.int .i64 1, .int .i64 (isV x0), .int .i64 n0, .int .i64 (isV x1), .int .i64 n1, .int .i64 (isV x2), .int .i64 n2, .slice a' slen cap']) := BY
      replace KY : Hid (Kept Nil w (w.alloc (.cells #[.int .i64 1, .int .i64 (isV x0), .int .i64 n0, .int .i64 (isV x1), .int .i64 n1, .int .i64 (isV x2), .int .i64 n2, .slice a' slen cap'] 77))) := KY
      have hwl : w.heap.size < (w.alloc (.cells #[.int .i64 1, .int .i64 (isV x0), .int .i64 n0, .int .i64 (isV x1), .int .i64 n1, .int .i64 (isV x2), .int .i64 n2, .slice a' slen cap'] 77)).heap.size := BY.out.lt
      have hfn12 : fn ≤ 12 := by have := HFs.out.2; have := HF.out.1; omega
      have HPA1 := Lib.hid (show posAL (.mk ⟨1, x0, x1, x2, n0, n1, n2⟩ sb :: r) = 1 + posAL sb + posAL r from HPA.out.1)
      have hfine := HGd.out.1 (.inl rfl)
      have CFit : Hid (∀ W (t : T3), okT t = true → Kept Nil w W → Calls Try.prog 36 #[.agg #[.int .i64 (isV x0), .int .i64 n0, .int .i64 (isV x1), .int .i64 n1, .int .i64 (isV x2), .int .i64 n2], .agg #[.int .i64 t.1, .int .i64 t.2.1, .int .i64 t.2.2], vb] W fun e w' => ∃ v qs, e = .returned (.tuple #[v, .bool (fitOk (flH ⟨1, x0, x1, x2, n0, n1, n2⟩ t) b)]) ∧ QRow w' B v qs ∧ qs.length ≤ ps.length + 3 ∧ Rep qs (fitB (flH ⟨1, x0, x1, x2, n0, n1, n2⟩ t) b) ∧ Kept Nil W w') := Lib.hid fun W t ht kW => refFitN_any hfine (okT_pos ht) (HQ.out.kept kW) (HW2.out W kW) hps1 HR.out
      have HV3 : Hid (V = fs.flatMap (tmF fs ⟨1, x0, x1, x2, n0, n1, n2⟩ r b ids)) := Lib.hid (by rw [HV.out, if_pos rfl]; rfl)
      have HLenF : Hid (∀ j, ((fs.take j).flatMap (tmF fs ⟨1, x0, x1, x2, n0, n1, n2⟩ r b ids)).length ≤ 3000) := Lib.hid fun j => by
        refine Nat.le_trans (flatMap_len (N := (fs.length + 1) ^ posAL r) fun f _ => tmF_len fs _ r b ids f) (Nat.le_trans ?_ HPA.out.2)
        rw [HPA.out.1, if_pos rfl, Nat.pow_add, Nat.pow_add, Nat.pow_one]
        refine Nat.mul_le_mul_right _ (Nat.le_trans ?_ (Nat.le_mul_of_pos_right _ (pow_pos' _ _)))
        rw [List.length_take]; omega
      clear HV hfine
      go_wp2_with ((with_reducible refine wpList_load_R rfl (.tmp 26) rfl _ _ rfl ⟨1, x0, x1, x2, n0, n1, n2⟩ (.slice a' slen cap') ?_ ?_)
                   · exact HRng.out)
      generalize w.alloc (.cells #[.int .i64 1, .int .i64 (isV x0), .int .i64 n0, .int .i64 (isV x1), .int .i64 n1, .int .i64 (isV x2), .int .i64 n2, .slice a' slen cap'] 77) = w1 at *
      generalize hw0 : w.heap.size = B0 at *
      have HB0 := Lib.hid hw0
      clear hw0
      generalize hFF : tmF fs ⟨1, x0, x1, x2, n0, n1, n2⟩ r b ids = FF at *
      have HFF := Lib.hid hFF
      clear hFF
      go_loopw [10, 33] (fun v i wr => ∃ (j : Nat) (ao : Option Addr) (co : Nat), j ≤ fn ∧ i = .int .i64 j ∧ v = .slice ao ((fs.take j).flatMap FF).length co ∧ LL wr w1.heap.size (.slice ao ((fs.take j).flatMap FF).length co) ((fs.take j).flatMap FF) ∧ Kept Nil w1 wr) (fun _ i _ => fn - (intOf i).toNat)
      case atStart =>
        refine ⟨0, none, 0, Nat.zero_le _, rfl, ?_⟩
        rw [List.take_zero, List.flatMap_nil]
        exact ⟨rfl, LL.nil _ _, Kept.refl _ _⟩
      case round =>
        obtain ⟨j, ao, co, hj, rfl, rfl, hL, hK⟩ := hrel
        have HK := Lib.hid hK
        have HLL := Lib.hid hL
        have BR := Lib.hid (BY.out.kept hK (fun e => e))
        have KR := Lib.hid (KY.out.trans hK (fun _ _ e => e))
        clear hK hL
        have hll := HLenF.out j
        by_cases hjn : j < fn
        rotate_left
        · obtain rfl : j = fn := by omega
          have e1 : fs.take j = fs := List.take_of_length_le (by rw [HF.out.1]; exact Nat.le_refl _)
          rw [e1] at HLL hll ⊢
          rw [← HV3.out] at HLL ⊢
          generalize V.length = vn at *
          go_wp2_with fail
          go_ret
          exact ⟨_, rfl, HLL.out.down (by have := HB0.out; omega), KR.out⟩
        have c0 := BR.out.cell 0
        have c1 := BR.out.cell 1
        have c2 := BR.out.cell 2
        have c3 := BR.out.cell 3
        have c4 := BR.out.cell 4
        have c5 := BR.out.cell 5
        have c6 := BR.out.cell 6
        have hbr : B0 < wr.heap.size := BR.out.lt
        simp at c0 c1 c2 c3 c4 c5 c6
        obtain ⟨⟨fi, t1, t2, t3⟩, hx⟩ : ∃ x, fs[j]? = some x := ⟨_, List.getElem?_eq_getElem (by have := HF.out.1; omega)⟩
        obtain ⟨bf, of, rfl, hb, hc⟩ := (HF.out.kept KR.out).at_ hx
        have p0 := hc 0 _ rfl
        have p1 := hc 1 _ rfl
        have p2 := hc 2 _ rfl
        have p3 := hc 3 _ rfl
        simp only [Nat.add_zero] at p0 p1 p2 p3
        have hok := HFs.out.1 _ (List.mem_of_getElem? hx)
        have KA := Lib.hid ((Kept.refl Nil wr).alloc (.cells #[.int .i64 fi, .int .i64 t1, .int .i64 t2, .int .i64 t3] 94))
        have BF := Lib.hid (Blk.new wr 94 #[.int .i64 fi, .int .i64 t1, .int .i64 t2, .int .i64 t3])
        have CF := Lib.hid (CFit.out _ (t1, t2, t3) hok (KR.out.trans KA.out (fun _ _ e => e)))
        have HN := Lib.hid (flat_take_succ (f := FF) hx)
        have HFx : Hid (FF (fi, t1, t2, t3) = match runL (flH ⟨1, x0, x1, x2, n0, n1, n2⟩ (t1, t2, t3)) b with | some g => tmL fs r g (ids ++ [fi]) | none => []) := Lib.hid (by rw [← HFF.out]; rfl)
        have hll2 := HLenF.out (j + 1)
        rw [HN.out] at hll2
        generalize (fs.take j).flatMap FF = L at *
        generalize FF (fi, t1, t2, t3) = Lx at *
        rw [List.length_append] at hll2
        have hfs : fitOk (flH ⟨1, x0, x1, x2, n0, n1, n2⟩ (t1, t2, t3)) b = (runL (flH ⟨1, x0, x1, x2, n0, n1, n2⟩ (t1, t2, t3)) b).isSome := rfl
        simp only at CF
        rw [hfs] at CF
        clear hx hc hok hfs
        go_wp2_with fail
        refine CF.out.mono ?_
        rintro e w2 ⟨v2, qs, rfl, hq2, hl2, hr2, k2⟩
        have K2 := Lib.hid (KA.out.trans k2 (fun _ _ e => e))
        have B2 := Lib.hid (BF.out.kept k2 (fun e => e))
        have HQ2 := Lib.hid (And.intro hq2 (And.intro hl2 hr2))
        clear k2 hq2 hl2 hr2 CF c0 c1 c2 c3 c4 c5 c6 p0 p1 p2 p3
        cases hrun : runL (flH ⟨1, x0, x1, x2, n0, n1, n2⟩ (t1, t2, t3)) b with
        | none =>
          rw [hrun] at HFx
          have HE : Hid (Lx = []) := Lib.hid HFx.out
          clear hrun HFx
          show _
          simp only [Option.isSome_none]
          go_wp2_with fail
          go_roundw
          case rel =>
            refine ⟨j + 1, ao, co, hjn, by go_num, ?_⟩
            rw [HN.out, HE.out, List.append_nil]
            exact ⟨rfl, HLL.out.keptN K2.out, HK.out.trans K2.out (fun _ _ e => e)⟩
          case measure => simp [intOf]; omega
        | some g =>
          rw [hrun] at HFx
          have HE : Hid (Lx = tmL fs r g (ids ++ [fi])) := Lib.hid HFx.out
          have hrp := HQ2.out.2.2
          rw [(fit_some hrun).1] at hrp
          have HQ3 := Lib.hid (show QRow w2 B v2 qs ∧ qs.length ≤ ps.length + 3 ∧ Rep qs g from ⟨HQ2.out.1, HQ2.out.2.1, hrp⟩)
          have KR2 := Lib.hid (KR.out.trans K2.out (fun _ _ e => e))
          clear hrun HFx HQ2 hrp
          simp only [Option.isSome_some]
          -- next: the ids, and this one
          obtain ⟨a3, c3, w3, r3, row3, k3, ko3⟩ := Row.pushAll elsI1 cN_len cN_one (by decide) 49 (Kept.refl Nil w2) (Row.nil (cells := cN) (e := 3) (size := 1) w2 w2.heap.size) rfl (Nat.zero_le _) (((HI.out.keptN KR2.out).toIn (cap := ci) cN_len (by decide))) (by rw [HIl.out]; omega) (c2 := ci)
          rw [Nat.zero_add] at r3 row3
          rw [List.nil_append] at row3
          have R3 := Lib.hid r3
          have B3 := Lib.hid (B2.out.kept k3 (fun e => e))
          have x0' := B3.out.cell 0
          simp at x0'
          have hbf3 : wr.heap.size < w3.heap.size := B3.out.lt
          obtain ⟨a4, c4, w4, r4, row4, k4, ko4⟩ := Row.push elsI1 cN_len cN_one 49 k3 row3 HIl.out.symm (by rw [HIl.out]; omega) fi #[.int .i64 fi] rfl
          have R4 := Lib.hid r4
          have HX4 := Lib.hid (And.intro row4 k4)
          have K4 := Lib.hid (KR2.out.trans k4 (fun _ _ e => e))
          have CT4 := Lib.hid (CT.out w4 g (ids ++ [fi]) v2 qs (.slice a4 (il + 1) c4) K4.out (HQ3.out.1.kept k4) HQ3.out.2.2 (by have := HQ3.out.2.1; have := HNm.out.1; have h := HPA1.out; omega) (row4.down (Nat.zero_le _)) (by rw [List.length_append, HIl.out]; have := HNm.out.2; have h := HPA1.out; have := HIl.out; simp only [List.length_cons, List.length_nil]; omega))
          clear r3 row3 k3 ko3 r4 row4 k4 ko4
          go_wp2_with (first
            | (at_builtin; refine wpList_append_run rfl (.tmp 48) (.tmp 49) 49 rfl _ _ rfl rfl R3.out ?_)
            | (at_builtin; refine wpList_append_run rfl (.tmp 51) (.tmp 54) 49 rfl _ _ rfl rfl R4.out ?_))
          refine CT4.out.mono ?_
          rintro e w5 ⟨r5, rfl, hr5, k5⟩
          rw [← HE.out] at hr5
          obtain ⟨a5, c5, rfl⟩ := hr5.shape
          have K5 := Lib.hid (K4.out.trans k5 (fun _ _ e => e))
          have K15 := Lib.hid ((K2.out.trans HX4.out.2 (fun _ _ e => e)).trans k5 (fun _ _ e => e))
          have hLL5 := HLL.out.keptN K15.out
          obtain ⟨a6, c6, w6, r6, ll6, k6, _⟩ := hLL5.append (HK.out.trans K15.out (fun _ _ e => e)) (by omega) hr5 (by omega)
          have R6 := Lib.hid r6
          have H6 := Lib.hid (And.intro ll6 k6)
          clear r6 ll6 k6 k5 hr5 hLL5
          generalize hlx : Lx.length = lx at *
          generalize hll' : L.length = lL at *
          have HLX := Lib.hid (And.intro hlx hll')
          clear hlx hll'
          go_wp2_with (at_builtin; refine wpList_append_run rfl (.tmp 56) (.tmp 62) 35 rfl _ _ rfl rfl R6.out ?_)
          go_roundw
          case rel =>
            refine ⟨j + 1, a6, c6, hjn, by go_num, ?_⟩
            rw [HN.out, List.length_append, HLX.out.1, HLX.out.2]
            exact ⟨rfl, H6.out.1, H6.out.2⟩
          case measure => simp [intOf]; omega
    · replace BY : Hid (Blk (w.alloc (.cells #[.int .i64 2, .int .i64 (isV x0), .int .i64 n0, .int .i64 (isV x1), .int .i64 n1, .int .i64 (isV x2), .int .i64 n2, .slice a' slen cap'] 77)) w.heap.size 77 #[.int .i64 2, .int .i64 (isV x0), .int .i64 n0, .int .i64 (isV x1), .int .i64 n1, .int .i64 (isV x2), .int .i64 n2, .slice a' slen cap']) := BY
      replace KY : Hid (Kept Nil w (w.alloc (.cells #[.int .i64 2, .int .i64 (isV x0), .int .i64 n0, .int .i64 (isV x1), .int .i64 n1, .int .i64 (isV x2), .int .i64 n2, .slice a' slen cap'] 77))) := KY
      have hwl : w.heap.size < (w.alloc (.cells #[.int .i64 2, .int .i64 (isV x0), .int .i64 n0, .int .i64 (isV x1), .int .i64 n1, .int .i64 (isV x2), .int .i64 n2, .slice a' slen cap'] 77)).heap.size := BY.out.lt
      have hfn12 : fn ≤ 12 := by have := HFs.out.2; have := HF.out.1; omega
      have hfine := HGd.out.1 (.inr rfl)
      have CFit : Hid (∀ W (t : T3), okT t = true → Kept Nil w W → Calls Try.prog 36 #[.agg #[.int .i64 (isV x0), .int .i64 n0, .int .i64 (isV x1), .int .i64 n1, .int .i64 (isV x2), .int .i64 n2], .agg #[.int .i64 t.1, .int .i64 t.2.1, .int .i64 t.2.2], vb] W fun e w' => ∃ v qs, e = .returned (.tuple #[v, .bool (fitOk (flH ⟨2, x0, x1, x2, n0, n1, n2⟩ t) b)]) ∧ QRow w' B v qs ∧ qs.length ≤ ps.length + 3 ∧ Rep qs (fitB (flH ⟨2, x0, x1, x2, n0, n1, n2⟩ t) b) ∧ Kept Nil W w') := Lib.hid fun W t ht kW => refFitN_any hfine (okT_pos ht) (HQ.out.kept kW) (HW2.out W kW) hps1 HR.out
      have HV3 : Hid (V = if (fs.any fun f => fitOk (flH ⟨2, x0, x1, x2, n0, n1, n2⟩ f.2) b) = true then [] else tmL fs r b ids) := Lib.hid (by
        rw [HV.out, if_neg (show ¬ (2 : Int) = 1 by decide)]
        by_cases hx : (fs.any fun f => fitOk (flH ⟨2, x0, x1, x2, n0, n1, n2⟩ f.2) b) = true
        · rw [if_pos ⟨rfl, hx⟩, if_pos hx]
        · rw [if_neg (fun a => hx a.2), if_neg (fun a => absurd a.1 (show ¬ (2 : Int) = 3 by decide)), if_neg hx])
      clear HV hfine
      go_wp2_with ((with_reducible refine wpList_load_R rfl (.tmp 26) rfl _ _ rfl ⟨2, x0, x1, x2, n0, n1, n2⟩ (.slice a' slen cap') ?_ ?_)
                   · exact HRng.out)
      generalize w.alloc (.cells #[.int .i64 2, .int .i64 (isV x0), .int .i64 n0, .int .i64 (isV x1), .int .i64 n1, .int .i64 (isV x2), .int .i64 n2, .slice a' slen cap'] 77) = w1 at *
      generalize hw0 : w.heap.size = B0 at *
      have HB0 := Lib.hid hw0
      clear hw0
      go_loopw [71] (fun i wr => ∃ j : Nat, j ≤ fn ∧ i = .int .i64 j ∧ (fs.any fun f => fitOk (flH ⟨2, x0, x1, x2, n0, n1, n2⟩ f.2) b) = ((fs.drop j).any fun f => fitOk (flH ⟨2, x0, x1, x2, n0, n1, n2⟩ f.2) b) ∧ Kept Nil w1 wr) (fun i _ => fn - (intOf i).toNat)
      case atStart => exact ⟨0, Nat.zero_le _, rfl, rfl, Kept.refl _ _⟩
      case round =>
        obtain ⟨j, hj, rfl, hch, hK⟩ := hrel
        have HK := Lib.hid hK
        have HCh := Lib.hid hch
        have BR := Lib.hid (BY.out.kept hK (fun e => e))
        have KR := Lib.hid (KY.out.trans hK (fun _ _ e => e))
        clear hK hch
        have c0 := BR.out.cell 0
        have c1 := BR.out.cell 1
        have c2 := BR.out.cell 2
        have c3 := BR.out.cell 3
        have c4 := BR.out.cell 4
        have c5 := BR.out.cell 5
        have c6 := BR.out.cell 6
        have hbr : B0 < wr.heap.size := BR.out.lt
        simp at c0 c1 c2 c3 c4 c5 c6
        by_cases hjn : j < fn
        · obtain ⟨⟨fi, t1, t2, t3⟩, hx⟩ : ∃ x, fs[j]? = some x := ⟨_, List.getElem?_eq_getElem (by have := HF.out.1; omega)⟩
          obtain ⟨bf, of, rfl, hb, hc⟩ := (HF.out.kept KR.out).at_ hx
          have p0 := hc 0 _ rfl
          have p1 := hc 1 _ rfl
          have p2 := hc 2 _ rfl
          have p3 := hc 3 _ rfl
          simp only [Nat.add_zero] at p0 p1 p2 p3
          have hok := HFs.out.1 _ (List.mem_of_getElem? hx)
          have KA := Lib.hid ((Kept.refl Nil wr).alloc (.cells #[.int .i64 fi, .int .i64 t1, .int .i64 t2, .int .i64 t3] 94))
          have CF := Lib.hid (CFit.out _ (t1, t2, t3) hok (KR.out.trans KA.out (fun _ _ e => e)))
          have HN := Lib.hid (any_drop (p := fun f : F4 => fitOk (flH ⟨2, x0, x1, x2, n0, n1, n2⟩ f.2) b) hx)
          simp only at HN CF
          generalize fitOk (flH ⟨2, x0, x1, x2, n0, n1, n2⟩ (t1, t2, t3)) b = q at *
          clear hx hc hok
          go_wp2_with fail
          refine CF.out.mono ?_
          rintro e w2 ⟨v2, qs, rfl, _, _, _, k2⟩
          have K2 := Lib.hid (KA.out.trans k2 (fun _ _ e => e))
          clear k2
          cases q
          · go_wp2_with fail
            go_roundw
            case rel => exact ⟨j + 1, hjn, by go_num, by rw [HCh.out, HN.out]; rfl, HK.out.trans K2.out (fun _ _ e => e)⟩
            case measure => simp [intOf]; omega
          · go_wp2_with fail
            go_ret
            refine ⟨_, rfl, ?_, KR.out.trans K2.out (fun _ _ e => e)⟩
            rw [HV3.out, HCh.out, HN.out, Bool.true_or, if_pos rfl]
            exact LL.nil _ _
        · obtain rfl : j = fn := by omega
          have HE : Hid (((fs.drop j).any fun f => fitOk (flH ⟨2, x0, x1, x2, n0, n1, n2⟩ f.2) b) = false) := Lib.hid (by rw [List.drop_eq_nil_of_le (by rw [HF.out.1]; exact Nat.le_refl _)]; rfl)
          have CT3 := Lib.hid (CT.out wr b ids vb ps (.slice ai il ci) KR.out (HQ.out.kept KR.out) HR.out (by have := HNm.out.1; have := HPA.out.1; omega) (HI.out.keptN KR.out) (by have := HNm.out.2; have := HPA.out.1; have := HIl.out; omega))
          go_wp2_with fail
          refine CT3.out.mono ?_
          rintro e w3 ⟨r3, rfl, hr3, k3⟩
          go_wp2_with fail
          go_ret
          refine ⟨r3, rfl, ?_, KR.out.trans k3 (fun _ _ e => e)⟩
          rw [HV3.out, HCh.out, HE.out, if_neg (by decide)]
          exact hr3.down (by have := KR.out.size; have := HB0.out; omega)
    · replace BY : Hid (Blk (w.alloc (.cells #[.int .i64 3, .int .i64 (isV x0), .int .i64 n0, .int .i64 (isV x1), .int .i64 n1, .int .i64 (isV x2), .int .i64 n2, .slice a' slen cap'] 77)) w.heap.size 77 #[.int .i64 3, .int .i64 (isV x0), .int .i64 n0, .int .i64 (isV x1), .int .i64 n1, .int .i64 (isV x2), .int .i64 n2, .slice a' slen cap']) := BY
      replace KY : Hid (Kept Nil w (w.alloc (.cells #[.int .i64 3, .int .i64 (isV x0), .int .i64 n0, .int .i64 (isV x1), .int .i64 n1, .int .i64 (isV x2), .int .i64 n2, .slice a' slen cap'] 77))) := KY
      have hwl : w.heap.size < (w.alloc (.cells #[.int .i64 3, .int .i64 (isV x0), .int .i64 n0, .int .i64 (isV x1), .int .i64 n1, .int .i64 (isV x2), .int .i64 n2, .slice a' slen cap'] 77)).heap.size := BY.out.lt
      have CS : Hid (∀ W, Kept Nil w W → Calls Try.prog 17 #[.slice fa fn fc, .slice a' slen cap', vb, .slice none 0 0] W fun e w' => ∃ r', e = .returned r' ∧ LL w' W.heap.size r' (tmL fs sb b []) ∧ Kept Nil W w') := Lib.hid fun W kW => by
        have := IHs rfl b [] fa fn fc a' cap' vb ps B (.slice none 0 0) W (HF.out.kept kW) (by show Holds cR W Any2 (.slice a' sb.length cap') sb; rw [HSl.out]; exact HS.out.keptN kW) (HQ.out.kept kW) (HW2.out W kW) HR.out (by have := HNm.out.1; have := HPA.out.1; simp only [Sh.subs]; omega) (Row.nil _ _) (by have := HNm.out.2; have := HPA.out.1; simp only [Sh.subs, List.length_nil]; omega)
        rw [show (Sh.mk ⟨3, x0, x1, x2, n0, n1, n2⟩ sb).subs.length = slen from HSl.out] at this
        exact this
      have HV3 : Hid (V = if (tmL fs sb b []).isEmpty = false then [] else tmL fs r b ids) := Lib.hid (by
        rw [HV.out, if_neg (show ¬ (3 : Int) = 1 by decide), if_neg (fun a => absurd a.1 (show ¬ (3 : Int) = 2 by decide))]
        by_cases hx : (tmL fs sb b []).isEmpty = false
        · rw [if_pos ⟨rfl, hx⟩, if_pos hx]
        · rw [if_neg (fun a => hx a.2), if_neg hx])
      clear HV
      go_wp2_with ((with_reducible refine wpList_load_R rfl (.tmp 26) rfl _ _ rfl ⟨3, x0, x1, x2, n0, n1, n2⟩ (.slice a' slen cap') ?_ ?_)
                   · exact HRng.out)
      refine (CS.out _ KY.out).mono ?_
      rintro e w2 ⟨r2, rfl, hr2, k2⟩
      have K2 := Lib.hid (KY.out.trans k2 (fun _ _ e => e))
      obtain ⟨a2, c2, rfl⟩ := hr2.shape
      generalize hL : tmL fs sb b [] = L2 at *
      clear hL hr2 k2
      rcases L2 with _ | ⟨y, L2⟩
      · have CT3 := Lib.hid (CT.out w2 b ids vb ps (.slice ai il ci) K2.out (HQ.out.kept K2.out) HR.out (by have := HNm.out.1; have := HPA.out.1; omega) (HI.out.keptN K2.out) (by have := HNm.out.2; have := HPA.out.1; have := HIl.out; omega))
        go_wp2_with fail
        refine CT3.out.mono ?_
        rintro e w3 ⟨r3, rfl, hr3, k3⟩
        go_wp2_with fail
        go_ret
        refine ⟨r3, rfl, ?_, K2.out.trans k3 (fun _ _ e => e)⟩
        rw [HV3.out]
        exact hr3.down K2.out.size
      · have hl2 : (y :: L2).length = L2.length + 1 := rfl
        generalize (y :: L2).length = l2 at *
        have hp2 : (0 : Int) < (l2 : Int) := by omega
        have hp2' : decide (0 < l2) = true := decide_eq_true (by omega)
        have HV4 : Hid (V = []) := Lib.hid (by rw [HV3.out]; rfl)
        go_wp2_with fail
        go_ret
        refine ⟨_, rfl, ?_, K2.out⟩
        rw [HV4.out]
        exact LL.nil _ _
/-- The reference's Terms, of any right conditions. -/
theorem terms_all (fs : List F4) (hfs : ∀ f ∈ fs, okT f.2 = true) (hn12 : fs.length ≤ 12) : ∀ l : List Sh, (∀ x ∈ l, x.good) → (fs.length + 1) ^ posAL l ≤ 3000 → TmC fs l := by
  refine (Sh.ind2 (P := fun s => s.good → (fs.length + 1) ^ s.posA ≤ 3000 → TmC fs s.subs) (Q := fun l => (∀ x ∈ l, x.good) → (fs.length + 1) ^ posAL l ≤ 3000 → TmC fs l) (fun hd subs ih hg hc => ?_) (fun _ _ => terms_nil fs) (fun c r hc hr hg hco => ?_)).2
  · exact ih (good_mk.1 hg).2.2 (Nat.le_trans (pow_le_of _ posA_sub) hc)
  · refine terms_cons fs hfs hn12 c r (hg c List.mem_cons_self) hco (fun _ => hc (hg c List.mem_cons_self) (Nat.le_trans (pow_le_of _ (by rw [posAL_cons]; omega)) hco)) (hr (fun x hx => hg x (List.mem_cons_of_mem _ hx)) (Nat.le_trans (pow_le_of _ (by rw [posAL_cons]; omega)) hco))
end
end Go.Proofs.Ytiihjlafhiaigaa
