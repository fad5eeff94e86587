/- Layer term: the reference's Fit. -/
import Derived.Test.YtefojaeinhgeiaaUGet
import Derived.Test.YtefojaeinhgeiaaUFit
import Derived.Deep.RegionHeld3
namespace Go.Proofs.Ytefojaeinhgeiaa
open Go.RowKit

/-- What stands in memory while the reference's Fit goes on. -/
structure RF (w : World) (rc tc : Array Value) (W : World) : Prop where
  kept : Kept Nil w W
  b0 : Blk W w.heap.size 43 rc
  b1 : Blk W (w.heap.size + 1) 47 tc
theorem RF.step {w : World} {rc tc : Array Value} {W W' : World} (h : RF w rc tc W) (k : Kept Nil W W') : RF w rc tc W' := ⟨h.kept.trans k (fun _ _ g => g), h.b0.kept k id, h.b1.kept k id⟩
theorem RF.start (w : World) (rc tc : Array Value) : RF w rc tc ((w.alloc (.cells rc 43)).alloc (.cells tc 47)) := by
  refine ⟨((Kept.refl Nil w).alloc _).alloc _, (Blk.new w _ _).alloc _, ?_⟩
  have := Blk.new (w.alloc (.cells rc 43)) 47 tc
  simpa using this
/-- .. behind an append onto a row that lies behind them. -/
theorem RF.grown {w : World} {rc tc : Array Value} {W W' : World} {v : Value} (h : RF w rc tc W) (g : W.grownBy W' v.ownBlock) (ho : ∀ k, v.ownBlock = some k → w.heap.size + 1 + 1 ≤ k) : RF w rc tc W' := by
  have k : Kept (fun i => w.heap.size + 1 + 1 ≤ i) W W' := (Kept.refl _ _).grown g (fun i hi => .inl (ho i hi))
  exact ⟨h.kept.trans k (fun i hi e => absurd e (by omega)), h.b0.kept k (by omega), h.b1.kept k (by omega)⟩

abbrev refC (x0 x1 x2 : Bool) (n0 n1 n2 : Int) : Array Value := #[.int .i64 (isV x0), .int .i64 n0, .int .i64 (isV x1), .int .i64 n1, .int .i64 (isV x2), .int .i64 n2]
abbrev triC (t0 t1 t2 : Int) : Array Value := #[.int .i64 t0, .int .i64 t1, .int .i64 t2]
theorem fieldsR {x0 x1 x2 : Bool} {n0 n1 n2 t0 t1 t2 : Int} (hf : fine x0 x1 x2 n0 n1 n2 = true) (ht : 1 ≤ t0 ∧ 1 ≤ t1 ∧ 1 ≤ t2) {k : Nat} (hk : k < 3) : ∃ v n s, (fl x0 x1 x2 n0 n1 n2 t0 t1 t2)[k]? = some ((v, n), s) ∧
    (refC x0 x1 x2 n0 n1 n2)[k * 2]? = some (.int .i64 (isV v)) ∧ (refC x0 x1 x2 n0 n1 n2)[k * 2 + 1]? = some (.int .i64 n) ∧ (triC t0 t1 t2)[k]? = some (.int .i64 s) ∧ okTm v n = true ∧ 1 ≤ s := by
  unfold fine at hf
  simp only [Bool.and_eq_true] at hf
  have : k = 0 ∨ k = 1 ∨ k = 2 := by omega
  rcases this with rfl | rfl | rfl
  · exact ⟨x0, n0, t0, rfl, rfl, rfl, rfl, hf.1.1, ht.1⟩
  · exact ⟨x1, n1, t1, rfl, rfl, rfl, rfl, hf.1.2, ht.2.1⟩
  · exact ⟨x2, n2, t2, rfl, rfl, rfl, rfl, hf.2, ht.2.2⟩

/-- The answer: a list that says what the binding then says, and whether they fit. -/
def RefFitEnd (l : List (Tm × Int)) (b : Bd) (B : Nat) (w : World) (e : Ending) (w' : World) : Prop :=
  ∃ v qs, e = .returned (.tuple #[v, .bool (fitOk l b)]) ∧ QRow w' B v qs ∧ qs.length ≤ 60 ∧ Rep qs (fitB l b) ∧ Kept Nil w w'
theorem refFitEnd_none {l : List (Tm × Int)} {b : Bd} {B : Nat} {w w' : World} {v : Value} {qs : List P2} (h : runL l b = none) (hp : QRow w' B v qs) (hl : qs.length ≤ 60) (hr : Rep qs b) (k : Kept Nil w w') : RefFitEnd l b B w (.returned (.tuple #[v, .bool false])) w' :=
  ⟨v, qs, by rw [(fit_none h).2], hp, hl, by rw [(fit_none h).1]; exact hr, k⟩
theorem refFitEnd_some {l : List (Tm × Int)} {b g : Bd} {B : Nat} {w w' : World} {v : Value} {qs : List P2} (h : runL l b = some g) (hp : QRow w' B v qs) (hl : qs.length ≤ 60) (hr : Rep qs g) (k : Kept Nil w w') : RefFitEnd l b B w (.returned (.tuple #[v, .bool true])) w' :=
  ⟨v, qs, by rw [(fit_some h).2], hp, hl, by rw [(fit_some h).1]; exact hr, k⟩

theorem QRow.own_lt {w : World} {B : Nat} {v : Value} {ps : List P2} (h : QRow w B v ps) : ∀ k, v.ownBlock = some k → k < w.heap.size := by
  intro k hk
  rcases h.2 with ⟨e, _⟩ | ⟨g, cap, cur, e, _, hg, _⟩
  · rw [e] at hk; cases hk
  · rw [e] at hk; cases hk; exact (Array.getElem?_eq_some_iff.1 hg).1
theorem RF.keptF {w : World} {rc tc : Array Value} {W W' : World} {N : Nat} (h : RF w rc tc W) (k : Kept (fun i => w.heap.size + 1 + 1 ≤ i ∧ i < N) W W') : RF w rc tc W' :=
  ⟨h.kept.trans k (fun i hi e => absurd e.1 (by omega)), h.b0.kept k (by omega), h.b1.kept k (by omega)⟩

set_option maxHeartbeats 2000000 in
theorem refFit_any {x0 x1 x2 : Bool} {n0 n1 n2 t0 t1 t2 : Int} (hf : fine x0 x1 x2 n0 n1 n2 = true) (ht : 1 ≤ t0 ∧ 1 ≤ t1 ∧ 1 ≤ t2) {w : World} {B : Nat} {vb : Value} {ps : List P2} {b : Bd} (h : QRow w B vb ps) (hB : B ≤ w.heap.size) (hl : ps.length ≤ 33) (hr : Rep ps b) :
    Calls Try.prog 12 #[valR (isV x0) (isV x1) (isV x2) n0 n1 n2, .agg #[.int .i64 t0, .int .i64 t1, .int .i64 t2], vb] w (RefFitEnd (fl x0 x1 x2 n0 n1 n2 t0 t1 t2) b B w) := by
  have S0 := Lib.hid (RF.start w (refC x0 x1 x2 n0 n1 n2) (triC t0 t1 t2))
  have H0 := Lib.hid h
  have HOwn := Lib.hid h.own_lt
  have HL0 := Lib.hid hl
  have HRep := Lib.hid hr
  have HFine := Lib.hid hf
  have HT := Lib.hid ht
  have HB := Lib.hid hB
  have R1 := Lib.hid (appendQ_all ((w.alloc (.cells (refC x0 x1 x2 n0 n1 n2) 43)).alloc (.cells (triC t0 t1 t2) 47)) (h.kept (((Kept.refl Nil w).alloc _).alloc _)) (by omega))
  clear h hl hr hf ht hB
  obtain ⟨v1, w1, r1, o1, k1⟩ := R1.out
  have RR := Lib.hid r1
  have O1 : Hid (QRow w1 (w.heap.size + 1 + 1) v1 ps) := Lib.hid (by simpa using o1)
  have K1 := Lib.hid k1
  clear r1 o1 k1 R1
  go_enter Try.func12, Try.ntmps12
  go_wp2_with (at_builtin; refine wpList_append_run rfl (.tmp 12) (.tmp 13) 33 rfl _ _ rfl rfl RR.out ?_)
  go_loopw [8, 9] (fun v i wr => ∃ (k : Nat) (g : Bd) (qs : List P2), k ≤ 3 ∧ i = .int .i64 k ∧ runL ((fl x0 x1 x2 n0 n1 n2 t0 t1 t2).take k) b = some g ∧ Rep qs g ∧ QRow wr (w.heap.size + 1 + 1) v qs ∧ qs.length ≤ 33 + k ∧ RF w (refC x0 x1 x2 n0 n1 n2) (triC t0 t1 t2) wr ∧ QRow wr B vb ps) (fun _ i _ => 3 - (intOf i).toNat)
  case atStart => exact ⟨0, b, ps, by omega, rfl, rfl, HRep.out, O1.out, by have := HL0.out; omega, S0.out.step K1.out, (H0.out.kept (((Kept.refl Nil w).alloc _).alloc _)).kept K1.out⟩
  case round =>
    obtain ⟨k, g, qs, hk, rfl, hg, hrep, hrow, hlen, hF, hV⟩ := hrel
    have HG := Lib.hid hg
    have HF := Lib.hid hF
    have HR := Lib.hid hrow
    have HQ := Lib.hid hrep
    have HV := Lib.hid hV
    clear hg hF hrow hrep hV S0 H0 K1 O1 RR
    by_cases hlt : k < 3
    · obtain ⟨v, n, s, hget, hc0, hc1, hct, hok, hs1⟩ := fieldsR HFine.out HT.out hlt
      have c0 : wr.cell? ⟨w.heap.size, k * 2, none⟩ = some (.int .i64 (isV v)) := by rw [HF.out.b0.cell]; exact hc0
      have c1 : wr.cell? ⟨w.heap.size, k * 2 + 1, none⟩ = some (.int .i64 n) := by rw [HF.out.b0.cell]; exact hc1
      have ct : wr.cell? ⟨w.heap.size + 1, k, none⟩ = some (.int .i64 s) := by rw [HF.out.b1.cell]; exact hct
      have hl0 := HF.out.b0.lt
      have hl1 := HF.out.b1.lt
      have HGet := Lib.hid hget
      have HO := Lib.hid hok
      clear hget hc0 hc1 hct
      cases v
      · clear hok
        replace c0 : wr.cell? ⟨w.heap.size, k * 2, none⟩ = some (.int .i64 0) := c0
        by_cases es : n = s
        · subst es
          go_wp2_with fail
          go_quiet (fail)
          go_wp2_with fail
          go_roundw
          case rel =>
            have K2 : Kept Nil wr ((wr.alloc (.cells #[.int .i64 0, .int .i64 n] 42)).drewN nq) := ((Kept.refl _ _).alloc _).drewN _
            exact ⟨k + 1, g, qs, by omega, by go_num, (runL_take HG.out HGet.out).trans (step1_sym HO.out rfl), HQ.out, HR.out.kept K2, by omega, HF.out.step K2, HV.out.kept K2⟩
          case measure => simp [intOf]; omega
        · have hn : (n != s) = true := bne_iff_ne.2 es
          have HE := Lib.hid es
          clear es
          go_wp2_with fail
          go_quiet (fail)
          go_wp2_with fail
          go_ret2
          have K2 : Kept Nil wr ((wr.alloc (.cells #[.int .i64 0, .int .i64 n] 42)).drewN nq) := ((Kept.refl _ _).alloc _).drewN _
          exact refFitEnd_none (runL_fail HG.out HGet.out (step1_sym_no HO.out HE.out)) (HV.out.kept K2) (by have := HL0.out; omega) HRep.out (HF.out.step K2).kept
      · obtain ⟨l, u⟩ := okTm_var.1 hok
        clear hok
        obtain ⟨m, rfl⟩ : ∃ m : Nat, n = (m : Int) := ⟨n.toNat, by omega⟩
        have l' : 1 ≤ m := by omega
        have u' : m < 33 := by omega
        clear l u
        replace c0 : wr.cell? ⟨w.heap.size, k * 2, none⟩ = some (.int .i64 1) := c0
        obtain ⟨q, hq⟩ : ∃ q, q = g m := ⟨_, rfl⟩
        have CG : Hid (∀ W, Kept Nil wr W → Calls Try.prog 21 #[u8, .int .i64 m] W fun e w' => e = .returned (.int .i64 q) ∧ Kept Nil W w') := Lib.hid fun W k2 => by
          have := get_any (HR.out.kept k2) (by omega) (m : Int)
          rw [HQ.out.2 m l' u', ← hq] at this
          exact this
        have HQe := Lib.hid hq
        clear hq
        by_cases e0 : q = 0
        · subst e0
          go_wp2_with fail
          refine (CG.out _ ((Kept.refl _ _).alloc _)).mono ?_
          rintro e w2 ⟨rfl, k2⟩
          have K2 : Hid (Kept Nil wr w2) := Lib.hid (((Kept.refl _ _).alloc _).trans k2 (fun _ _ g => g))
          have X2 := Lib.hid ((Blk.new wr 42 #[.int .i64 1, .int .i64 m]).kept k2 id)
          have F2 := Lib.hid (HF.out.step K2.out)
          have x0 : w2.cell? ⟨wr.heap.size, 0, none⟩ = some (.int .i64 1) := X2.out.cell 0
          have x1 : w2.cell? ⟨wr.heap.size, 1, none⟩ = some (.int .i64 m) := X2.out.cell 1
          have ct2 : w2.cell? ⟨w.heap.size + 1, k, none⟩ = some (.int .i64 s) := by rw [F2.out.b1.cell, ← HF.out.b1.cell]; exact ct
          have hx2 := X2.out.lt
          have hl2 := F2.out.b1.lt
          have HCt := Lib.hid ct
          clear ct k2 c0 c1 hl0 hl1
          have R2 := Lib.hid (appendQ_one w2.drew ((HR.out.kept K2.out).kept (Kept.refl Nil w2).drew) (by have := F2.out.kept.size; have := hl2; show _ ≤ w2.heap.size; omega) (by omega) m s)
          obtain ⟨v2, w3, r2, o2, g2⟩ := R2.out
          have RR2 := Lib.hid r2
          have O2 := Lib.hid o2
          have G2 := Lib.hid g2
          have k3 : Kept (fun i => w.heap.size + 1 + 1 ≤ i ∧ i < wr.heap.size) w2 w3 := (((Kept.refl _ w2).drew).alloc _).grown g2 (fun i hi => .inl ⟨HR.out.own i hi, HR.out.own_lt i hi⟩)
          have F3 := Lib.hid (F2.out.keptF k3)
          have SS : Hid (w3.cell? ⟨wr.heap.size, 1, none⟩ = some (.int .i64 m) ∧ w3.cell? ⟨w.heap.size + 1, k, none⟩ = some (.int .i64 s)) := Lib.hid ⟨(X2.out.kept k3 (by omega)).cell 1, by rw [F3.out.b1.cell, ← HF.out.b1.cell]; exact HCt.out⟩
          have K3 := Lib.hid k3
          clear r2 o2 g2 R2 k3
          go_wp2_with fail
          go_region_held3 (fun w' => w'.cell? ⟨wr.heap.size, 1, none⟩ = some (.int .i64 m) ∧ w'.cell? ⟨w.heap.size + 1, k, none⟩ = some (.int .i64 s)) (first | (go_keep; done) | exact SS.out) ((refine step_append_run (by rfl) _ _ _ (by rfl) _ _ (by rfl) (by rfl) RR2.out ?_))
          go_wp2_with fail
          go_roundw
          case rel => exact ⟨k + 1, upd g m s, qs ++ [((m : Int), s)], by omega, by go_num, (runL_take HG.out HGet.out).trans (step1_new HO.out HQe.out.symm), HQ.out.snoc HQe.out.symm l' u' (by omega), O2.out, by rw [List.length_append]; show _ + 1 ≤ _; omega, F3.out, Kept.row K3.out (HV.out.kept K2.out) (fun i hi e => absurd e.1 (by have := HOwn.out i hi; omega))⟩
          case measure => simp [intOf]; omega
        · have e1 : (q == 0) = false := by simpa using e0
          have HE := Lib.hid e0
          clear e0
          by_cases es : q = s
          · subst es
            go_wp2_with fail
            refine (CG.out _ ((Kept.refl _ _).alloc _)).mono ?_
            rintro e w2 ⟨rfl, k2⟩
            have K2 : Hid (Kept Nil wr w2) := Lib.hid (((Kept.refl _ _).alloc _).trans k2 (fun _ _ g => g))
            have F2 := Lib.hid (HF.out.step K2.out)
            have ct2 : w2.cell? ⟨w.heap.size + 1, k, none⟩ = some (.int .i64 q) := by rw [F2.out.b1.cell, ← HF.out.b1.cell]; exact ct
            clear ct k2 c0 c1 hl0 hl1
            go_wp2_with fail
            go_roundw
            case rel => exact ⟨k + 1, g, qs, by omega, by go_num, (runL_take HG.out HGet.out).trans (step1_old HO.out (HQe.out ▸ HE.out) HQe.out.symm), HQ.out, HR.out.kept K2.out, by omega, F2.out, HV.out.kept K2.out⟩
            case measure => simp [intOf]; omega
          · have hn : (q != s) = true := bne_iff_ne.2 es
            have HN := Lib.hid es
            clear es
            go_wp2_with fail
            refine (CG.out _ ((Kept.refl _ _).alloc _)).mono ?_
            rintro e w2 ⟨rfl, k2⟩
            have K2 : Hid (Kept Nil wr w2) := Lib.hid (((Kept.refl _ _).alloc _).trans k2 (fun _ _ g => g))
            have F2 := Lib.hid (HF.out.step K2.out)
            have ct2 : w2.cell? ⟨w.heap.size + 1, k, none⟩ = some (.int .i64 s) := by rw [F2.out.b1.cell, ← HF.out.b1.cell]; exact ct
            clear ct k2 c0 c1 hl0 hl1
            go_wp2_with fail
            go_ret2
            exact refFitEnd_none (runL_fail HG.out HGet.out (step1_old_no HO.out (HQe.out ▸ HE.out) (HQe.out ▸ HN.out))) (HV.out.kept K2.out) (by have := HL0.out; omega) HRep.out F2.out.kept
    · have hk3 : k = 3 := by omega
      subst hk3
      go_wp2_with fail
      go_ret2
      exact refFitEnd_some HG.out (HR.out.less (by have := HB.out; omega)) (by omega) HQ.out HF.out.kept
end Go.Proofs.Ytefojaeinhgeiaa
