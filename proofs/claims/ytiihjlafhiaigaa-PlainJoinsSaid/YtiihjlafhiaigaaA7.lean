/- Layer term: the reference's Fit. – Plain mathematics of fitting: what stood stays; what fits is put; what has fitted fits again. No program. – Layer term: the contract of the reference's Right of layer triple. – Layer test, plain mathematics: what it means that a triple meets a step; that it does just if the condition's terms fit it with what the chain's triples have bound. No program. -/
import Derived.Test.YtiihjlafhiaigaaA6
import Derived.Deep.RegionHeld3
import Derived.Test.YtiihjlafhiaigaaA1
namespace Go.Proofs.Ytiihjlafhiaigaa
section
open Go.RowKit

/-- What stands in memory while the reference's Fit goes on. -/
structure RF (w : World) (rc tc : Array Value) (W : World) : Prop where
  kept : Kept Nil w W
  b0 : Blk W w.heap.size 75 rc
  b1 : Blk W (w.heap.size + 1) 51 tc
theorem RF.step {w : World} {rc tc : Array Value} {W W' : World} (h : RF w rc tc W) (k : Kept Nil W W') : RF w rc tc W' := ⟨h.kept.trans k (fun _ _ g => g), h.b0.kept k id, h.b1.kept k id⟩
theorem RF.start (w : World) (rc tc : Array Value) : RF w rc tc ((w.alloc (.cells rc 75)).alloc (.cells tc 51)) := by
  refine ⟨((Kept.refl Nil w).alloc _).alloc _, (Blk.new w _ _).alloc _, ?_⟩
  have := Blk.new (w.alloc (.cells rc 75)) 51 tc
  simpa using this
/-- .. behind an append onto a row that lies behind them. -/
theorem RF.grown {w : World} {rc tc : Array Value} {W W' : World} {v : Value} (h : RF w rc tc W) (g : W.grownBy W' v.ownBlock) (ho : ∀ k, v.ownBlock = some k → w.heap.size + 1 + 1 ≤ k) : RF w rc tc W' := by
  have k : Kept (fun i => w.heap.size + 1 + 1 ≤ i) W W' := (Kept.refl _ _).grown g (fun i hi => .inl (ho i hi))
  exact ⟨h.kept.trans k (fun i hi e => absurd e (by omega)), h.b0.kept k (by omega), h.b1.kept k (by omega)⟩

abbrev refC (x0 x1 x2 : Bool) (n0 n1 n2 : Int) : Array Value := #[.int .i64 (isV x0), .int .i64 n0, .int .i64 (isV x1), .int .i64 n1, .int .i64 (isV x2), .int .i64 n2]
abbrev triC (t0 t1 t2 : Int) : Array Value := #[.int .i64 t0, .int .i64 t1, .int .i64 t2]
theorem fieldsR {x0 x1 x2 : Bool} {n0 n1 n2 t0 t1 t2 : Int} (hf : fine x0 x1 x2 n0 n1 n2 = true) (ht : 1 ≤ t0 ∧ 1 ≤ t1 ∧ 1 ≤ t2) {k : Nat} (hk : k < 3) : ∃ v n s, (fl x0 x1 x2 n0 n1 n2 t0 t1 t2)[k]? = some ((v, n), s) ∧
    (refC x0 x1 x2 n0 n1 n2)[k * 2]? = some (.int .i64 (isV v)) ∧ (refC x0 x1 x2 n0 n1 n2)[k * 2 + 1]? = some (.int .i64 n) ∧ (triC t0 t1 t2)[k]? = some (.int .i64 s) ∧ okTm v n = true ∧ 1 ≤ s := by
  unfold fine at hf
  simp only [Bool.and_eq_true] at hf
  have : k = 0 ∨ k = 1 ∨ k = 2 := by omega
  rcases this with rfl | rfl | rfl
  · exact ⟨x0, n0, t0, rfl, rfl, rfl, rfl, hf.1.1, ht.1⟩
  · exact ⟨x1, n1, t1, rfl, rfl, rfl, rfl, hf.1.2, ht.2.1⟩
  · exact ⟨x2, n2, t2, rfl, rfl, rfl, rfl, hf.2, ht.2.2⟩

/-- The answer: a list that says what the binding then says, and whether they fit. -/
def RefFitEnd (l : List (Tm × Int)) (b : Bd) (B : Nat) (w : World) (e : Ending) (w' : World) : Prop :=
  ∃ v qs, e = .returned (.tuple #[v, .bool (fitOk l b)]) ∧ QRow w' B v qs ∧ qs.length ≤ 60 ∧ Rep qs (fitB l b) ∧ Kept Nil w w'
theorem refFitEnd_none {l : List (Tm × Int)} {b : Bd} {B : Nat} {w w' : World} {v : Value} {qs : List P2} (h : runL l b = none) (hp : QRow w' B v qs) (hl : qs.length ≤ 60) (hr : Rep qs b) (k : Kept Nil w w') : RefFitEnd l b B w (.returned (.tuple #[v, .bool false])) w' :=
  ⟨v, qs, by rw [(fit_none h).2], hp, hl, by rw [(fit_none h).1]; exact hr, k⟩
theorem refFitEnd_some {l : List (Tm × Int)} {b g : Bd} {B : Nat} {w w' : World} {v : Value} {qs : List P2} (h : runL l b = some g) (hp : QRow w' B v qs) (hl : qs.length ≤ 60) (hr : Rep qs g) (k : Kept Nil w w') : RefFitEnd l b B w (.returned (.tuple #[v, .bool true])) w' :=
  ⟨v, qs, by rw [(fit_some h).2], hp, hl, by rw [(fit_some h).1]; exact hr, k⟩

theorem QRow.own_lt {w : World} {B : Nat} {v : Value} {ps : List P2} (h : QRow w B v ps) : ∀ k, v.ownBlock = some k → k < w.heap.size := by
  intro k hk
  rcases h.2 with ⟨e, _⟩ | ⟨g, cap, cur, e, _, hg, _⟩
  · rw [e] at hk; cases hk
  · rw [e] at hk; cases hk; exact (Array.getElem?_eq_some_iff.1 hg).1
theorem RF.keptF {w : World} {rc tc : Array Value} {W W' : World} {N : Nat} (h : RF w rc tc W) (k : Kept (fun i => w.heap.size + 1 + 1 ≤ i ∧ i < N) W W') : RF w rc tc W' :=
  ⟨h.kept.trans k (fun i hi e => absurd e.1 (by omega)), h.b0.kept k (by omega), h.b1.kept k (by omega)⟩

set_option maxHeartbeats 2000000 in
theorem refFit_any {x0 x1 x2 : Bool} {n0 n1 n2 t0 t1 t2 : Int} (hf : fine x0 x1 x2 n0 n1 n2 = true) (ht : 1 ≤ t0 ∧ 1 ≤ t1 ∧ 1 ≤ t2) {w : World} {B : Nat} {vb : Value} {ps : List P2} {b : Bd} (h : QRow w B vb ps) (hB : B ≤ w.heap.size) (hl : ps.length ≤ 33) (hr : Rep ps b) :
    Calls Try.prog 36 #[valR (isV x0) (isV x1) (isV x2) n0 n1 n2, .agg #[.int .i64 t0, .int .i64 t1, .int .i64 t2], vb] w (RefFitEnd (fl x0 x1 x2 n0 n1 n2 t0 t1 t2) b B w) := by
  have S0 := Lib.hid (RF.start w (refC x0 x1 x2 n0 n1 n2) (triC t0 t1 t2))
  have H0 := Lib.hid h
  have HOwn := Lib.hid h.own_lt
  have HL0 := Lib.hid hl
  have HRep := Lib.hid hr
  have HFine := Lib.hid hf
  have HT := Lib.hid ht
  have HB := Lib.hid hB
  have R1 := Lib.hid (appendQ_all ((w.alloc (.cells (refC x0 x1 x2 n0 n1 n2) 75)).alloc (.cells (triC t0 t1 t2) 51)) (h.kept (((Kept.refl Nil w).alloc _).alloc _)) (by omega))
  clear h hl hr hf ht hB
  obtain ⟨v1, w1, r1, o1, k1⟩ := R1.out
  have RR := Lib.hid r1
  have O1 : Hid (QRow w1 (w.heap.size + 1 + 1) v1 ps) := Lib.hid (by simpa using o1)
  have K1 := Lib.hid k1
  clear r1 o1 k1 R1
  go_enter Try.func36, Try.ntmps36
  go_wp2_with (at_builtin; refine wpList_append_run rfl (.tmp 12) (.tmp 13) 92 rfl _ _ rfl rfl RR.out ?_)
  go_loopw [8, 9] (fun v i wr => ∃ (k : Nat) (g : Bd) (qs : List P2), k ≤ 3 ∧ i = .int .i64 k ∧ runL ((fl x0 x1 x2 n0 n1 n2 t0 t1 t2).take k) b = some g ∧ Rep qs g ∧ QRow wr (w.heap.size + 1 + 1) v qs ∧ qs.length ≤ 33 + k ∧ RF w (refC x0 x1 x2 n0 n1 n2) (triC t0 t1 t2) wr ∧ QRow wr B vb ps) (fun _ i _ => 3 - (intOf i).toNat)
  case atStart => exact ⟨0, b, ps, by omega, rfl, rfl, HRep.out, O1.out, by have := HL0.out; omega, S0.out.step K1.out, (H0.out.kept (((Kept.refl Nil w).alloc _).alloc _)).kept K1.out⟩
  case round =>
    obtain ⟨k, g, qs, hk, rfl, hg, hrep, hrow, hlen, hF, hV⟩ := hrel
    have HG := Lib.hid hg
    have HF := Lib.hid hF
    have HR := Lib.hid hrow
    have HQ := Lib.hid hrep
    have HV := Lib.hid hV
    clear hg hF hrow hrep hV S0 H0 K1 O1 RR
    by_cases hlt : k < 3
    · obtain ⟨v, n, s, hget, hc0, hc1, hct, hok, hs1⟩ := fieldsR HFine.out HT.out hlt
      have c0 : wr.cell? ⟨w.heap.size, k * 2, none⟩ = some (.int .i64 (isV v)) := by rw [HF.out.b0.cell]; exact hc0
      have c1 : wr.cell? ⟨w.heap.size, k * 2 + 1, none⟩ = some (.int .i64 n) := by rw [HF.out.b0.cell]; exact hc1
      have ct : wr.cell? ⟨w.heap.size + 1, k, none⟩ = some (.int .i64 s) := by rw [HF.out.b1.cell]; exact hct
      have hl0 := HF.out.b0.lt
      have hl1 := HF.out.b1.lt
      have HGet := Lib.hid hget
      have HO := Lib.hid hok
      clear hget hc0 hc1 hct
      cases v
      · clear hok
        replace c0 : wr.cell? ⟨w.heap.size, k * 2, none⟩ = some (.int .i64 0) := c0
        by_cases es : n = s
        · subst es
          go_wp2_with fail
          go_quiet (fail)
          go_wp2_with fail
          go_roundw
          case rel =>
            have K2 : Kept Nil wr ((wr.alloc (.cells #[.int .i64 0, .int .i64 n] 74)).drewN nq) := ((Kept.refl _ _).alloc _).drewN _
            exact ⟨k + 1, g, qs, by omega, by go_num, (runL_take HG.out HGet.out).trans (step1_sym HO.out rfl), HQ.out, HR.out.kept K2, by omega, HF.out.step K2, HV.out.kept K2⟩
          case measure => simp [intOf]; omega
        · have hn : (n != s) = true := bne_iff_ne.2 es
          have HE := Lib.hid es
          clear es
          go_wp2_with fail
          go_quiet (fail)
          go_wp2_with fail
          go_ret2
          have K2 : Kept Nil wr ((wr.alloc (.cells #[.int .i64 0, .int .i64 n] 74)).drewN nq) := ((Kept.refl _ _).alloc _).drewN _
          exact refFitEnd_none (runL_fail HG.out HGet.out (step1_sym_no HO.out HE.out)) (HV.out.kept K2) (by have := HL0.out; omega) HRep.out (HF.out.step K2).kept
      · obtain ⟨l, u⟩ := okTm_var.1 hok
        clear hok
        obtain ⟨m, rfl⟩ : ∃ m : Nat, n = (m : Int) := ⟨n.toNat, by omega⟩
        have l' : 1 ≤ m := by omega
        have u' : m < 33 := by omega
        clear l u
        replace c0 : wr.cell? ⟨w.heap.size, k * 2, none⟩ = some (.int .i64 1) := c0
        obtain ⟨q, hq⟩ : ∃ q, q = g m := ⟨_, rfl⟩
        have CG : Hid (∀ W, Kept Nil wr W → Calls Try.prog 57 #[u8, .int .i64 m] W fun e w' => e = .returned (.int .i64 q) ∧ Kept Nil W w') := Lib.hid fun W k2 => by
          have := get_any (HR.out.kept k2) (by omega) (m : Int)
          rw [HQ.out.2 m l' u', ← hq] at this
          exact this
        have HQe := Lib.hid hq
        clear hq
        by_cases e0 : q = 0
        · subst e0
          go_wp2_with fail
          refine (CG.out _ ((Kept.refl _ _).alloc _)).mono ?_
          rintro e w2 ⟨rfl, k2⟩
          have K2 : Hid (Kept Nil wr w2) := Lib.hid (((Kept.refl _ _).alloc _).trans k2 (fun _ _ g => g))
          have X2 := Lib.hid ((Blk.new wr 74 #[.int .i64 1, .int .i64 m]).kept k2 id)
          have F2 := Lib.hid (HF.out.step K2.out)
          have x0 : w2.cell? ⟨wr.heap.size, 0, none⟩ = some (.int .i64 1) := X2.out.cell 0
          have x1 : w2.cell? ⟨wr.heap.size, 1, none⟩ = some (.int .i64 m) := X2.out.cell 1
          have ct2 : w2.cell? ⟨w.heap.size + 1, k, none⟩ = some (.int .i64 s) := by rw [F2.out.b1.cell, ← HF.out.b1.cell]; exact ct
          have hx2 := X2.out.lt
          have hl2 := F2.out.b1.lt
          have HCt := Lib.hid ct
          clear ct k2 c0 c1 hl0 hl1
          have R2 := Lib.hid (appendQ_one w2.drew ((HR.out.kept K2.out).kept (Kept.refl Nil w2).drew) (by have := F2.out.kept.size; have := hl2; show _ ≤ w2.heap.size; omega) (by omega) m s)
          obtain ⟨v2, w3, r2, o2, g2⟩ := R2.out
          have RR2 := Lib.hid r2
          have O2 := Lib.hid o2
          have G2 := Lib.hid g2
          have k3 : Kept (fun i => w.heap.size + 1 + 1 ≤ i ∧ i < wr.heap.size) w2 w3 := (((Kept.refl _ w2).drew).alloc _).grown g2 (fun i hi => .inl ⟨HR.out.own i hi, HR.out.own_lt i hi⟩)
          have F3 := Lib.hid (F2.out.keptF k3)
          have SS : Hid (w3.cell? ⟨wr.heap.size, 1, none⟩ = some (.int .i64 m) ∧ w3.cell? ⟨w.heap.size + 1, k, none⟩ = some (.int .i64 s)) := Lib.hid ⟨(X2.out.kept k3 (by omega)).cell 1, by rw [F3.out.b1.cell, ← HF.out.b1.cell]; exact HCt.out⟩
          have K3 := Lib.hid k3
          clear r2 o2 g2 R2 k3
          go_wp2_with fail
          go_region_held3 (fun w' => w'.cell? ⟨wr.heap.size, 1, none⟩ = some (.int .i64 m) ∧ w'.cell? ⟨w.heap.size + 1, k, none⟩ = some (.int .i64 s)) (first | (go_keep; done) | exact SS.out) ((refine step_append_run (by rfl) _ _ _ (by rfl) _ _ (by rfl) (by rfl) RR2.out ?_))
          go_wp2_with fail
          go_roundw
          case rel => exact ⟨k + 1, upd g m s, qs ++ [((m : Int), s)], by omega, by go_num, (runL_take HG.out HGet.out).trans (step1_new HO.out HQe.out.symm), HQ.out.snoc HQe.out.symm l' u' (by omega), O2.out, by rw [List.length_append]; show _ + 1 ≤ _; omega, F3.out, Kept.row K3.out (HV.out.kept K2.out) (fun i hi e => absurd e.1 (by have := HOwn.out i hi; omega))⟩
          case measure => simp [intOf]; omega
        · have e1 : (q == 0) = false := by simpa using e0
          have HE := Lib.hid e0
          clear e0
          by_cases es : q = s
          · subst es
            go_wp2_with fail
            refine (CG.out _ ((Kept.refl _ _).alloc _)).mono ?_
            rintro e w2 ⟨rfl, k2⟩
            have K2 : Hid (Kept Nil wr w2) := Lib.hid (((Kept.refl _ _).alloc _).trans k2 (fun _ _ g => g))
            have F2 := Lib.hid (HF.out.step K2.out)
            have ct2 : w2.cell? ⟨w.heap.size + 1, k, none⟩ = some (.int .i64 q) := by rw [F2.out.b1.cell, ← HF.out.b1.cell]; exact ct
            clear ct k2 c0 c1 hl0 hl1
            go_wp2_with fail
            go_roundw
            case rel => exact ⟨k + 1, g, qs, by omega, by go_num, (runL_take HG.out HGet.out).trans (step1_old HO.out (HQe.out ▸ HE.out) HQe.out.symm), HQ.out, HR.out.kept K2.out, by omega, F2.out, HV.out.kept K2.out⟩
            case measure => simp [intOf]; omega
          · have hn : (q != s) = true := bne_iff_ne.2 es
            have HN := Lib.hid es
            clear es
            go_wp2_with fail
            refine (CG.out _ ((Kept.refl _ _).alloc _)).mono ?_
            rintro e w2 ⟨rfl, k2⟩
            have K2 : Hid (Kept Nil wr w2) := Lib.hid (((Kept.refl _ _).alloc _).trans k2 (fun _ _ g => g))
            have F2 := Lib.hid (HF.out.step K2.out)
            have ct2 : w2.cell? ⟨w.heap.size + 1, k, none⟩ = some (.int .i64 s) := by rw [F2.out.b1.cell, ← HF.out.b1.cell]; exact ct
            clear ct k2 c0 c1 hl0 hl1
            go_wp2_with fail
            go_ret2
            exact refFitEnd_none (runL_fail HG.out HGet.out (step1_old_no HO.out (HQe.out ▸ HE.out) (HQe.out ▸ HN.out))) (HV.out.kept K2.out) (by have := HL0.out; omega) HRep.out F2.out.kept
    · have hk3 : k = 3 := by omega
      subst hk3
      go_wp2_with fail
      go_ret2
      exact refFitEnd_some HG.out (HR.out.less (by have := HB.out; omega)) (by omega) HQ.out HF.out.kept
end
section
open Go.RowKit

/-- What stood for something stands for it still. -/
def Ext (b g : Bd) : Prop := ∀ k, b k ≠ 0 → g k = b k
theorem Ext.refl (b : Bd) : Ext b b := fun _ _ => rfl
theorem Ext.trans {a b c : Bd} (h : Ext a b) (k : Ext b c) : Ext a c := fun i hi => by
  have e := h i hi
  rw [k i (by rw [e]; exact hi), e]
theorem bound_ext (x : Tm) (s : Int) (b : Bd) : Ext b (bound x s b) := fun k hk => by
  unfold bound
  split
  · rename_i h
    unfold upd
    by_cases e : k = x.2.toNat
    · subst e; exact absurd h.2 hk
    · simp [e]
  · rfl
theorem step1_some {x : Tm} {s : Int} {b g : Bd} (h : step1 x s b = some g) : okTm x.1 x.2 = true ∧ g = bound x s b ∧ stand x g = s := by
  unfold step1 at h
  split at h
  · rename_i h1
    split at h
    · rename_i h2
      cases h
      exact ⟨h1, rfl, h2⟩
    · cases h
  · cases h
theorem stand_ext {x : Tm} {b g : Bd} (e : Ext b g) (h : stand x b ≠ 0) : stand x g = stand x b := by
  unfold stand at h ⊢
  split
  · rename_i h1
    rw [if_pos h1] at h
    split
    · rename_i h2
      rw [if_pos h2] at h
      exact e _ h
    · rfl
  · rfl
theorem runL_ext : ∀ (l : List (Tm × Int)) (b g : Bd), runL l b = some g → Ext b g
  | [], b, g, h => by cases h; exact Ext.refl _
  | p :: r, b, g, h => by
    have h' : (step1 p.1 p.2 b).bind (runL r) = some g := h
    cases e : step1 p.1 p.2 b with
    | none => rw [e] at h'; cases h'
    | some c =>
      rw [e] at h'
      obtain ⟨_, rfl, _⟩ := step1_some e
      exact (bound_ext _ _ _).trans (runL_ext r _ g h')
/-- What fits is put. -/
theorem runL_stand : ∀ (l : List (Tm × Int)) (b g : Bd), (∀ p ∈ l, p.2 ≠ 0) → runL l b = some g → ∀ p ∈ l, stand p.1 g = p.2
  | [], _, _, _, _ => fun p hp => by cases hp
  | q :: r, b, g, hs, h => fun p hp => by
    have h' : (step1 q.1 q.2 b).bind (runL r) = some g := h
    cases e : step1 q.1 q.2 b with
    | none => rw [e] at h'; cases h'
    | some c =>
      rw [e] at h'
      obtain ⟨_, _, h3⟩ := step1_some e
      rcases List.mem_cons.1 hp with rfl | hp
      · rw [stand_ext (runL_ext r c g h') (by rw [h3]; exact hs _ (by simp)), h3]
      · exact runL_stand r c g (fun u hu => hs u (by simp [hu])) h' p hp
theorem bound_zero {x : Tm} {s : Int} {b : Bd} (h : okTm x.1 x.2 = true) (hb : b 0 = 0) : bound x s b 0 = 0 := by
  unfold bound
  split
  · rename_i h1
    obtain ⟨v, n⟩ := x
    have h2 : v = true := h1.1
    subst h2
    have := okTm_var.1 h
    unfold upd
    have : ¬ (0 = n.toNat) := by omega
    simp [this, hb]
  · exact hb
theorem runL_zero : ∀ (l : List (Tm × Int)) (b g : Bd), b 0 = 0 → runL l b = some g → g 0 = 0
  | [], b, g, hb, h => by cases h; exact hb
  | q :: r, b, g, hb, h => by
    have h' : (step1 q.1 q.2 b).bind (runL r) = some g := h
    cases e : step1 q.1 q.2 b with
    | none => rw [e] at h'; cases h'
    | some c =>
      rw [e] at h'
      obtain ⟨h1, rfl, _⟩ := step1_some e
      exact runL_zero r _ g (bound_zero h1 hb) h'
/-- A binding with which all terms are put stays. -/
theorem runL_again : ∀ (l : List (Tm × Int)) (g : Bd), (∀ p ∈ l, p.2 ≠ 0) → (∀ p ∈ l, okTm p.1.1 p.1.2 = true) → (∀ p ∈ l, stand p.1 g = p.2) → runL l g = some g
  | [], _, _, _, _ => rfl
  | q :: r, g, hs, hk, h => by
    have h1 := hk q (by simp)
    have h2 := h q (by simp)
    have h3 := hs q (by simp)
    have hb : bound q.1 q.2 g = g := by
      unfold bound
      split
      · rename_i e
        exfalso
        apply h3
        rw [← h2]
        unfold stand
        rw [if_pos h1, if_pos e.1]
        exact e.2
      · rfl
    have e : step1 q.1 q.2 g = some g := by unfold step1; rw [if_pos h1, hb, if_pos h2]
    show (step1 q.1 q.2 g).bind (runL r) = some g
    rw [e]
    exact runL_again r g (fun u hu => hs u (by simp [hu])) (fun u hu => hk u (by simp [hu])) (fun u hu => h u (by simp [hu]))
/-- A variable that no term is keeps what it stood for. -/
theorem runL_other : ∀ (l : List (Tm × Int)) (b g : Bd) (k : Nat), (∀ p ∈ l, p.1.1 = true → p.1.2 ≠ (k : Int)) → runL l b = some g → g k = b k
  | [], b, g, k, _, h => by cases h; rfl
  | q :: r, b, g, k, hn, h => by
    have h' : (step1 q.1 q.2 b).bind (runL r) = some g := h
    cases e : step1 q.1 q.2 b with
    | none => rw [e] at h'; cases h'
    | some c =>
      rw [e] at h'
      obtain ⟨h1, rfl, _⟩ := step1_some e
      rw [runL_other r _ g k (fun p hp => hn p (by simp [hp])) h']
      unfold bound
      split
      · rename_i h2
        have h3 := hn q (by simp) h2.1
        obtain ⟨⟨v, n⟩, s⟩ := q
        have h4 : v = true := h2.1
        subst h4
        have h6 : 1 ≤ n ∧ n ≤ 32 := okTm_var.1 h1
        unfold upd
        have h5 : n ≠ (k : Int) := h3
        have : ¬ (k = n.toNat) := by omega
        simp [this]
      · rfl
/-- A variable of the terms stands for something then. -/
theorem runL_own {l : List (Tm × Int)} {b g : Bd} (hs : ∀ p ∈ l, p.2 ≠ 0) (hk : ∀ p ∈ l, okTm p.1.1 p.1.2 = true) (h : runL l b = some g) {k : Nat} {s : Int} (hp : ((true, (k : Int)), s) ∈ l) : g k ≠ 0 := by
  have h1 := runL_stand l b g hs h _ hp
  have h2 := hk _ hp
  have h3 := hs _ hp
  unfold stand at h1
  rw [if_pos h2] at h1
  simp at h1
  intro e
  apply h3
  rw [← h1]
  exact e
end
section
open Go.RowKit

abbrev T3 := Int × Int × Int
/-- A symbol's number. -/
def okSy (n : Int) : Bool := decide (1 ≤ n ∧ n ≤ 4096)
def okT (t : T3) : Bool := okSy t.1 && (okSy t.2.1 && okSy t.2.2)
theorem okSy_iff {n : Int} : okSy n = true ↔ 1 ≤ n ∧ n ≤ 4096 := by unfold okSy; exact decide_eq_true_iff
theorem okT_iff {t : T3} : okT t = true ↔ (1 ≤ t.1 ∧ t.1 ≤ 4096) ∧ (1 ≤ t.2.1 ∧ t.2.1 ≤ 4096) ∧ (1 ≤ t.2.2 ∧ t.2.2 ≤ 4096) := by
  unfold okT; simp [okSy_iff]
/-- A triple, as a value. -/
def arrT (t : T3) : Value := .agg #[.int .i64 t.1, .int .i64 t.2.1, .int .i64 t.2.2]
theorem okT_bad1 {t : T3} (h : okSy t.1 = false) : okT t = false := by unfold okT; rw [h]; rfl
theorem okT_bad2 {t : T3} (h : okSy t.2.1 = false) : okT t = false := by unfold okT; rw [h]; simp
theorem okT_bad3 {t : T3} (h : okSy t.2.2 = false) : okT t = false := by unfold okT; rw [h]; simp
theorem okT_good {t : T3} (h1 : okSy t.1 = true) (h2 : okSy t.2.1 = true) (h3 : okSy t.2.2 = true) : okT t = true := by unfold okT; rw [h1, h2, h3]; rfl
theorem okSy_no {n : Int} (h : okSy n = false) : n < 1 ∨ 4096 < n := by unfold okSy at h; have := of_decide_eq_false h; omega

set_option maxHeartbeats 1000000 in
theorem refTri_any (t : T3) (w : World) :
    Calls Try.prog 30 #[arrT t] w fun e w' => e = .returned (.bool (okT t)) ∧ Kept Nil w w' := by
  obtain ⟨a, b, c⟩ := t
  show Calls Try.prog 30 #[.agg #[.int .i64 a, .int .i64 b, .int .i64 c]] w _
  go_enter Try.func30, Try.ntmps30
  go_wp2
  go_loop [3] (fun i => i = .int .i64 0 ∨ (okSy a = true ∧ i = .int .i64 1) ∨ (okSy a = true ∧ okSy b = true ∧ i = .int .i64 2) ∨ (okSy a = true ∧ okSy b = true ∧ okSy c = true ∧ i = .int .i64 3)) (fun i => (3 - intOf i).toNat)
  case atStart => exact .inl rfl
  case round =>
    rcases hrel with rfl | ⟨h1, rfl⟩ | ⟨h1, h2, rfl⟩ | ⟨h1, h2, h3, rfl⟩
    · by_cases h : okSy a = true
      · have hb := okSy_iff.1 h
        have H := Lib.hid h
        clear h
        obtain ⟨l, u⟩ := hb
        go_wp2
        go_round
        case rel => exact .inr (.inl ⟨H.out, rfl⟩)
        case measure => decide
      · have hb := okSy_no (by simpa using h)
        have H := Lib.hid (okT_bad1 (t := (a, b, c)) (by simpa using h))
        clear h
        rcases hb with hb | hb
        all_goals go_wp2
        all_goals go_ret
        all_goals exact ⟨ret_bool H.out.symm, (Kept.refl _ _).alloc _⟩
    · have H1 := Lib.hid h1
      clear h1
      by_cases h : okSy b = true
      · have hb := okSy_iff.1 h
        have H := Lib.hid h
        clear h
        obtain ⟨l, u⟩ := hb
        go_wp2
        go_round
        case rel => exact .inr (.inr (.inl ⟨H1.out, H.out, rfl⟩))
        case measure => decide
      · have hb := okSy_no (by simpa using h)
        have H := Lib.hid (okT_bad2 (t := (a, b, c)) (by simpa using h))
        clear h
        rcases hb with hb | hb
        all_goals go_wp2
        all_goals go_ret
        all_goals exact ⟨ret_bool H.out.symm, (Kept.refl _ _).alloc _⟩
    · have H1 := Lib.hid h1
      have H2 := Lib.hid h2
      clear h1 h2
      by_cases h : okSy c = true
      · have hb := okSy_iff.1 h
        have H := Lib.hid h
        clear h
        obtain ⟨l, u⟩ := hb
        go_wp2
        go_round
        case rel => exact .inr (.inr (.inr ⟨H1.out, H2.out, H.out, rfl⟩))
        case measure => decide
      · have hb := okSy_no (by simpa using h)
        have H := Lib.hid (okT_bad3 (t := (a, b, c)) (by simpa using h))
        clear h
        rcases hb with hb | hb
        all_goals go_wp2
        all_goals go_ret
        all_goals exact ⟨ret_bool H.out.symm, (Kept.refl _ _).alloc _⟩
    · have H := Lib.hid (okT_good (t := (a, b, c)) h1 h2 h3)
      clear h1 h2 h3
      go_wp2
      go_ret
      exact ⟨ret_bool H.out.symm, (Kept.refl _ _).alloc _⟩
end
section
open Go.RowKit
set_option maxRecDepth 100000

/-! ### Keys -/
def hasF (s k : Int) : Bool := decide (k = 0 ∨ k = s)
def hasK (t k : T3) : Bool := hasF t.1 k.1 && (hasF t.2.1 k.2.1 && hasF t.2.2 k.2.2)
theorem hasF_iff {s k : Int} : hasF s k = true ↔ k = 0 ∨ k = s := by unfold hasF; exact decide_eq_true_iff
theorem hasF_no {s k : Int} (h : hasF s k = false) : k ≠ 0 ∧ k ≠ s := by unfold hasF at h; have := of_decide_eq_false h; omega
theorem hasK_iff {t k : T3} : hasK t k = true ↔ (k.1 = 0 ∨ k.1 = t.1) ∧ (k.2.1 = 0 ∨ k.2.1 = t.2.1) ∧ (k.2.2 = 0 ∨ k.2.2 = t.2.2) := by unfold hasK; simp [hasF_iff]
theorem hasK_bad1 {t k : T3} (h : hasF t.1 k.1 = false) : hasK t k = false := by unfold hasK; rw [h]; rfl
theorem hasK_bad2 {t k : T3} (h : hasF t.2.1 k.2.1 = false) : hasK t k = false := by unfold hasK; rw [h]; simp
theorem hasK_bad3 {t k : T3} (h : hasF t.2.2 k.2.2 = false) : hasK t k = false := by unfold hasK; rw [h]; simp
theorem hasK_good {t k : T3} (h1 : hasF t.1 k.1 = true) (h2 : hasF t.2.1 k.2.1 = true) (h3 : hasF t.2.2 k.2.2 = true) : hasK t k = true := by unfold hasK; rw [h1, h2, h3]; rfl

/-! ### Tests -/
/-- A triple's field. -/
def fld (t : T3) (f : Int) : Int := if f = 0 then t.1 else if f = 1 then t.2.1 else t.2.2
/-- The triple that a test holds a triple against. -/
def backT (x : Tst) (bk : List T3) (t : T3) : Option T3 := if x.2.1 = -1 then some t else if 0 ≤ x.2.1 then bk[x.2.1.toNat]? else none
def tHold (bk : List T3) (t : T3) (x : Tst) : Bool := match backT x bk t with
  | some u => decide (fld t x.1 = fld u x.2.2)
  | none => false
/-- A test's fields are fields. -/
def tFine (x : Tst) : Prop := (0 ≤ x.1 ∧ x.1 ≤ 2) ∧ (0 ≤ x.2.2 ∧ x.2.2 ≤ 2)
/-- A triple meets a step. -/
def meetH (h : SH) (bk : List T3) (t : T3) : Bool := decide (h.k = 1 ∨ h.k = 2) && (hasK t (h.k0, h.k1, h.k2) && h.ts.all (tHold bk t))
theorem tHold_own {bk : List T3} {t : T3} {f g : Int} : tHold bk t (f, -1, g) = decide (fld t f = fld t g) := rfl
theorem tHold_back {bk : List T3} {t u : T3} {f g : Int} {i : Nat} (h : bk[i]? = some u) : tHold bk t (f, (i : Int), g) = decide (fld t f = fld u g) := by
  unfold tHold backT
  rw [if_neg (show ¬ ((f, (i : Int), g) : Tst).2.1 = -1 from by show ¬ (i : Int) = -1; omega), if_pos (show (0 : Int) ≤ ((f, (i : Int), g) : Tst).2.1 from by show (0 : Int) ≤ (i : Int); omega)]
  show (match bk[((i : Int)).toNat]? with | some u => _ | none => _) = _
  rw [Int.toNat_natCast, h]
/-- More triples behind change nothing of a test that asks for none of them. -/
theorem tHold_take {bk : List T3} {t : T3} {x : Tst} {n : Nat} (h : x.2.1 + 1 ≤ n) : tHold (bk.take n) t x = tHold bk t x := by
  unfold tHold backT
  by_cases e : x.2.1 = -1
  · rw [if_pos e, if_pos e]
  · rw [if_neg e, if_neg e]
    by_cases e0 : 0 ≤ x.2.1
    · rw [if_pos e0, if_pos e0, List.getElem?_take_of_lt (by omega)]
    · rw [if_neg e0, if_neg e0]
theorem tHold_nil {t : T3} {x : Tst} (h : 0 ≤ x.2.1) : tHold [] t x = false := by
  unfold tHold backT
  rw [if_neg (by omega), if_pos h]; rfl
theorem meetH_take {h : SH} {bk : List T3} {t : T3} {n : Nat} (hx : ∀ x ∈ h.ts, x.2.1 + 1 ≤ n) : meetH h (bk.take n) t = meetH h bk t := by
  unfold meetH
  have : h.ts.all (tHold (bk.take n) t) = h.ts.all (tHold bk t) := by
    rw [Bool.eq_iff_iff, List.all_eq_true, List.all_eq_true]
    exact ⟨fun a x hm => by rw [← tHold_take (hx x hm)]; exact a x hm, fun a x hm => by rw [tHold_take (hx x hm)]; exact a x hm⟩
  rw [this]
theorem meetH_nil {h : SH} {t : T3} {x : Tst} (hx : x ∈ h.ts) (h0 : 0 ≤ x.2.1) : meetH h [] t = false := by
  unfold meetH
  have : h.ts.all (tHold [] t) = false := by
    rw [Bool.eq_false_iff]
    intro a
    have := List.all_eq_true.1 a x hx
    rw [tHold_nil h0] at this
    cases this
  rw [this]; simp
/-- The tests of a step ask for so many triples. -/
def need (ts : List Tst) : Int := ts.foldl (fun n x => max n (x.2.1 + 1)) 0
theorem need_take {ts : List Tst} {j : Nat} {x : Tst} (h : ts[j]? = some x) : need (ts.take (j + 1)) = max (need (ts.take j)) (x.2.1 + 1) := by
  unfold need
  rw [List.take_add_one, h, List.foldl_append]; rfl
theorem need_aux : ∀ (ts : List Tst) (n : Int), n ≤ ts.foldl (fun n x => max n (x.2.1 + 1)) n ∧ (∀ x ∈ ts, x.2.1 + 1 ≤ ts.foldl (fun n x => max n (x.2.1 + 1)) n) ∧ (ts.foldl (fun n x => max n (x.2.1 + 1)) n = n ∨ ∃ x ∈ ts, ts.foldl (fun n x => max n (x.2.1 + 1)) n = x.2.1 + 1)
  | [], n => ⟨Int.le_refl _, fun x h => (by cases h), .inl rfl⟩
  | y :: r, n => by
    obtain ⟨h1, h2, h3⟩ := need_aux r (max n (y.2.1 + 1))
    rw [List.foldl_cons]
    refine ⟨by omega, fun x hx => ?_, ?_⟩
    · rcases List.mem_cons.1 hx with rfl | hx
      · omega
      · exact h2 x hx
    · rcases h3 with h3 | ⟨x, hx, h3⟩
      · rcases Int.le_total n (y.2.1 + 1) with h | h
        · exact .inr ⟨y, List.mem_cons_self, by rw [h3]; omega⟩
        · exact .inl (by rw [h3]; omega)
      · exact .inr ⟨x, List.mem_cons_of_mem _ hx, h3⟩
theorem need_nonneg (ts : List Tst) : 0 ≤ need ts := (need_aux ts 0).1
theorem need_le {ts : List Tst} {x : Tst} (h : x ∈ ts) : x.2.1 + 1 ≤ need ts := (need_aux ts 0).2.1 x h
theorem need_pos {ts : List Tst} (h : 0 < need ts) : ∃ x ∈ ts, 0 ≤ x.2.1 := by
  rcases (need_aux ts 0).2.2 with e | ⟨x, hx, e⟩
  · have : need ts = 0 := e
    omega
  · exact ⟨x, hx, by have : need ts = x.2.1 + 1 := e; omega⟩

/-! ### Where variables are bound -/
/-- How many Pos there are. -/
def posL : List Sh → Nat
  | [] => 0
  | s :: r => (if s.hd.k = 1 then 1 else 0) + posL r
theorem posL_append : ∀ a b : List Sh, posL (a ++ b) = posL a + posL b
  | [], b => by simp [posL]
  | x :: r, b => by rw [List.cons_append, posL, posL, posL_append r b]; omega
theorem fpL_snoc : ∀ (ch : List Sh) (c : Sh) (n : Int) (back : Nat), fpL (ch ++ [c]) n back = match fpL ch n back with
    | some p => some p
    | none => if c.hd.k = 1 then (if 0 ≤ hitF c.hd n then some (back + posL ch, hitF c.hd n) else none) else none
  | [], c, n, back => by
    show (if c.hd.k = 1 then (if 0 ≤ hitF c.hd n then some (back, hitF c.hd n) else none) else none) = _
    simp [fpL, posL]
  | s :: r, c, n, back => by
    rw [List.cons_append, fpL, fpL]
    by_cases hk : s.hd.k = 1
    · rw [if_pos hk, if_pos hk]
      by_cases hh : 0 ≤ hitF s.hd n
      · rw [if_pos hh, if_pos hh]
      · rw [if_neg hh, if_neg hh, fpL_snoc r c n (back + 1), posL, if_pos hk, Nat.add_assoc]
    · rw [if_neg hk, if_neg hk, fpL_snoc r c n back, posL, if_neg hk, Nat.zero_add]
/-- A binding is what the chain's triples have bound. -/
structure Inv (ch : List Sh) (bk : List T3) (b : Bd) : Prop where
  len : bk.length = posL ch
  ok : ∀ m : Nat, 1 ≤ m → m ≤ 32 → match fpL ch (m : Int) 0 with
    | none => b m = 0
    | some (i, g) => (0 ≤ g ∧ g ≤ 2) ∧ ∃ u, bk[i]? = some u ∧ b m = fld u g ∧ 1 ≤ fld u g
theorem Inv.nil : Inv [] [] zeroB := ⟨rfl, fun _ _ _ => rfl⟩
theorem hitF_field {h : Hd} {n g : Int} (e : hitF h n = g) (hg : 0 ≤ g) : (g = 0 ∧ h.x0 = true ∧ h.n0 = n) ∨ (g = 1 ∧ h.x1 = true ∧ h.n1 = n) ∨ (g = 2 ∧ h.x2 = true ∧ h.n2 = n) := by
  unfold hitF first3 at e
  split at e
  · rename_i h0; have := of_decide_eq_true h0; exact .inl ⟨e.symm, this.1.symm, this.2.symm⟩
  · split at e
    · rename_i h0; have := of_decide_eq_true h0; exact .inr (.inl ⟨e.symm, this.1.symm, this.2.symm⟩)
    · split at e
      · rename_i h0; have := of_decide_eq_true h0; exact .inr (.inr ⟨e.symm, this.1.symm, this.2.symm⟩)
      · omega
theorem hitF_none {h : Hd} {n : Int} (e : ¬ 0 ≤ hitF h n) : ¬ (h.x0 = true ∧ h.n0 = n) ∧ ¬ (h.x1 = true ∧ h.n1 = n) ∧ ¬ (h.x2 = true ∧ h.n2 = n) := by
  unfold hitF first3 at e
  refine ⟨fun a => e ?_, fun a => e ?_, fun a => e ?_⟩
  · rw [if_pos (decide_eq_true ⟨a.1.symm, a.2.symm⟩)]; omega
  · split
    · omega
    · rw [if_pos (decide_eq_true ⟨a.1.symm, a.2.symm⟩)]; omega
  · split
    · omega
    · split
      · omega
      · rw [if_pos (decide_eq_true ⟨a.1.symm, a.2.symm⟩)]; omega
/-- The fields of a condition, with those of a triple. -/
abbrev flH (h : Hd) (t : T3) : List (Tm × Int) := fl h.x0 h.x1 h.x2 h.n0 h.n1 h.n2 t.1 t.2.1 t.2.2
theorem mem_flH {h : Hd} {t : T3} {p : Tm × Int} : p ∈ flH h t ↔ p = ((h.x0, h.n0), t.1) ∨ p = ((h.x1, h.n1), t.2.1) ∨ p = ((h.x2, h.n2), t.2.2) := by
  show p ∈ [_, _, _] ↔ _
  simp
/-- Where all terms stand for their symbols with some greater binding, they fit. -/
theorem runL_of : ∀ (l : List (Tm × Int)) (b g : Bd), Ext b g → (∀ p ∈ l, p.2 ≠ 0) → (∀ p ∈ l, okTm p.1.1 p.1.2 = true) → (∀ p ∈ l, stand p.1 g = p.2) → ∃ g', runL l b = some g'
  | [], b, _, _, _, _, _ => ⟨b, rfl⟩
  | ((v, n), s) :: r, b, g, he, h0, hk, hs => by
    have hok : okTm v n = true := hk _ List.mem_cons_self
    have hst : stand (v, n) g = s := hs _ List.mem_cons_self
    have hs0 : s ≠ 0 := h0 _ List.mem_cons_self
    have hnext : ∀ b', step1 (v, n) s b = some b' → Ext b' g → ∃ g', runL (((v, n), s) :: r) b = some g' := fun b' e1 e2 => by
      obtain ⟨g', hg⟩ := runL_of r b' g e2 (fun p hp => h0 p (List.mem_cons_of_mem _ hp)) (fun p hp => hk p (List.mem_cons_of_mem _ hp)) (fun p hp => hs p (List.mem_cons_of_mem _ hp))
      exact ⟨g', by show (step1 (v, n) s b).bind (runL r) = _; rw [e1]; exact hg⟩
    cases v
    · rw [stand_sym hok] at hst
      exact hnext b (step1_sym hok hst) he
    · obtain ⟨l1, u1⟩ := okTm_var.1 hok
      obtain ⟨m, rfl⟩ : ∃ m : Nat, n = (m : Int) := ⟨n.toNat, by omega⟩
      rw [stand_var hok] at hst
      by_cases e : b m = 0
      · refine hnext _ (step1_new hok e) fun k hk0 => ?_
        by_cases ek : k = m
        · subst ek; rw [hst, upd_same]
        · rw [upd_other _ _ ek] at hk0 ⊢; exact he k hk0
      · exact hnext _ (step1_old hok e (by rw [← he m e]; exact hst)) he
section
variable {ch : List Sh} {bk : List T3} {b : Bd} {h : Hd} {t : T3} {sb : List Sh}
theorem Inv.val (I : Inv ch bk b) {m : Nat} (h1 : 1 ≤ m) (h2 : m ≤ 32) (hb : b m ≠ 0) : ∃ (i : Nat) (g : Int) (u : T3), fpL ch (m : Int) 0 = some (i, g) ∧ bk[i]? = some u ∧ b m = fld u g := by
  have := I.ok m h1 h2
  cases hf : fpL ch (m : Int) 0 with
  | none => rw [hf] at this; exact absurd this hb
  | some p =>
    obtain ⟨i, g⟩ := p
    rw [hf] at this
    obtain ⟨_, u, h1, h2, _⟩ := this
    exact ⟨i, g, u, rfl, h1, h2⟩
theorem Inv.zero (I : Inv ch bk b) {m : Nat} (h1 : 1 ≤ m) (h2 : m ≤ 32) (hb : b m = 0) : fpL ch (m : Int) 0 = none := by
  have := I.ok m h1 h2
  cases hf : fpL ch (m : Int) 0 with
  | none => rfl
  | some p =>
    obtain ⟨i, g⟩ := p
    rw [hf] at this
    obtain ⟨_, u, _, h2, h3⟩ := this
    omega
theorem fineH (hf : h.fine = true) : okTm h.x0 h.n0 = true ∧ okTm h.x1 h.n1 = true ∧ okTm h.x2 h.n2 = true := by
  unfold Hd.fine fine at hf
  simp only [Bool.and_eq_true] at hf
  exact ⟨hf.1.1, hf.1.2, hf.2⟩
theorem flH_ok (hf : h.fine = true) : ∀ p ∈ flH h t, okTm p.1.1 p.1.2 = true := fun p hp => by
  obtain ⟨a, b, c⟩ := fineH hf
  rcases mem_flH.1 hp with rfl | rfl | rfl
  · exact a
  · exact b
  · exact c
theorem okT_pos (ht : okT t = true) : 1 ≤ t.1 ∧ 1 ≤ t.2.1 ∧ 1 ≤ t.2.2 := by have := okT_iff.1 ht; omega
theorem flH_pos (ht : okT t = true) : ∀ p ∈ flH h t, p.2 ≠ 0 := fun p hp => by
  have := okT_pos ht
  rcases mem_flH.1 hp with rfl | rfl | rfl
  · show t.1 ≠ 0; omega
  · show t.2.1 ≠ 0; omega
  · show t.2.2 ≠ 0; omega
/-- A condition's own step. -/
abbrev stepH (ch : List Sh) (h : Hd) : SH := ⟨h.k, kF h.x0 h.n0, kF h.x1 h.n1, kF h.x2 h.n2, tstL ch h⟩
theorem stand_ne {v : Bool} {n s : Int} {g : Bd} (hk : okTm v n = true) (h : stand (v, n) g = s) : v = true → g n.toNat = s := fun e => by
  subst e
  obtain ⟨l1, u1⟩ := okTm_var.1 hk
  obtain ⟨m, rfl⟩ : ∃ m : Nat, n = (m : Int) := ⟨n.toNat, by omega⟩
  rw [stand_var hk] at h
  simpa using h
/-- The test of a field holds, if its term stands for its symbol with a greater binding. -/
theorem test_of (I : Inv ch bk b) {g : Bd} (he : Ext b g) {n s : Int} (hk : okTm true n = true) (h1 : g n.toNat = s) {i : Nat} {f' f : Int} (hf : fpL ch n 0 = some (i, f')) (hs : fld t f = s) : tHold bk t (f, (i : Int), f') = true := by
  obtain ⟨l1, u1⟩ := okTm_var.1 hk
  obtain ⟨m, rfl⟩ : ∃ m : Nat, n = (m : Int) := ⟨n.toNat, by omega⟩
  have := I.ok m (by omega) (by omega)
  rw [hf] at this
  obtain ⟨_, u, hu, hb, hp⟩ := this
  rw [tHold_back hu, hs, ← h1, Int.toNat_natCast, he m (by omega), hb]
  exact decide_eq_true rfl
theorem meets_of_fits (I : Inv ch bk b) (hk : h.k = 1 ∨ h.k = 2) (hf : h.fine = true) (ht : okT t = true) {g : Bd} (hr : runL (flH h t) b = some g) : meetH (stepH ch h) bk t = true := by
  obtain ⟨k0, k1, k2⟩ := fineH hf
  have he := runL_ext _ _ _ hr
  have hst := runL_stand _ _ _ (flH_pos ht) hr
  have s0 := hst _ (mem_flH.2 (.inl rfl))
  have s1 := hst _ (mem_flH.2 (.inr (.inl rfl)))
  have s2 := hst _ (mem_flH.2 (.inr (.inr rfl)))
  simp only at s0 s1 s2
  have key : ∀ {v : Bool} {n s : Int}, okTm v n = true → stand (v, n) g = s → kF v n = 0 ∨ kF v n = s := fun {v n s} hk hs => by
    cases v
    · rw [stand_sym hk] at hs; exact .inr hs
    · exact .inl rfl
  unfold meetH
  rw [Bool.and_eq_true, Bool.and_eq_true]
  refine ⟨decide_eq_true hk, hasK_iff.2 ⟨key k0 s0, key k1 s1, key k2 s2⟩, List.all_eq_true.2 fun x hx => ?_⟩
  have hx' : x ∈ tst0 ch h ++ tst1 ch h ++ tst2 ch h := hx
  rcases List.mem_append.1 hx' with hx' | hx'
  rcases List.mem_append.1 hx' with hx' | hx'
  · unfold tst0 at hx'
    split at hx'
    · rename_i hv
      rw [hv] at k0 s0
      cases hfp : fpL ch h.n0 0 with
      | none => rw [hfp] at hx'; cases hx'
      | some p =>
        obtain ⟨i, f'⟩ := p
        rw [hfp] at hx'
        rw [List.mem_singleton.1 hx']
        exact test_of I he k0 (stand_ne k0 s0 rfl) hfp rfl
    · cases hx'
  · unfold tst1 at hx'
    split at hx'
    · rename_i hv
      rw [hv] at k1 s1
      cases hfp : fpL ch h.n1 0 with
      | none =>
        rw [hfp] at hx'
        simp only at hx'
        split at hx'
        · rename_i e
          rw [List.mem_singleton.1 hx', tHold_own]
          rw [e.1] at k0 s0
          have a0 := stand_ne k0 s0 rfl
          have a1 := stand_ne k1 s1 rfl
          rw [e.2] at a1
          exact decide_eq_true (by show t.2.1 = t.1; omega)
        · cases hx'
      | some p =>
        obtain ⟨i, f'⟩ := p
        rw [hfp] at hx'
        rw [List.mem_singleton.1 hx']
        exact test_of I he k1 (stand_ne k1 s1 rfl) hfp rfl
    · cases hx'
  · unfold tst2 at hx'
    split at hx'
    · rename_i hv
      rw [hv] at k2 s2
      cases hfp : fpL ch h.n2 0 with
      | none =>
        rw [hfp] at hx'
        simp only at hx'
        split at hx'
        · rename_i e
          rw [List.mem_singleton.1 hx', tHold_own]
          rw [e.1] at k0 s0
          have a0 := stand_ne k0 s0 rfl
          have a1 := stand_ne k2 s2 rfl
          rw [e.2] at a1
          exact decide_eq_true (by show t.2.2 = t.1; omega)
        · split at hx'
          · rename_i e
            rw [List.mem_singleton.1 hx', tHold_own]
            rw [e.1] at k1 s1
            have a0 := stand_ne k1 s1 rfl
            have a1 := stand_ne k2 s2 rfl
            rw [e.2] at a1
            exact decide_eq_true (by show t.2.2 = t.2.1; omega)
          · cases hx'
      | some p =>
        obtain ⟨i, f'⟩ := p
        rw [hfp] at hx'
        rw [List.mem_singleton.1 hx']
        exact test_of I he k2 (stand_ne k2 s2 rfl) hfp rfl
    · cases hx'
/-- The binding that the chain's triples and this one make. -/
def bdOf (b : Bd) (h : Hd) (t : T3) : Bd := fun k => if b k ≠ 0 then b k else if h.x0 = true ∧ h.n0 = (k : Int) then t.1 else if h.x1 = true ∧ h.n1 = (k : Int) then t.2.1 else if h.x2 = true ∧ h.n2 = (k : Int) then t.2.2 else 0
theorem bdOf_ext : Ext b (bdOf b h t) := fun k hk => by unfold bdOf; rw [if_pos hk]
theorem fits_of_meets (I : Inv ch bk b) (hf : h.fine = true) (ht : okT t = true) (hm : meetH (stepH ch h) bk t = true) : ∃ g, runL (flH h t) b = some g := by
  obtain ⟨k0, k1, k2⟩ := fineH hf
  unfold meetH at hm
  rw [Bool.and_eq_true, Bool.and_eq_true] at hm
  obtain ⟨_, hkey, hts⟩ := hm
  have hts := List.all_eq_true.1 hts
  have hkey := hasK_iff.1 hkey
  -- a field that the chain has bound
  have old : ∀ {n : Int} {f : Int} {l : List Tst}, okTm true n = true → (∀ p, fpL ch n 0 = some p → ((f, (p.1 : Int), p.2) : Tst) ∈ tstL ch h) → b n.toNat ≠ 0 → b n.toNat = fld t f := fun {n f _} hk hl hb => by
    obtain ⟨l1, u1⟩ := okTm_var.1 hk
    obtain ⟨m, rfl⟩ : ∃ m : Nat, n = (m : Int) := ⟨n.toNat, by omega⟩
    rw [Int.toNat_natCast] at hb ⊢
    obtain ⟨i, g, u, e1, e2, e3⟩ := I.val (by omega) (by omega) hb
    have := hts _ (hl _ e1)
    rw [tHold_back e2] at this
    rw [e3]; exact (of_decide_eq_true this).symm
  refine runL_of _ b (bdOf b h t) bdOf_ext (flH_pos ht) (flH_ok hf) fun p hp => ?_
  have mem0 : ∀ x, x ∈ tst0 ch h → x ∈ tstL ch h := fun x hx => List.mem_append_left _ (List.mem_append_left _ hx)
  have mem1 : ∀ x, x ∈ tst1 ch h → x ∈ tstL ch h := fun x hx => List.mem_append_left _ (List.mem_append_right _ hx)
  have mem2 : ∀ x, x ∈ tst2 ch h → x ∈ tstL ch h := fun x hx => List.mem_append_right _ hx
  rcases mem_flH.1 hp with rfl | rfl | rfl
  · show stand (h.x0, h.n0) _ = t.1
    cases hv : h.x0
    · rw [hv] at k0
      rw [stand_sym k0]
      have := hkey.1
      simp only [kF, hv, Bool.false_eq_true, if_false] at this
      obtain ⟨l1, _⟩ := okTm_sym.1 k0
      omega
    · rw [hv] at k0
      have hb := old (f := 0) (l := []) k0 (fun p e => mem0 _ (by unfold tst0; rw [if_pos hv, e]; exact List.mem_singleton.2 rfl))
      obtain ⟨l1, u1⟩ := okTm_var.1 k0
      obtain ⟨m, hm⟩ : ∃ m : Nat, h.n0 = (m : Int) := ⟨h.n0.toNat, by omega⟩
      rw [hm] at k0 hb ⊢
      rw [stand_var k0]
      unfold bdOf
      by_cases e : b m = 0
      · rw [if_neg (by simpa using e), if_pos ⟨hv, hm⟩]
      · rw [if_pos e]; exact hb e
  · show stand (h.x1, h.n1) _ = t.2.1
    cases hv : h.x1
    · rw [hv] at k1
      rw [stand_sym k1]
      have := hkey.2.1
      simp only [kF, hv, Bool.false_eq_true, if_false] at this
      obtain ⟨l1, _⟩ := okTm_sym.1 k1
      omega
    · rw [hv] at k1
      have hb := old (f := 1) (l := []) k1 (fun p e => mem1 _ (by unfold tst1; rw [if_pos hv, e]; exact List.mem_singleton.2 rfl))
      obtain ⟨l1, u1⟩ := okTm_var.1 k1
      obtain ⟨m, hm⟩ : ∃ m : Nat, h.n1 = (m : Int) := ⟨h.n1.toNat, by omega⟩
      rw [hm] at k1 hb ⊢
      rw [stand_var k1]
      unfold bdOf
      by_cases e : b m = 0
      · rw [if_neg (by simpa using e)]
        by_cases e0 : h.x0 = true ∧ h.n0 = (m : Int)
        · rw [if_pos e0]
          have hz := I.zero (m := m) (by omega) (by omega) e
          have := hts _ (mem1 (1, -1, 0) (by unfold tst1; rw [if_pos hv, hm, hz]; simp only; rw [if_pos ⟨e0.1, e0.2.symm⟩]; exact List.mem_singleton.2 rfl))
          rw [tHold_own] at this
          exact (of_decide_eq_true this).symm
        · rw [if_neg e0, if_pos ⟨hv, hm⟩]
      · rw [if_pos e]; exact hb e
  · show stand (h.x2, h.n2) _ = t.2.2
    cases hv : h.x2
    · rw [hv] at k2
      rw [stand_sym k2]
      have := hkey.2.2
      simp only [kF, hv, Bool.false_eq_true, if_false] at this
      obtain ⟨l1, _⟩ := okTm_sym.1 k2
      omega
    · rw [hv] at k2
      have hb := old (f := 2) (l := []) k2 (fun p e => mem2 _ (by unfold tst2; rw [if_pos hv, e]; exact List.mem_singleton.2 rfl))
      obtain ⟨l1, u1⟩ := okTm_var.1 k2
      obtain ⟨m, hm⟩ : ∃ m : Nat, h.n2 = (m : Int) := ⟨h.n2.toNat, by omega⟩
      rw [hm] at k2 hb ⊢
      rw [stand_var k2]
      unfold bdOf
      by_cases e : b m = 0
      · rw [if_neg (by simpa using e)]
        have hz := I.zero (m := m) (by omega) (by omega) e
        by_cases e0 : h.x0 = true ∧ h.n0 = (m : Int)
        · rw [if_pos e0]
          have := hts _ (mem2 (2, -1, 0) (by unfold tst2; rw [if_pos hv, hm, hz]; simp only; rw [if_pos ⟨e0.1, e0.2.symm⟩]; exact List.mem_singleton.2 rfl))
          rw [tHold_own] at this
          exact (of_decide_eq_true this).symm
        · rw [if_neg e0]
          by_cases e1 : h.x1 = true ∧ h.n1 = (m : Int)
          · rw [if_pos e1]
            have := hts _ (mem2 (2, -1, 1) (by unfold tst2; rw [if_pos hv, hm, hz]; simp only; rw [if_neg (fun a => e0 ⟨a.1, a.2.symm⟩), if_pos ⟨e1.1, e1.2.symm⟩]; exact List.mem_singleton.2 rfl))
            rw [tHold_own] at this
            exact (of_decide_eq_true this).symm
          · rw [if_neg e1, if_pos ⟨hv, hm⟩]
      · rw [if_pos e]; exact hb e
/-- A fact meets a condition's step just if its terms fit it. -/
theorem fit_meets (I : Inv ch bk b) (hk : h.k = 1 ∨ h.k = 2) (hf : h.fine = true) (ht : okT t = true) : fitOk (flH h t) b = meetH (stepH ch h) bk t := by
  rw [Bool.eq_iff_iff]
  unfold fitOk
  rw [Option.isSome_iff_exists]
  exact ⟨fun ⟨g, hg⟩ => meets_of_fits I hk hf ht hg, fits_of_meets I hf ht⟩
/-- Behind a Neg the binding is as it was. -/
theorem Inv.skip (I : Inv ch bk b) (hk : h.k ≠ 1) : Inv (ch ++ [.mk h sb]) bk b := by
  refine ⟨?_, fun m h1 h2 => ?_⟩
  · rw [posL_append, I.len]
    show posL ch = posL ch + ((if h.k = 1 then 1 else 0) + 0)
    rw [if_neg hk]; rfl
  · have := I.ok m h1 h2
    rw [fpL_snoc]
    cases hf : fpL ch (m : Int) 0 with
    | none =>
      rw [hf] at this
      simp only
      rw [if_neg (show ¬ (Sh.mk h sb).hd.k = 1 from hk)]
      exact this
    | some p => rw [hf] at this; exact this
theorem fld_pos (ht : okT t = true) (g : Int) : 1 ≤ fld t g := by
  have := okT_pos ht
  unfold fld
  split
  · omega
  · split <;> omega
/-- Behind a Pos that fits, it is what the fact has bound, too. -/
theorem Inv.more (I : Inv ch bk b) (hk : h.k = 1) (hf : h.fine = true) (ht : okT t = true) {g : Bd} (hr : runL (flH h t) b = some g) : Inv (ch ++ [.mk h sb]) (bk ++ [t]) g := by
  obtain ⟨k0, k1, k2⟩ := fineH hf
  have he := runL_ext _ _ _ hr
  have hst := runL_stand _ _ _ (flH_pos ht) hr
  have s0 := hst _ (mem_flH.2 (.inl rfl))
  have s1 := hst _ (mem_flH.2 (.inr (.inl rfl)))
  have s2 := hst _ (mem_flH.2 (.inr (.inr rfl)))
  simp only at s0 s1 s2
  refine ⟨?_, fun m h1 h2 => ?_⟩
  · rw [posL_append, List.length_append, I.len]
    show posL ch + 1 = posL ch + ((if h.k = 1 then 1 else 0) + 0)
    rw [if_pos hk]
  · have hI := I.ok m h1 h2
    rw [fpL_snoc]
    cases hfp : fpL ch (m : Int) 0 with
    | some p =>
      obtain ⟨i, f⟩ := p
      rw [hfp] at hI
      obtain ⟨hr, u, hu, hb, hp⟩ := hI
      refine ⟨hr, u, ?_, by rw [he m (by omega)]; exact hb, hp⟩
      rw [List.getElem?_append_left (List.getElem?_eq_some_iff.1 hu).1]
      exact hu
    | none =>
      rw [hfp] at hI
      simp only
      rw [if_pos (show (Sh.mk h sb).hd.k = 1 from hk)]
      by_cases hh : 0 ≤ hitF h (m : Int)
      · rw [if_pos (show 0 ≤ hitF (Sh.mk h sb).hd (m : Int) from hh)]
        have hle := hitF_le h (m : Int)
        refine ⟨⟨hh, hle.1⟩, t, ?_, ?_, fld_pos ht _⟩
        · rw [Nat.zero_add, ← I.len, List.getElem?_append_right (Nat.le_refl _), Nat.sub_self]; rfl
        · show g m = fld t (hitF h (m : Int))
          rcases hitF_field (rfl : hitF h (m : Int) = _) hh with ⟨e, ev, en⟩ | ⟨e, ev, en⟩ | ⟨e, ev, en⟩
          · rw [e]
            rw [ev, en] at k0 s0
            exact stand_ne k0 s0 rfl
          · rw [e]
            rw [ev, en] at k1 s1
            exact stand_ne k1 s1 rfl
          · rw [e]
            rw [ev, en] at k2 s2
            exact stand_ne k2 s2 rfl
      · rw [if_neg (show ¬ 0 ≤ hitF (Sh.mk h sb).hd (m : Int) from hh)]
        obtain ⟨n0, n1, n2⟩ := hitF_none hh
        refine (runL_other _ _ _ m (fun p hp hv => ?_) hr).trans hI
        rcases mem_flH.1 hp with rfl | rfl | rfl
        · exact fun e => n0 ⟨hv, e⟩
        · exact fun e => n1 ⟨hv, e⟩
        · exact fun e => n2 ⟨hv, e⟩
/-! ### What is said of a step's own tests -/
theorem fpL_le (n : Int) : ∀ (l : List Sh) (back : Nat) (i : Nat) (g : Int), fpL l n back = some (i, g) → 0 ≤ g ∧ g ≤ 2
  | [], back, i, g, e => by cases e
  | s :: r, back, i, g, e => by
    rw [fpL] at e
    split at e
    · split at e
      · rename_i hh
        cases e
        exact ⟨hh, (hitF_le s.hd n).1⟩
      · exact fpL_le n r _ i g e
    · exact fpL_le n r _ i g e
theorem tstL_fine : ∀ x ∈ tstL ch h, tFine x ∧ -1 ≤ x.2.1 := fun x hx => by
  have hx' : x ∈ tst0 ch h ++ tst1 ch h ++ tst2 ch h := hx
  have own : ∀ {f g : Int}, 0 ≤ f ∧ f ≤ 2 → 0 ≤ g ∧ g ≤ 2 → tFine (f, -1, g) ∧ (-1 : Int) ≤ ((f, -1, g) : Tst).2.1 := fun hf hg => ⟨⟨hf, hg⟩, Int.le_refl _⟩
  have old : ∀ {f g : Int} {i : Nat}, 0 ≤ f ∧ f ≤ 2 → 0 ≤ g ∧ g ≤ 2 → tFine (f, (i : Int), g) ∧ (-1 : Int) ≤ ((f, (i : Int), g) : Tst).2.1 := fun hf hg => ⟨⟨hf, hg⟩, by show (-1 : Int) ≤ (_ : Nat); omega⟩
  rcases List.mem_append.1 hx' with hx' | hx'
  rcases List.mem_append.1 hx' with hx' | hx'
  · unfold tst0 at hx'
    split at hx'
    · cases hfp : fpL ch h.n0 0 with
      | none => rw [hfp] at hx'; cases hx'
      | some p =>
        obtain ⟨i, f'⟩ := p
        rw [hfp] at hx'
        rw [List.mem_singleton.1 hx']
        exact old (by omega) (fpL_le _ _ _ _ _ hfp)
    · cases hx'
  · unfold tst1 at hx'
    split at hx'
    · cases hfp : fpL ch h.n1 0 with
      | none =>
        rw [hfp] at hx'
        simp only at hx'
        split at hx'
        · rw [List.mem_singleton.1 hx']; exact own (by omega) (by omega)
        · cases hx'
      | some p =>
        obtain ⟨i, f'⟩ := p
        rw [hfp] at hx'
        rw [List.mem_singleton.1 hx']
        exact old (by omega) (fpL_le _ _ _ _ _ hfp)
    · cases hx'
  · unfold tst2 at hx'
    split at hx'
    · cases hfp : fpL ch h.n2 0 with
      | none =>
        rw [hfp] at hx'
        simp only at hx'
        split at hx'
        · rw [List.mem_singleton.1 hx']; exact own (by omega) (by omega)
        · split at hx'
          · rw [List.mem_singleton.1 hx']; exact own (by omega) (by omega)
          · cases hx'
      | some p =>
        obtain ⟨i, f'⟩ := p
        rw [hfp] at hx'
        rw [List.mem_singleton.1 hx']
        exact old (by omega) (fpL_le _ _ _ _ _ hfp)
    · cases hx'
/-- A step's tests, whatever its condition. -/
theorem st_fine (c : Sh) (ch : List Sh) : (∀ x ∈ (c.st ch).hd.ts, tFine x ∧ -1 ≤ x.2.1) ∧ (c.st ch).hd.ts.length ≤ 3 := by
  cases c with
  | mk h l =>
    rw [st_mk]
    split
    · exact ⟨fun x hx => (by cases hx), Nat.zero_le _⟩
    · exact ⟨tstL_fine, tstL_len _ _⟩
end
end
end Go.Proofs.Ytiihjlafhiaigaa
