/- Layer term: the contract of Fit. -/
import Derived.Test.YtkfijbinaidaiaaUArm
namespace Go.Proofs.Ytkfijbinaidaiaa
open Go.RowKit

/-- What stands in memory while Fit goes on. -/
structure FitW (w : World) (tc : Array Value) (b g : Bd) (W : World) : Prop where
  kept : Kept Nil w W
  b1 : Blk W (w.heap.size + 1) 35 tc
  b2 : Blk W (w.heap.size + 1 + 1) 37 (cellsB b)
  b3 : Blk W (w.heap.size + 1 + 1 + 1) 37 (cellsB zeroB)
  b4 : Blk W (w.heap.size + 1 + 1 + 1 + 1) 37 (cellsB g)

/-- The memory in which Fit's loop begins. -/
def fitStart (w : World) (lc tc : Array Value) (b : Bd) : World := ((((w.alloc (.cells lc 30)).alloc (.cells tc 35)).alloc (.cells (cellsB b) 37)).alloc (.cells (cellsB zeroB) 37)).alloc (.cells (cellsB zeroB) 37)
theorem fitStart_b2 (w : World) (lc tc : Array Value) (b : Bd) : Blk (((w.alloc (.cells lc 30)).alloc (.cells tc 35)).alloc (.cells (cellsB b) 37)) (w.heap.size + 1 + 1) 37 (cellsB b) := by
  have := Blk.new ((w.alloc (.cells lc 30)).alloc (.cells tc 35)) 37 (cellsB b)
  simpa [fitStart] using this
theorem fitStart_b4 (w : World) (lc tc : Array Value) (b : Bd) : Blk (fitStart w lc tc b) (w.heap.size + 1 + 1 + 1 + 1) 37 (cellsB zeroB) := by
  have := Blk.new ((((w.alloc (.cells lc 30)).alloc (.cells tc 35)).alloc (.cells (cellsB b) 37)).alloc (.cells (cellsB zeroB) 37)) 37 (cellsB zeroB)
  simpa [fitStart] using this
theorem fitStart_fit {w : World} {lc tc : Array Value} {b : Bd} {W : World} (k : Kept (fun i => i = w.heap.size + 1 + 1 + 1 + 1) (fitStart w lc tc b) W) (h : Blk W (w.heap.size + 1 + 1 + 1 + 1) 37 (cellsB b)) :
    FitW w tc b b W ∧ Blk W w.heap.size 30 lc := by
  have c0 : Blk (fitStart w lc tc b) w.heap.size 30 lc := ((((Blk.new w 30 lc).alloc _).alloc _).alloc _).alloc _
  have c1 : Blk (fitStart w lc tc b) (w.heap.size + 1) 35 tc := by
    have := (((Blk.new (w.alloc (.cells lc 30)) 35 tc).alloc (.cells (cellsB b) 37)).alloc (.cells (cellsB zeroB) 37)).alloc (.cells (cellsB zeroB) 37)
    simpa [fitStart] using this
  have c2 : Blk (fitStart w lc tc b) (w.heap.size + 1 + 1) 37 (cellsB b) := ((fitStart_b2 w lc tc b).alloc _).alloc _
  have c3 : Blk (fitStart w lc tc b) (w.heap.size + 1 + 1 + 1) 37 (cellsB zeroB) := by
    have := (Blk.new (((w.alloc (.cells lc 30)).alloc (.cells tc 35)).alloc (.cells (cellsB b) 37)) 37 (cellsB zeroB)).alloc (.cells (cellsB zeroB) 37)
    simpa [fitStart] using this
  have kk : Kept Nil w (fitStart w lc tc b) := ((((((Kept.refl Nil w).alloc _).alloc _).alloc _).alloc _).alloc _)
  refine ⟨⟨kk.trans k (fun i hi e => by omega), c1.kept k (by omega), c2.kept k (by omega), c3.kept k (by omega), h⟩, c0.kept k (by omega)⟩

theorem FitW.step {w : World} {tc : Array Value} {b g : Bd} {W W' : World} (h : FitW w tc b g W) (k : Kept Nil W W') : FitW w tc b g W' :=
  ⟨h.kept.trans k (fun _ _ g => g), h.b1.kept k id, h.b2.kept k id, h.b3.kept k id, h.b4.kept k id⟩
theorem FitW.set_ {w : World} {tc : Array Value} {b g : Bd} {W : World} (h : FitW w tc b g W) (m : Nat) (s : Int) : FitW w tc b (upd g m s) (W.setCell ⟨w.heap.size + 1 + 1 + 1 + 1, m, none⟩ (.int .i64 s)) := by
  refine ⟨h.kept.setCell _ (.inr (by show _ ≤ w.heap.size + 1 + 1 + 1 + 1; omega)) _, h.b1.far (by show _ ≠ w.heap.size + 1 + 1 + 1 + 1; omega) _, h.b2.far (by show _ ≠ w.heap.size + 1 + 1 + 1 + 1; omega) _, h.b3.far (by show _ ≠ w.heap.size + 1 + 1 + 1 + 1; omega) _, ?_⟩
  rw [← cellsB_set]
  exact h.b4.set_ m _
def fl (x0 x1 x2 : Bool) (n0 n1 n2 t0 t1 t2 : Int) : List (Tm × Int) := [((x0, n0), t0), ((x1, n1), t1), ((x2, n2), t2)]
theorem fieldsL (x0 x1 x2 : Bool) (n0 n1 n2 t0 t1 t2 : Int) {k : Nat} (hk : k < 3) : ∃ v n s, (fl x0 x1 x2 n0 n1 n2 t0 t1 t2)[k]? = some ((v, n), s) ∧
    (∀ w, (Instr.index 30 (.agg #[.bool x0, .int .i64 n0, .bool x1, .int .i64 n1, .bool x2, .int .i64 n2]) (.int .i64 k)).run Try.prog w = .ok (.agg #[.bool v, .int .i64 n]) w) ∧
    (#[.int .i64 t0, .int .i64 t1, .int .i64 t2] : Array Value)[k]? = some (.int .i64 s) := by
  have : k = 0 ∨ k = 1 ∨ k = 2 := by omega
  rcases this with rfl | rfl | rfl
  · exact ⟨x0, n0, t0, rfl, fun w => by kernel_rfl, rfl⟩
  · exact ⟨x1, n1, t1, rfl, fun w => by kernel_rfl, rfl⟩
  · exact ⟨x2, n2, t2, rfl, fun w => by kernel_rfl, rfl⟩
theorem results_bind {fn : Func} {p q : Tmp} (h : fn.results = #[.cell p 37, .tmp q]) (tmps : Array Value) (w : World) (g : Nat) (b : Bd) (v : Value)
    (hp : tmps.getD p undef = .pointer (some ⟨g, 0, none⟩)) (hq : tmps.getD q undef = v) (hg : Blk w g 37 (cellsB b)) :
    (results fn tmps).run Try.prog w = .ok (.tuple #[.agg (cellsB b), v]) w := by
  have hp' : tmps[p]?.getD undef = .pointer (some ⟨g, 0, none⟩) := by simpa using hp
  have hq' : tmps[q]?.getD undef = v := by simpa using hq
  have hr := run_loadVar_row (P := Try.prog) w g _ _ _ _ _ hg Try.underlying37 rfl (infoB b)
  simp [results, h, hp', hq', asAddr, hr]

def FitEnd (l : List (Tm × Int)) (b : Bd) (w : World) (e : Ending) (w' : World) : Prop := e = .returned (.tuple #[.agg (cellsB (fitB l b)), .bool (fitOk l b)]) ∧ Kept Nil w w'
theorem fitEnd_none {l : List (Tm × Int)} {b : Bd} {w w' : World} (h : runL l b = none) (k : Kept Nil w w') : FitEnd l b w (.returned (.tuple #[.agg (cellsB b), .bool false])) w' := by
  unfold FitEnd; rw [(fit_none h).1, (fit_none h).2]; exact ⟨rfl, k⟩
theorem fitEnd_some {l : List (Tm × Int)} {b g : Bd} {w w' : World} (h : runL l b = some g) (k : Kept Nil w w') : FitEnd l b w (.returned (.tuple #[.agg (cellsB g), .bool true])) w' := by
  unfold FitEnd; rw [(fit_some h).1, (fit_some h).2]; exact ⟨rfl, k⟩

/-- .. and the field's own term. -/
structure FitC (w : World) (tc : Array Value) (b g : Bd) (X : Nat) (xc : Array Value) (W : World) : Prop extends FitW w tc b g W where
  x : Blk W X 23 xc
theorem FitC.step {w : World} {tc : Array Value} {b g : Bd} {X : Nat} {xc : Array Value} (W W' : World) (h : FitC w tc b g X xc W) (k : Kept Nil W W') : FitC w tc b g X xc W' :=
  ⟨h.toFitW.step k, h.x.kept k id⟩
theorem FitC.drew {w : World} {tc : Array Value} {b g : Bd} {X : Nat} {xc : Array Value} {W : World} (h : FitC w tc b g X xc W) : FitC w tc b g X xc W.drew := FitC.step W _ h (Kept.refl _ _).drew
theorem FitC.start {w : World} {tc : Array Value} {b g : Bd} {xc : Array Value} {wr w1 : World} (h : FitW w tc b g wr) (k : Kept Nil (wr.alloc (.cells xc 23)) w1) : FitC w tc b g wr.heap.size xc w1 :=
  ⟨(h.step ((Kept.refl _ _).alloc _)).step k, (Blk.new wr 23 xc).kept k id⟩

theorem FitC.set_ {w : World} {tc : Array Value} {b g : Bd} {X : Nat} {xc : Array Value} {W : World} (h : FitC w tc b g X xc W) (hX : w.heap.size + 1 + 1 + 1 + 1 < X) (m : Nat) (s : Int) : FitC w tc b (upd g m s) X xc (W.setCell ⟨w.heap.size + 1 + 1 + 1 + 1, m, none⟩ (.int .i64 s)) :=
  ⟨h.toFitW.set_ m s, h.x.far (by show X ≠ w.heap.size + 1 + 1 + 1 + 1; omega) _⟩
set_option maxHeartbeats 2000000 in
theorem fit_any (x0 x1 x2 : Bool) (n0 n1 n2 : Int) (t0 t1 t2 : Int) (b : Bd) (w : World) :
    Calls Try.prog 17 #[.agg #[.bool x0, .int .i64 n0, .bool x1, .int .i64 n1, .bool x2, .int .i64 n2], .agg #[.int .i64 t0, .int .i64 t1, .int .i64 t2], valB b] w (FitEnd (fl x0 x1 x2 n0 n1 n2 t0 t1 t2) b w) := by
  show Calls Try.prog 17 #[.agg #[.bool x0, .int .i64 n0, .bool x1, .int .i64 n1, .bool x2, .int .i64 n2], .agg #[.int .i64 t0, .int .i64 t1, .int .i64 t2], .agg (cellsB b)] w _
  have B2 := Lib.hid ((fitStart_b2 w #[.bool x0, .int .i64 n0, .bool x1, .int .i64 n1, .bool x2, .int .i64 n2] #[.int .i64 t0, .int .i64 t1, .int .i64 t2] b).alloc (.cells (cellsB zeroB) 37))
  have B4 := Lib.hid (fitStart_b4 w #[.bool x0, .int .i64 n0, .bool x1, .int .i64 n1, .bool x2, .int .i64 n2] #[.int .i64 t0, .int .i64 t1, .int .i64 t2] b)
  go_enter Try.func17, Try.ntmps17
  go_wp2_with (first
    | ((with_reducible refine wpList_alloc_bind rfl rfl _ ?_ ?_)
       · simp; rfl)
    | ((with_reducible refine wpList_load_bind rfl (.tmp 5) rfl _ rfl b ?_ ?_)
       · exact B2.out)
    | ((with_reducible refine wpList_store_bindW rfl _ _ rfl _ b rfl rfl zeroB ?_ ?_)
       · exact B4.out
       intro W kW bW
       obtain ⟨F, L⟩ := fitStart_fit (lc := #[.bool x0, .int .i64 n0, .bool x1, .int .i64 n1, .bool x2, .int .i64 n2]) (tc := #[.int .i64 t0, .int .i64 t1, .int .i64 t2]) kW bW
       have FF := Lib.hid F
       have l0 := L.cell 0
       have l1 := L.cell 1
       have l2 := L.cell 2
       have l3 := L.cell 3
       have l4 := L.cell 4
       have l5 := L.cell 5
       simp at l0 l1 l2 l3 l4 l5
       clear kW bW F L))
  clear l0 l1 l2 l3 l4 l5
  go_loopw [13] (fun i wr => ∃ (k : Nat) (g : Bd), k ≤ 3 ∧ i = .int .i64 k ∧ runL ((fl x0 x1 x2 n0 n1 n2 t0 t1 t2).take k) b = some g ∧ FitW w #[.int .i64 t0, .int .i64 t1, .int .i64 t2] b g wr) (fun i _ => 3 - (intOf i).toNat)
  case atStart => exact ⟨0, b, by omega, rfl, rfl, FF.out⟩
  case round =>
    obtain ⟨k, g, hk, rfl, hg, hF⟩ := hrel
    have HG := Lib.hid hg
    have HF := Lib.hid hF
    clear hg hF FF
    by_cases hlt : k < 3
    · obtain ⟨v, n, s, hget, hidx, hcell⟩ := fieldsL x0 x1 x2 n0 n1 n2 t0 t1 t2 hlt
      have ct : wr.cell? ⟨w.heap.size + 1, k, none⟩ = some (.int .i64 s) := by rw [HF.out.b1.cell]; exact hcell
      have HGet := Lib.hid hget
      have HCell := Lib.hid hcell
      clear hget hcell
      have HR := Lib.hid (fun W => termRight_any v n W)
      cases h : okTm v n
      · have HO := Lib.hid h
        clear h
        go_wp2_with fail
        refine (HR.out _).mono ?_
        rintro e w1 ⟨rfl, k1⟩
        rw [HO.out]
        have F1 := Lib.hid (HF.out.step (((Kept.refl Nil wr).alloc (.cells #[.bool v, .int .i64 n] 23)).trans k1 (fun _ _ g => g)))
        go_wp2_with (first
          | ((with_reducible refine wpList_load_bind rfl (.tmp 5) rfl _ rfl b ?_ ?_)
             · exact F1.out.b2)
          | ((with_reducible refine wpList_store_bindW rfl _ _ rfl _ b rfl rfl zeroB ?_ ?_)
             · exact F1.out.b3
             intro W kW bW
             have KW := Lib.hid kW
             have BW := Lib.hid bW
             clear kW bW))
        exact bodyPost_ret (results_bind Try.results17 _ W _ b (.bool false) rfl rfl BW.out) rfl (fitEnd_none (runL_fail HG.out HGet.out (step1_wrong HO.out)) (F1.out.kept.trans KW.out (fun i hi e => by omega)))
      · have HO := Lib.hid h
        cases v
        · have HS := Lib.hid (fun W => stands_any false n g W)
          rw [stand_sym h] at HS
          clear h
          by_cases es : n = s
          · subst es
            go_wp2_with fail
            refine (HR.out _).mono ?_
            rintro e w1 ⟨rfl, k1⟩
            rw [HO.out]
            have CC : FitC w #[.int .i64 t0, .int .i64 t1, .int .i64 t2] b g wr.heap.size #[.bool false, .int .i64 n] w1 := FitC.start HF.out k1
            have x0c := CC.x.cell 0
            have x1c := CC.x.cell 1
            simp at x0c x1c
            clear ct
            have HC := Lib.hid CC
            clear CC
            go_wp2_with fail
            refine wp_region_in (FitC w #[.int .i64 t0, .int .i64 t1, .int .i64 t2] b g wr.heap.size #[.bool false, .int .i64 n]) (by kernel_rfl) (by kernel_rfl) HC.out.drew ?_
            have inst : Nonempty (CW (FitC w #[.int .i64 t0, .int .i64 t1, .int .i64 t2] b g wr.heap.size #[.bool false, .int .i64 n])) := ⟨⟨_, HC.out⟩⟩
            have hx0 : ∀ m : CW (FitC w #[.int .i64 t0, .int .i64 t1, .int .i64 t2] b g wr.heap.size #[.bool false, .int .i64 n]), m.w.cell? ⟨wr.heap.size, 0, none⟩ = some (.bool false) := fun m => m.of.x.cell 0
            have hx1 : ∀ p : CW (FitC w #[.int .i64 t0, .int .i64 t1, .int .i64 t2] b g wr.heap.size #[.bool false, .int .i64 n]), p.w.cell? ⟨wr.heap.size, 1, none⟩ = some (.int .i64 n) := fun p => p.of.x.cell 1
            have hct : ∀ p : CW (FitC w #[.int .i64 t0, .int .i64 t1, .int .i64 t2] b g wr.heap.size #[.bool false, .int .i64 n]), p.w.cell? ⟨w.heap.size + 1, k, none⟩ = some (.int .i64 n) := fun p => (p.of.b1.cell k).trans HCell.out
            go_big_quiet_step (fail)
            (with_reducible refine quiet_load_bind rfl (.tmp 8) rfl _ rfl g ?_ ?_)
            · rintro _ ⟨p, rfl⟩
              exact p.of.b4
            simp only [Act.put, List.setIfInBounds_toArray, List.set_cons_succ, List.set_cons_zero]
            repeat (go_big_quiet_step ((go_at_call 24; with_reducible exact call_in FitC.step (HS.out _))))
            refine wpQuiet_nil ?_
            rintro _ ⟨p, rfl⟩
            go_wp2_with fail
            go_roundw
            case rel => exact ⟨k + 1, g, by omega, by go_num, (runL_take HG.out HGet.out).trans (step1_sym HO.out rfl), p.of.toFitW⟩
            case measure => simp [intOf]; omega
          · have hn : (n != s) = true := bne_iff_ne.2 es
            have HE := Lib.hid es
            clear es
            go_wp2_with fail
            refine (HR.out _).mono ?_
            rintro e w1 ⟨rfl, k1⟩
            rw [HO.out]
            have CC : FitC w #[.int .i64 t0, .int .i64 t1, .int .i64 t2] b g wr.heap.size #[.bool false, .int .i64 n] w1 := FitC.start HF.out k1
            have x0c := CC.x.cell 0
            have x1c := CC.x.cell 1
            simp at x0c x1c
            clear ct
            have HC := Lib.hid CC
            clear CC
            go_wp2_with fail
            refine wp_region_in (FitC w #[.int .i64 t0, .int .i64 t1, .int .i64 t2] b g wr.heap.size #[.bool false, .int .i64 n]) (by kernel_rfl) (by kernel_rfl) HC.out.drew ?_
            have inst : Nonempty (CW (FitC w #[.int .i64 t0, .int .i64 t1, .int .i64 t2] b g wr.heap.size #[.bool false, .int .i64 n])) := ⟨⟨_, HC.out⟩⟩
            have hx0 : ∀ m : CW (FitC w #[.int .i64 t0, .int .i64 t1, .int .i64 t2] b g wr.heap.size #[.bool false, .int .i64 n]), m.w.cell? ⟨wr.heap.size, 0, none⟩ = some (.bool false) := fun m => m.of.x.cell 0
            have hx1 : ∀ p : CW (FitC w #[.int .i64 t0, .int .i64 t1, .int .i64 t2] b g wr.heap.size #[.bool false, .int .i64 n]), p.w.cell? ⟨wr.heap.size, 1, none⟩ = some (.int .i64 n) := fun p => p.of.x.cell 1
            have hct : ∀ p : CW (FitC w #[.int .i64 t0, .int .i64 t1, .int .i64 t2] b g wr.heap.size #[.bool false, .int .i64 n]), p.w.cell? ⟨w.heap.size + 1, k, none⟩ = some (.int .i64 s) := fun p => (p.of.b1.cell k).trans HCell.out
            go_big_quiet_step (fail)
            (with_reducible refine quiet_load_bind rfl (.tmp 8) rfl _ rfl g ?_ ?_)
            · rintro _ ⟨p, rfl⟩
              exact p.of.b4
            simp only [Act.put, List.setIfInBounds_toArray, List.set_cons_succ, List.set_cons_zero]
            repeat (go_big_quiet_step ((go_at_call 24; with_reducible exact call_in FitC.step (HS.out _))))
            refine wpQuiet_nil ?_
            rintro _ ⟨p, rfl⟩
            go_wp2_with (first
              | ((with_reducible refine wpList_load_bind rfl (.tmp 5) rfl _ rfl b ?_ ?_)
                 · exact p.of.b2)
              | ((with_reducible refine wpList_store_bindW rfl _ _ rfl _ b rfl rfl zeroB ?_ ?_)
                 · exact p.of.b3
                 intro W kW bW
                 have KW := Lib.hid kW
                 have BW := Lib.hid bW
                 clear kW bW))
            exact bodyPost_ret (results_bind Try.results17 _ W _ b (.bool false) rfl rfl BW.out) rfl (fitEnd_none (runL_fail HG.out HGet.out (step1_sym_no HO.out HE.out)) (p.of.kept.trans KW.out (fun i hi e => by omega)))
        · obtain ⟨l, u⟩ := okTm_var.1 h
          obtain ⟨m, rfl⟩ : ∃ m : Nat, n = (m : Int) := ⟨n.toNat, by omega⟩
          have l' : 1 ≤ m := by omega
          have u' : m < 33 := by omega
          clear l u
          by_cases e0 : g m = 0
          · have HS := Lib.hid (fun W => stands_any true m (upd g m s) W)
            rw [stand_var h, upd_same] at HS
            have HE := Lib.hid e0
            clear h e0
            go_wp2_with fail
            refine (HR.out _).mono ?_
            rintro e w1 ⟨rfl, k1⟩
            rw [HO.out]
            have CC : FitC w #[.int .i64 t0, .int .i64 t1, .int .i64 t2] b g wr.heap.size #[.bool true, .int .i64 m] w1 := FitC.start HF.out k1
            have x0c := CC.x.cell 0
            have x1c := CC.x.cell 1
            simp at x0c x1c
            have c4 := CC.b4.cell m
            rw [cellsB_get g u', HE.out] at c4
            have f4 := CC.b4.frozen m
            have ct1 : w1.cell? ⟨w.heap.size + 1, k, none⟩ = some (.int .i64 s) := (CC.b1.cell k).trans HCell.out
            clear ct
            have CS := Lib.hid (CC.set_ HF.out.b4.lt m s)
            have HC := Lib.hid CC
            clear CC
            go_wp2_with fail
            go_region
            go_wp2_with fail
            clear x0c x1c c4 f4 ct1 HC
            have HC := Lib.hid CS.out.drew
            refine wp_region_in (FitC w #[.int .i64 t0, .int .i64 t1, .int .i64 t2] b (upd g m s) wr.heap.size #[.bool true, .int .i64 m]) (by kernel_rfl) (by kernel_rfl) HC.out.drew ?_
            have inst : Nonempty (CW (FitC w #[.int .i64 t0, .int .i64 t1, .int .i64 t2] b (upd g m s) wr.heap.size #[.bool true, .int .i64 m])) := ⟨⟨_, HC.out⟩⟩
            have hx0 : ∀ m : CW (FitC w #[.int .i64 t0, .int .i64 t1, .int .i64 t2] b (upd g m s) wr.heap.size #[.bool true, .int .i64 m]), m.w.cell? ⟨wr.heap.size, 0, none⟩ = some (.bool true) := fun m => m.of.x.cell 0
            have hx1 : ∀ p : CW (FitC w #[.int .i64 t0, .int .i64 t1, .int .i64 t2] b (upd g m s) wr.heap.size #[.bool true, .int .i64 m]), p.w.cell? ⟨wr.heap.size, 1, none⟩ = some (.int .i64 m) := fun p => p.of.x.cell 1
            have hct : ∀ p : CW (FitC w #[.int .i64 t0, .int .i64 t1, .int .i64 t2] b (upd g m s) wr.heap.size #[.bool true, .int .i64 m]), p.w.cell? ⟨w.heap.size + 1, k, none⟩ = some (.int .i64 s) := fun p => (p.of.b1.cell k).trans HCell.out
            go_big_quiet_step (fail)
            (with_reducible refine quiet_load_bind rfl (.tmp 8) rfl _ rfl (upd g m s) ?_ ?_)
            · rintro _ ⟨p, rfl⟩
              exact p.of.b4
            simp only [Act.put, List.setIfInBounds_toArray, List.set_cons_succ, List.set_cons_zero]
            repeat (go_big_quiet_step ((go_at_call 24; with_reducible exact call_in FitC.step (HS.out _))))
            refine wpQuiet_nil ?_
            rintro _ ⟨p, rfl⟩
            go_wp2_with fail
            go_roundw
            case rel => exact ⟨k + 1, (upd g m s), by omega, by go_num, (runL_take HG.out HGet.out).trans (step1_new HO.out HE.out), p.of.toFitW⟩
            case measure => simp [intOf]; omega
          · have HS := Lib.hid (fun W => stands_any true m g W)
            rw [stand_var h] at HS
            have HE := Lib.hid e0
            obtain ⟨q, hq⟩ : ∃ q, q = g m := ⟨_, rfl⟩
            rw [← hq] at HS e0
            have e1 : (q == 0) = false := by simpa using e0
            have HQ := Lib.hid hq
            clear h e0 hq
            by_cases es : q = s
            · subst es
              go_wp2_with fail
              refine (HR.out _).mono ?_
              rintro e w1 ⟨rfl, k1⟩
              rw [HO.out]
              have CC : FitC w #[.int .i64 t0, .int .i64 t1, .int .i64 t2] b g wr.heap.size #[.bool true, .int .i64 m] w1 := FitC.start HF.out k1
              have x0c := CC.x.cell 0
              have x1c := CC.x.cell 1
              simp at x0c x1c
              have c4 := CC.b4.cell m
              rw [cellsB_get g u', ← HQ.out] at c4
              clear ct
              have HC := Lib.hid CC
              clear CC
              go_wp2_with fail
              refine wp_region_in (FitC w #[.int .i64 t0, .int .i64 t1, .int .i64 t2] b g wr.heap.size #[.bool true, .int .i64 m]) (by kernel_rfl) (by kernel_rfl) HC.out.drew ?_
              have inst : Nonempty (CW (FitC w #[.int .i64 t0, .int .i64 t1, .int .i64 t2] b g wr.heap.size #[.bool true, .int .i64 m])) := ⟨⟨_, HC.out⟩⟩
              have hx0 : ∀ m : CW (FitC w #[.int .i64 t0, .int .i64 t1, .int .i64 t2] b g wr.heap.size #[.bool true, .int .i64 m]), m.w.cell? ⟨wr.heap.size, 0, none⟩ = some (.bool true) := fun m => m.of.x.cell 0
              have hx1 : ∀ p : CW (FitC w #[.int .i64 t0, .int .i64 t1, .int .i64 t2] b g wr.heap.size #[.bool true, .int .i64 m]), p.w.cell? ⟨wr.heap.size, 1, none⟩ = some (.int .i64 m) := fun p => p.of.x.cell 1
              have hct : ∀ p : CW (FitC w #[.int .i64 t0, .int .i64 t1, .int .i64 t2] b g wr.heap.size #[.bool true, .int .i64 m]), p.w.cell? ⟨w.heap.size + 1, k, none⟩ = some (.int .i64 q) := fun p => (p.of.b1.cell k).trans HCell.out
              go_big_quiet_step (fail)
              (with_reducible refine quiet_load_bind rfl (.tmp 8) rfl _ rfl g ?_ ?_)
              · rintro _ ⟨p, rfl⟩
                exact p.of.b4
              simp only [Act.put, List.setIfInBounds_toArray, List.set_cons_succ, List.set_cons_zero]
              repeat (go_big_quiet_step ((go_at_call 24; with_reducible exact call_in FitC.step (HS.out _))))
              refine wpQuiet_nil ?_
              rintro _ ⟨p, rfl⟩
              go_wp2_with fail
              go_roundw
              case rel => exact ⟨k + 1, g, by omega, by go_num, (runL_take HG.out HGet.out).trans (step1_old HO.out HE.out HQ.out.symm), p.of.toFitW⟩
              case measure => simp [intOf]; omega
            · have hn : (q != s) = true := bne_iff_ne.2 es
              have HN := Lib.hid es
              clear es
              go_wp2_with fail
              refine (HR.out _).mono ?_
              rintro e w1 ⟨rfl, k1⟩
              rw [HO.out]
              have CC : FitC w #[.int .i64 t0, .int .i64 t1, .int .i64 t2] b g wr.heap.size #[.bool true, .int .i64 m] w1 := FitC.start HF.out k1
              have x0c := CC.x.cell 0
              have x1c := CC.x.cell 1
              simp at x0c x1c
              have c4 := CC.b4.cell m
              rw [cellsB_get g u', ← HQ.out] at c4
              clear ct
              have HC := Lib.hid CC
              clear CC
              go_wp2_with fail
              refine wp_region_in (FitC w #[.int .i64 t0, .int .i64 t1, .int .i64 t2] b g wr.heap.size #[.bool true, .int .i64 m]) (by kernel_rfl) (by kernel_rfl) HC.out.drew ?_
              have inst : Nonempty (CW (FitC w #[.int .i64 t0, .int .i64 t1, .int .i64 t2] b g wr.heap.size #[.bool true, .int .i64 m])) := ⟨⟨_, HC.out⟩⟩
              have hx0 : ∀ m : CW (FitC w #[.int .i64 t0, .int .i64 t1, .int .i64 t2] b g wr.heap.size #[.bool true, .int .i64 m]), m.w.cell? ⟨wr.heap.size, 0, none⟩ = some (.bool true) := fun m => m.of.x.cell 0
              have hx1 : ∀ p : CW (FitC w #[.int .i64 t0, .int .i64 t1, .int .i64 t2] b g wr.heap.size #[.bool true, .int .i64 m]), p.w.cell? ⟨wr.heap.size, 1, none⟩ = some (.int .i64 m) := fun p => p.of.x.cell 1
              have hct : ∀ p : CW (FitC w #[.int .i64 t0, .int .i64 t1, .int .i64 t2] b g wr.heap.size #[.bool true, .int .i64 m]), p.w.cell? ⟨w.heap.size + 1, k, none⟩ = some (.int .i64 s) := fun p => (p.of.b1.cell k).trans HCell.out
              go_big_quiet_step (fail)
              (with_reducible refine quiet_load_bind rfl (.tmp 8) rfl _ rfl g ?_ ?_)
              · rintro _ ⟨p, rfl⟩
                exact p.of.b4
              simp only [Act.put, List.setIfInBounds_toArray, List.set_cons_succ, List.set_cons_zero]
              repeat (go_big_quiet_step ((go_at_call 24; with_reducible exact call_in FitC.step (HS.out _))))
              refine wpQuiet_nil ?_
              rintro _ ⟨p, rfl⟩
              go_wp2_with (first
                | ((with_reducible refine wpList_load_bind rfl (.tmp 5) rfl _ rfl b ?_ ?_)
                   · exact p.of.b2)
                | ((with_reducible refine wpList_store_bindW rfl _ _ rfl _ b rfl rfl zeroB ?_ ?_)
                   · exact p.of.b3
                   intro W kW bW
                   have KW := Lib.hid kW
                   have BW := Lib.hid bW
                   clear kW bW))
              exact bodyPost_ret (results_bind Try.results17 _ W _ b (.bool false) rfl rfl BW.out) rfl (fitEnd_none (runL_fail HG.out HGet.out (step1_old_no HO.out HE.out (HQ.out ▸ HN.out))) (p.of.kept.trans KW.out (fun i hi e => by omega)))
    · have hk3 : k = 3 := by omega
      subst hk3
      go_wp2_with (first
        | ((with_reducible refine wpList_load_bind rfl (.tmp 8) rfl _ rfl g ?_ ?_)
           · exact HF.out.b4)
        | ((with_reducible refine wpList_store_bindW rfl _ _ rfl _ g rfl rfl zeroB ?_ ?_)
           · exact HF.out.b3
           intro W kW bW
           have KW := Lib.hid kW
           have BW := Lib.hid bW
           clear kW bW))
      exact bodyPost_ret (results_bind Try.results17 _ W _ g (.bool true) rfl rfl BW.out) rfl (fitEnd_some HG.out (HF.out.kept.trans KW.out (fun i hi e => by omega)))
end Go.Proofs.Ytkfijbinaidaiaa
