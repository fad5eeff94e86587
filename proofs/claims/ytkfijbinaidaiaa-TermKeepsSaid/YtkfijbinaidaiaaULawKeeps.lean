/- Whatever terms, triple and binding come in, TermKeeps returns true, and writes nothing that was there. No condition. -/
import Derived.Test.YtkfijbinaidaiaaULawFits
namespace Go.Proofs.Ytkfijbinaidaiaa
open Go.RowKit Go.ChangeShapes Go.WideShapes Go.ChangeAt

/-- Is that variable one of the terms? -/
def ownV (x0 x1 x2 : Bool) (n0 n1 n2 : Int) (j : Nat) : Bool := (x0 && n0 == (j : Int)) || ((x1 && n1 == (j : Int)) || (x2 && n2 == (j : Int)))
/-- .. of the first i of them. -/
def ownTo (i : Nat) (x0 x1 x2 : Bool) (n0 n1 n2 : Int) (j : Nat) : Bool := (decide (0 < i) && (x0 && n0 == (j : Int))) || ((decide (1 < i) && (x1 && n1 == (j : Int))) || (decide (2 < i) && (x2 && n2 == (j : Int))))
theorem ownTo_zero (x0 x1 x2 : Bool) (n0 n1 n2 : Int) (j : Nat) : ownTo 0 x0 x1 x2 n0 n1 n2 j = false := by unfold ownTo; simp
theorem ownTo_three (x0 x1 x2 : Bool) (n0 n1 n2 : Int) (j : Nat) : ownTo 3 x0 x1 x2 n0 n1 n2 j = ownV x0 x1 x2 n0 n1 n2 j := by unfold ownTo ownV; simp
theorem ownTo_succ {i : Nat} (hi : i < 3) (x0 x1 x2 : Bool) (n0 n1 n2 : Int) (j : Nat) {v : Bool} {n s : Int} {t0 t1 t2 : Int} (h : (fl x0 x1 x2 n0 n1 n2 t0 t1 t2)[i]? = some ((v, n), s)) :
    ownTo (i + 1) x0 x1 x2 n0 n1 n2 j = (ownTo i x0 x1 x2 n0 n1 n2 j || (v && n == (j : Int))) := by
  have : i = 0 ∨ i = 1 ∨ i = 2 := by omega
  rcases this with rfl | rfl | rfl
  · cases h; unfold ownTo; simp
  · cases h; unfold ownTo; simp
  · cases h; unfold ownTo; simp [Bool.or_assoc]

/-- What the law asks of each variable's place. -/
theorem keeps_facts {x0 x1 x2 : Bool} {n0 n1 n2 t0 t1 t2 : Int} {hb gb : Bd} {ok : Bool} (hf : fine x0 x1 x2 n0 n1 n2 = true) (ht : 1 ≤ t0 ∧ 1 ≤ t1 ∧ 1 ≤ t2)
    (hg : fitB (fl x0 x1 x2 n0 n1 n2 t0 t1 t2) hb = gb) (ho : fitOk (fl x0 x1 x2 n0 n1 n2 t0 t1 t2) hb = ok) (j : Nat) :
    (hb j ≠ 0 → gb j = hb j) ∧ (ownV x0 x1 x2 n0 n1 n2 j = false → gb j = hb j) ∧ (ok = true → ownV x0 x1 x2 n0 n1 n2 j = true → gb j ≠ 0) := by
  have hne : ∀ p ∈ fl x0 x1 x2 n0 n1 n2 t0 t1 t2, p.2 ≠ 0 := by
    intro p hp
    simp only [fl, List.mem_cons, List.not_mem_nil, or_false] at hp
    rcases hp with rfl | rfl | rfl <;> (show _ ≠ (0 : Int)) <;> simp only [] <;> omega
  have hk : ∀ p ∈ fl x0 x1 x2 n0 n1 n2 t0 t1 t2, okTm p.1.1 p.1.2 = true := by
    unfold fine at hf
    simp only [Bool.and_eq_true] at hf
    intro p hp
    simp only [fl, List.mem_cons, List.not_mem_nil, or_false] at hp
    rcases hp with rfl | rfl | rfl
    · exact hf.1.1
    · exact hf.1.2
    · exact hf.2
  cases hr : runL (fl x0 x1 x2 n0 n1 n2 t0 t1 t2) hb with
  | none =>
    have h1 := fit_none hr
    rw [h1.1] at hg
    rw [h1.2] at ho
    subst hg ho
    exact ⟨fun _ => rfl, fun _ => rfl, fun h => by cases h⟩
  | some g =>
    have h1 := fit_some hr
    rw [h1.1] at hg
    subst hg
    refine ⟨runL_ext _ _ _ hr j, fun h => ?_, fun _ h => ?_⟩
    · refine runL_other _ _ _ j (fun p hp hv e => ?_) hr
      simp only [fl, List.mem_cons, List.not_mem_nil, or_false] at hp
      unfold ownV at h
      simp only [Bool.or_eq_false_iff, Bool.and_eq_false_iff] at h
      rcases hp with rfl | rfl | rfl
      · have e' : n0 = (j : Int) := e
        have hv' : x0 = true := hv
        rcases h.1 with h2 | h2
        · rw [h2] at hv'; cases hv'
        · rw [e'] at h2; simp at h2
      · have e' : n1 = (j : Int) := e
        have hv' : x1 = true := hv
        rcases h.2.1 with h2 | h2
        · rw [h2] at hv'; cases hv'
        · rw [e'] at h2; simp at h2
      · have e' : n2 = (j : Int) := e
        have hv' : x2 = true := hv
        rcases h.2.2 with h2 | h2
        · rw [h2] at hv'; cases hv'
        · rw [e'] at h2; simp at h2
    · unfold ownV at h
      simp only [Bool.or_eq_true, Bool.and_eq_true, beq_iff_eq] at h
      rcases h with ⟨hv, e⟩ | ⟨hv, e⟩ | ⟨hv, e⟩
      · exact runL_own hne hk hr (s := t0) (by rw [← e, ← hv]; simp [fl])
      · exact runL_own hne hk hr (s := t1) (by rw [← e, ← hv]; simp [fl])
      · exact runL_own hne hk hr (s := t2) (by rw [← e, ← hv]; simp [fl])
theorem keeps_again {x0 x1 x2 : Bool} {n0 n1 n2 t0 t1 t2 : Int} {hb gb : Bd} (hf : fine x0 x1 x2 n0 n1 n2 = true) (ht : 1 ≤ t0 ∧ 1 ≤ t1 ∧ 1 ≤ t2)
    (hg : fitB (fl x0 x1 x2 n0 n1 n2 t0 t1 t2) hb = gb) (ho : fitOk (fl x0 x1 x2 n0 n1 n2 t0 t1 t2) hb = true) : runL (fl x0 x1 x2 n0 n1 n2 t0 t1 t2) gb = some gb := by
  have hne : ∀ p ∈ fl x0 x1 x2 n0 n1 n2 t0 t1 t2, p.2 ≠ 0 := by
    intro p hp
    simp only [fl, List.mem_cons, List.not_mem_nil, or_false] at hp
    rcases hp with rfl | rfl | rfl <;> (show _ ≠ (0 : Int)) <;> simp only [] <;> omega
  have hk : ∀ p ∈ fl x0 x1 x2 n0 n1 n2 t0 t1 t2, okTm p.1.1 p.1.2 = true := by
    unfold fine at hf
    simp only [Bool.and_eq_true] at hf
    intro p hp
    simp only [fl, List.mem_cons, List.not_mem_nil, or_false] at hp
    rcases hp with rfl | rfl | rfl
    · exact hf.1.1
    · exact hf.1.2
    · exact hf.2
  cases hr : runL (fl x0 x1 x2 n0 n1 n2 t0 t1 t2) hb with
  | none => rw [(fit_none hr).2] at ho; cases ho
  | some g =>
    rw [(fit_some hr).1] at hg
    subst hg
    exact runL_again _ _ hne hk (runL_stand _ _ _ hne hr)

/-- What stands in memory while the law goes through the binding. -/
structure KeepsL (w : World) (lc tc : Array Value) (b : Bd) (N X : Nat) (hb g : Bd) (W : World) : Prop where
  law : LW w lc tc b W
  h : Blk W N 37 (cellsB hb)
  x : Blk W X 37 (cellsB g)
theorem KeepsL.step {w : World} {lc tc : Array Value} {b : Bd} {N X : Nat} {hb g : Bd} {W W' : World} (h : KeepsL w lc tc b N X hb g W) (k : Kept Nil W W') : KeepsL w lc tc b N X hb g W' := ⟨h.law.step k, h.h.kept k id, h.x.kept k id⟩
set_option maxRecDepth 100000 in
set_option maxHeartbeats 4000000 in
theorem keepsLaw_any (x0 x1 x2 : Bool) (n0 n1 n2 t0 t1 t2 : Int) (b : Bd) (w : World) :
    Calls Try.prog 7 #[valL x0 x1 x2 n0 n1 n2, .agg #[.int .i64 t0, .int .i64 t1, .int .i64 t2], .agg (cellsB b)] w fun e w' => e = .returned (.bool true) ∧ Kept Nil w w' := by
  have HA := Lib.hid (fun W => awake_any W)
  have HF := Lib.hid (fun W => fine_any x0 x1 x2 n0 n1 n2 W)
  have HT : Hid (∀ W, Calls Try.prog 15 #[.agg #[.int .i64 t0, .int .i64 t1, .int .i64 t2]] W fun e w' => e = .returned (.bool (okT (t0, t1, t2))) ∧ Kept Nil W w') := Lib.hid (fun W => refTri_any (t0, t1, t2) W)
  cases hf : fine x0 x1 x2 n0 n1 n2
  · rw [hf] at HF
    clear hf
    go_enter Try.func7, Try.ntmps7
    go_wp2_with fail
    refine (HF.out _).mono ?_
    rintro e w1 ⟨rfl, k1⟩
    go_wp2_with fail
    refine (HA.out _).mono ?_
    rintro e w2 ⟨rfl, k2⟩
    go_wp2_with fail
    go_ret
    exact ⟨rfl, (((((Kept.refl Nil w).alloc _).alloc _).alloc _).trans k1 (fun _ _ g => g)).trans k2 (fun _ _ g => g)⟩
  · rw [hf] at HF
    have HFine := Lib.hid hf
    clear hf
    cases ht : okT (t0, t1, t2)
    · rw [ht] at HT
      clear ht
      go_enter Try.func7, Try.ntmps7
      go_wp2_with fail
      refine (HF.out _).mono ?_
      rintro e w1 ⟨rfl, k1⟩
      have L1 := Lib.hid ((LW.start w (lawL x0 x1 x2 n0 n1 n2) (triC t0 t1 t2) b).step k1)
      have t0c : w1.cell? ⟨w.heap.size + 1, 0, none⟩ = some (.int .i64 t0) := L1.out.b1.cell 0
      have t1c : w1.cell? ⟨w.heap.size + 1, 1, none⟩ = some (.int .i64 t1) := L1.out.b1.cell 1
      have t2c : w1.cell? ⟨w.heap.size + 1, 2, none⟩ = some (.int .i64 t2) := L1.out.b1.cell 2
      clear k1
      go_wp2_with fail
      refine (HT.out _).mono ?_
      rintro e w2 ⟨rfl, k2⟩
      go_wp2_with fail
      refine (HA.out _).mono ?_
      rintro e w3 ⟨rfl, k3⟩
      go_wp2_with fail
      go_ret
      exact ⟨rfl, (L1.out.kept.trans k2 (fun _ _ g => g)).trans k3 (fun _ _ g => g)⟩
    · rw [ht] at HT
      have HTri := Lib.hid (okT_iff.1 ht)
      clear ht
      have CH := Lib.hid (fun W => held_any b W)
      generalize hhb : heldB b = hb at CH
      have HHB := Lib.hid hhb
      have HOne : Hid (1 ≤ t0 ∧ 1 ≤ t1 ∧ 1 ≤ t2) := Lib.hid ⟨HTri.out.1.1, HTri.out.2.1.1, HTri.out.2.2.1⟩
      clear hhb
      have CF : Hid (∀ W, Calls Try.prog 17 #[.agg #[.bool x0, .int .i64 n0, .bool x1, .int .i64 n1, .bool x2, .int .i64 n2], .agg #[.int .i64 t0, .int .i64 t1, .int .i64 t2], .agg (cellsB hb)] W fun e w' => e = .returned (.tuple #[.agg (cellsB (fitB (fl x0 x1 x2 n0 n1 n2 t0 t1 t2) hb)), .bool (fitOk (fl x0 x1 x2 n0 n1 n2 t0 t1 t2) hb)]) ∧ Kept Nil W w') := Lib.hid fun W => fit_any x0 x1 x2 n0 n1 n2 t0 t1 t2 hb W
      generalize hgb : fitB (fl x0 x1 x2 n0 n1 n2 t0 t1 t2) hb = gb at CF
      generalize hok : fitOk (fl x0 x1 x2 n0 n1 n2 t0 t1 t2) hb = ok at CF
      have HGB := Lib.hid hgb
      have HOK := Lib.hid hok
      clear hgb hok
      go_enter Try.func7, Try.ntmps7
      go_wp2_with fail
      refine (HF.out _).mono ?_
      rintro e w1 ⟨rfl, k1⟩
      have L1 := Lib.hid ((LW.start w (lawL x0 x1 x2 n0 n1 n2) (triC t0 t1 t2) b).step k1)
      have t0c : w1.cell? ⟨w.heap.size + 1, 0, none⟩ = some (.int .i64 t0) := L1.out.b1.cell 0
      have t1c : w1.cell? ⟨w.heap.size + 1, 1, none⟩ = some (.int .i64 t1) := L1.out.b1.cell 1
      have t2c : w1.cell? ⟨w.heap.size + 1, 2, none⟩ = some (.int .i64 t2) := L1.out.b1.cell 2
      clear k1
      go_wp2_with fail
      refine (HT.out _).mono ?_
      rintro e w2 ⟨rfl, k2⟩
      have L2 := Lib.hid (L1.out.step k2)
      clear k2 t0c t1c t2c L1
      go_wp2_with ((with_reducible refine wpList_load_bind rfl (.tmp 5) rfl _ rfl b ?_ ?_)
                   · exact L2.out.b2)
      refine (CH.out _).mono ?_
      rintro e w3 ⟨rfl, k3⟩
      have L3 := Lib.hid (L2.out.step k3)
      clear k3 L2
      go_wp2_with (first
        | ((with_reducible refine wpList_alloc_bind rfl rfl _ rfl ?_))
        | ((with_reducible refine wpList_store_bindW rfl (.tmp 7) _ rfl _ hb rfl rfl zeroB ?_ ?_)
           · exact Blk.new _ _ _
           intro w4 kW bW
           have L4 := Lib.hid (L3.out.box kW)
           have H4 := Lib.hid bW
           have t0c : w4.cell? ⟨w.heap.size + 1, 0, none⟩ = some (.int .i64 t0) := L4.out.b1.cell 0
           have t1c : w4.cell? ⟨w.heap.size + 1, 1, none⟩ = some (.int .i64 t1) := L4.out.b1.cell 1
           have t2c : w4.cell? ⟨w.heap.size + 1, 2, none⟩ = some (.int .i64 t2) := L4.out.b1.cell 2
           have l0c : w4.cell? ⟨w.heap.size, 0, none⟩ = some (.bool x0) := L4.out.b0.cell 0
           have l1c : w4.cell? ⟨w.heap.size, 1, none⟩ = some (.int .i64 n0) := L4.out.b0.cell 1
           have l2c : w4.cell? ⟨w.heap.size, 2, none⟩ = some (.bool x1) := L4.out.b0.cell 2
           have l3c : w4.cell? ⟨w.heap.size, 3, none⟩ = some (.int .i64 n1) := L4.out.b0.cell 3
           have l4c : w4.cell? ⟨w.heap.size, 4, none⟩ = some (.bool x2) := L4.out.b0.cell 4
           have l5c : w4.cell? ⟨w.heap.size, 5, none⟩ = some (.int .i64 n2) := L4.out.b0.cell 5
           clear kW bW)
        | ((with_reducible refine wpList_load_bind rfl (.tmp 7) rfl _ rfl hb ?_ ?_)
           · exact H4.out))
      refine (CF.out _).mono ?_
      rintro e w5 ⟨rfl, k5⟩
      generalize hN : w3.heap.size = N at H4
      have L5 := Lib.hid (L4.out.step k5)
      have H5 := Lib.hid (H4.out.kept k5 id)
      clear k5 t0c t1c t2c l0c l1c l2c l3c l4c l5c L4 H4 L3
      go_wp2_with (first
        | ((with_reducible refine wpList_alloc_bind rfl rfl _ rfl ?_))
        | ((with_reducible refine wpList_store_bindW rfl (.tmp 8) _ rfl _ gb rfl rfl zeroB ?_ ?_)
           · exact Blk.new _ _ _
           intro w6 kW bW
           have L6 := Lib.hid (L5.out.box kW)
           have X6 := Lib.hid bW
           have H6 := Lib.hid ((H5.out.alloc _).kept kW (fun e => by have := H5.out.lt; omega))
           clear kW bW))
      have K6 : Hid (KeepsL w (lawL x0 x1 x2 n0 n1 n2) (triC t0 t1 t2) b N w5.heap.size hb gb w6) := Lib.hid ⟨L6.out, H6.out, X6.out⟩
      have HFacts := Lib.hid (fun j => keeps_facts HFine.out HOne.out HGB.out HOK.out j)
      clear L6 H6 X6 L5 H5 HT HF CH
      go_loopw [34] (fun i wr => ∃ j : Nat, j ≤ 33 ∧ i = .int .i64 j ∧ KeepsL w (lawL x0 x1 x2 n0 n1 n2) (triC t0 t1 t2) b N w5.heap.size hb gb wr) (fun i _ => 33 - (intOf i).toNat)
      case atStart => exact ⟨0, by omega, rfl, K6.out⟩
      case round =>
        obtain ⟨j, hj, rfl, hL⟩ := hrel
        have HL := Lib.hid hL
        clear hL K6
        by_cases hlt : j < 33
        · have l0c : wr.cell? ⟨w.heap.size, 0, none⟩ = some (.bool x0) := HL.out.law.b0.cell 0
          have l1c : wr.cell? ⟨w.heap.size, 1, none⟩ = some (.int .i64 n0) := HL.out.law.b0.cell 1
          have l2c : wr.cell? ⟨w.heap.size, 2, none⟩ = some (.bool x1) := HL.out.law.b0.cell 2
          have l3c : wr.cell? ⟨w.heap.size, 3, none⟩ = some (.int .i64 n1) := HL.out.law.b0.cell 3
          have l4c : wr.cell? ⟨w.heap.size, 4, none⟩ = some (.bool x2) := HL.out.law.b0.cell 4
          have l5c : wr.cell? ⟨w.heap.size, 5, none⟩ = some (.int .i64 n2) := HL.out.law.b0.cell 5
          obtain ⟨wo, rfl⟩ : ∃ wo : World, wo = wr := ⟨_, rfl⟩
          go_wp2_with fail
          clear l0c l1c l2c l3c l4c l5c
          go_loopw [11, 38] (fun o i wr => ∃ m : Nat, m ≤ 3 ∧ i = .int .i64 m ∧ o = .bool (ownTo m x0 x1 x2 n0 n1 n2 j) ∧ KeepsL w (lawL x0 x1 x2 n0 n1 n2) (triC t0 t1 t2) b N w5.heap.size hb gb wr) (fun _ i _ => 3 - (intOf i).toNat)
          case atStart => exact ⟨0, by omega, rfl, by rw [ownTo_zero], HL.out⟩
          case round =>
            obtain ⟨m, hm, rfl, rfl, hI⟩ := hrel
            have HI := Lib.hid hI
            clear hI
            by_cases hm3 : m < 3
            · obtain ⟨v, n, s, hget, hidx, _⟩ := fieldsL x0 x1 x2 n0 n1 n2 t0 t1 t2 hm3
              have HM := Lib.hid (ownTo_succ hm3 x0 x1 x2 n0 n1 n2 j hget)
              clear hget
              generalize ownTo m x0 x1 x2 n0 n1 n2 j = o at HM
              cases o
              · cases v
                · go_wp2_with fail
                  go_roundw
                  case rel => exact ⟨m + 1, by omega, by go_num, by rw [HM.out]; rfl, HI.out.step ((Kept.refl _ _).alloc _)⟩
                  case measure => simp [intOf]; omega
                · by_cases en : n = (j : Int)
                  · subst en
                    go_wp2_with fail
                    go_roundw
                    case rel => exact ⟨m + 1, by omega, by go_num, by rw [HM.out]; simp, HI.out.step ((Kept.refl _ _).alloc _)⟩
                    case measure => simp [intOf]; omega
                  · have hn : (n == (j : Int)) = false := by simpa using en
                    clear en
                    go_wp2_with fail
                    go_roundw
                    case rel => exact ⟨m + 1, by omega, by go_num, by rw [HM.out, hn]; rfl, HI.out.step ((Kept.refl _ _).alloc _)⟩
                    case measure => simp [intOf]; omega
              · go_wp2_with fail
                go_roundw
                case rel => exact ⟨m + 1, by omega, by go_num, by rw [HM.out]; rfl, HI.out.step ((Kept.refl _ _).alloc _)⟩
                case measure => simp [intOf]; omega
            · obtain rfl : m = 3 := by omega
              rw [ownTo_three]
              obtain ⟨p1, p2, p3⟩ := HFacts.out j
              have cx : wr.cell? ⟨w5.heap.size, j, none⟩ = some (.int .i64 (gb j)) := (HI.out.x.cell j).trans (cellsB_get _ hlt)
              have ch : wr.cell? ⟨N, j, none⟩ = some (.int .i64 (hb j)) := (HI.out.h.cell j).trans (cellsB_get _ hlt)
              generalize ownV x0 x1 x2 n0 n1 n2 j = own at p2 p3
              generalize gb j = q at p1 p2 p3 cx
              generalize hb j = r at p1 p2 ch
              have HQe := Lib.hid HFacts
              clear HFacts
              by_cases e : q = r
              · subst e
                clear p1 p2
                by_cases e0 : q = 0
                · subst e0
                  cases own
                  · clear p3
                    cases ok
                    all_goals
                      go_wp2_with fail
                      go_quiet (fail)
                      go_wp2_with fail
                      go_roundw
                      case rel => exact ⟨j + 1, by omega, by go_num, HI.out.step ((Kept.refl _ _).drewN _)⟩
                      case measure => simp [intOf]; omega
                  · cases ok
                    · clear p3
                      go_wp2_with fail
                      go_quiet (fail)
                      go_wp2_with fail
                      go_roundw
                      case rel => exact ⟨j + 1, by omega, by go_num, HI.out.step ((Kept.refl _ _).drewN _)⟩
                      case measure => simp [intOf]; omega
                    · exact absurd rfl (p3 rfl rfl)
                · have en : (q != 0) = true := bne_iff_ne.2 e0
                  have ee : (q == 0) = false := by simpa using e0
                  clear e0 p3
                  cases own
                  all_goals cases ok
                  all_goals
                    go_wp2_with fail
                    go_quiet (fail)
                    go_wp2_with fail
                    go_roundw
                    case rel => exact ⟨j + 1, by omega, by go_num, HI.out.step ((Kept.refl _ _).drewN _)⟩
                    case measure => simp [intOf]; omega
              · have hr0 : r = 0 := by
                  by_cases h : r = 0
                  · exact h
                  · exact absurd (p1 h) e
                have ho : own = true := by
                  cases own
                  · exact absurd (p2 rfl) e
                  · rfl
                subst hr0 ho
                have en : (q != 0) = true := bne_iff_ne.2 e
                have ee : (q == 0) = false := by simpa using e
                clear e p1 p2 p3
                cases ok
                all_goals
                  go_wp2_with fail
                  go_quiet (fail)
                  go_wp2_with fail
                  go_roundw
                  case rel => exact ⟨j + 1, by omega, by go_num, HI.out.step ((Kept.refl _ _).drewN _)⟩
                  case measure => simp [intOf]; omega
        · obtain rfl : j = 33 := by omega
          have l0c : wr.cell? ⟨w.heap.size, 0, none⟩ = some (.bool x0) := HL.out.law.b0.cell 0
          have l1c : wr.cell? ⟨w.heap.size, 1, none⟩ = some (.int .i64 n0) := HL.out.law.b0.cell 1
          have l2c : wr.cell? ⟨w.heap.size, 2, none⟩ = some (.bool x1) := HL.out.law.b0.cell 2
          have l3c : wr.cell? ⟨w.heap.size, 3, none⟩ = some (.int .i64 n1) := HL.out.law.b0.cell 3
          have l4c : wr.cell? ⟨w.heap.size, 4, none⟩ = some (.bool x2) := HL.out.law.b0.cell 4
          have l5c : wr.cell? ⟨w.heap.size, 5, none⟩ = some (.int .i64 n2) := HL.out.law.b0.cell 5
          have t0c : wr.cell? ⟨w.heap.size + 1, 0, none⟩ = some (.int .i64 t0) := HL.out.law.b1.cell 0
          have t1c : wr.cell? ⟨w.heap.size + 1, 1, none⟩ = some (.int .i64 t1) := HL.out.law.b1.cell 1
          have t2c : wr.cell? ⟨w.heap.size + 1, 2, none⟩ = some (.int .i64 t2) := HL.out.law.b1.cell 2
          have CF2 : Hid (∀ W, Calls Try.prog 17 #[.agg #[.bool x0, .int .i64 n0, .bool x1, .int .i64 n1, .bool x2, .int .i64 n2], .agg #[.int .i64 t0, .int .i64 t1, .int .i64 t2], .agg (cellsB gb)] W fun e w' => e = .returned (.tuple #[.agg (cellsB (fitB (fl x0 x1 x2 n0 n1 n2 t0 t1 t2) gb)), .bool (fitOk (fl x0 x1 x2 n0 n1 n2 t0 t1 t2) gb)]) ∧ Kept Nil W w') := Lib.hid fun W => fit_any x0 x1 x2 n0 n1 n2 t0 t1 t2 gb W
          obtain ⟨yb, yo, HY, CY⟩ : ∃ (yb : Bd) (yo : Bool), Hid (ok = true → yb = gb ∧ yo = true) ∧ Hid (∀ W, Calls Try.prog 17 #[.agg #[.bool x0, .int .i64 n0, .bool x1, .int .i64 n1, .bool x2, .int .i64 n2], .agg #[.int .i64 t0, .int .i64 t1, .int .i64 t2], .agg (cellsB gb)] W fun e w' => e = .returned (.tuple #[.agg (cellsB yb), .bool yo]) ∧ Kept Nil W w') :=
            ⟨_, _, fun h => by
              have := keeps_again HFine.out HOne.out HGB.out (HOK.out.trans h)
              exact ⟨(fit_some this).1, (fit_some this).2⟩, CF2⟩
          clear CF2
          go_wp2_with ((with_reducible refine wpList_load_bind rfl (.tmp 8) rfl _ rfl gb ?_ ?_)
                       · exact HL.out.x)
          refine (CY.out _).mono ?_
          rintro e w7 ⟨rfl, k7⟩
          have L7 := Lib.hid (HL.out.step k7)
          clear k7 l0c l1c l2c l3c l4c l5c t0c t1c t2c
          cases ok
          · go_wp2_with (first
              | ((with_reducible refine wpList_alloc_bind rfl rfl _ rfl ?_))
              | ((with_reducible refine wpList_store_bindW rfl (.tmp 14) _ rfl _ yb rfl rfl zeroB ?_ ?_)
                 · exact Blk.new _ _ _
                 intro w8 kW bW
                 have L8 := Lib.hid (L7.out.law.box kW)
                 clear kW bW))
            refine (HA.out _).mono ?_
            rintro e w9 ⟨rfl, k9⟩
            go_wp2_with fail
            go_ret
            exact ⟨rfl, L8.out.kept.trans k9 (fun _ _ g => g)⟩
          · obtain ⟨rfl, rfl⟩ := HY.out rfl
            have hq : ∀ W, (Op.equalIn 10000 37 (.agg (cellsB yb)) (.agg (cellsB yb))).run Try.prog W = .ok true W := fun W => by rw [eqB, sameB_refl]
            go_wp2_with (first
              | ((with_reducible refine wpList_alloc_bind rfl rfl _ rfl ?_))
              | ((with_reducible refine wpList_store_bindW rfl (.tmp 14) _ rfl _ yb rfl rfl zeroB ?_ ?_)
                 · exact Blk.new _ _ _
                 intro w8 kW bW
                 have L8 := Lib.hid (L7.out.law.box kW)
                 have Y8 := Lib.hid bW
                 have X8 := Lib.hid ((L7.out.x.alloc _).kept kW (fun e => by have := L7.out.x.lt; omega))
                 clear kW bW)
              | ((refine wpList_load_bindG (by rfl) (.tmp 14) (by rfl) _ (by rfl) yb ?_ ?_)
                 · exact Y8.out)
              | ((refine wpList_load_bindG (by rfl) (.tmp 8) (by rfl) _ (by rfl) yb ?_ ?_)
                 · exact X8.out))
            refine (HA.out _).mono ?_
            rintro e w9 ⟨rfl, k9⟩
            go_wp2_with fail
            go_ret
            exact ⟨rfl, L8.out.kept.trans k9 (fun _ _ g => g)⟩

set_option maxRecDepth 100000 in
theorem termKeeps_lifted (os : Os) (started : os.Started) (H : Type) (enc : TypeId × Value → H) :
    ReturnsInHanded {} Try.checked os 7 .any (Rows.termKeepsSpec.pre6 enc Try.prog Try.f7 Rows.termKeepsRow.domain false) (Rows.termKeepsSpec.post enc Try.prog Try.f7 false true false false) := by
  refine returnsInHanded_of_change (C := Try.checked) own started (by kernel_rfl) Try.func7
    (ChangeSpec.witness6 (enc := enc) (C := Try.checked) false ⟨#[], #[(valL false false false 0 0 0 : Value), (.agg #[.int .i64 0, .int .i64 0, .int .i64 0] : Value), (.agg (cellsB zeroB) : Value)], []⟩ 8 (by kernel_rfl) (by kernel_rfl) (by kernel_rfl) (by kernel_rfl)) ?_
  intro W base args ds gs before hval0 hW hcnd _
  have hval : ∀ (j : Nat) t v, Try.f7.params[j]? = some t → args[j]? = some v → Value.okWide Try.prog W .any base t v := hval0
  have hW' := hW
  obtain ⟨p, q, hA0, hV, rfl, hfz, hnd⟩ := hW
  have hA : DataW.TrodAll enc Try.prog W 0 (fun _ => true) true Try.f7.params.toList args.toList ds p := hA0
  rw [Try.params7] at hA hval
  obtain ⟨v0, vs0, d0, ds0, p0, q0, hargs, rfl, rfl, h0, r0⟩ := trodAll_cons hA
  obtain ⟨v1, vs1, d1, ds1, p1, q1, rfl, rfl, rfl, h1, r1⟩ := trodAll_cons r0
  obtain ⟨v2, vs2, d2, ds2, p2, q2, rfl, rfl, rfl, h2, r2⟩ := trodAll_cons r1
  obtain ⟨rfl, rfl, rfl⟩ := trodAll_nil r2
  obtain rfl : args = #[v0, v1, v2] := by cases args; simp_all
  obtain ⟨rfl, rfl⟩ := trodVars_none hV
  have lt0 : ∀ x ∈ p0, x.block < W.heap.size := by obtain ⟨m, hm⟩ := h0; exact DataW.trod_lt m _ _ _ hm
  have g0 := h0
  obtain ⟨a0, b0, c0, k0, l0, m0, rfl⟩ := open_L (hval 0 30 v0 rfl rfl) g0
  have lt1 : ∀ x ∈ p1, x.block < W.heap.size := by obtain ⟨m, hm⟩ := h1; exact DataW.trod_lt m _ _ _ hm
  have g1 := h1
  obtain ⟨k1, l1, m1, rfl⟩ := open_T (hval 1 35 v1 rfl rfl) g1
  have lt2 : ∀ x ∈ p2, x.block < W.heap.size := by obtain ⟨m, hm⟩ := h2; exact DataW.trod_lt m _ _ _ hm
  have g2 := h2
  obtain ⟨x2, rfl⟩ := open_B (hval 2 37 v2 rfl rfl) g2
  refine (keepsLaw_any a0 b0 c0 k0 l0 m0 k1 l1 m1 x2 W).mono fun e W' ⟨he, hk⟩ => ?_
  subst he
  exact ⟨_, rfl, _, _, _, [], _, [], hW', trodAll_mk1 (shut_bool Try.underlying4 _), trodAll_cons_mk (Below.trod laidOut (by kernel_rfl) (of_decide_eq_true (by kernel_rfl)) h0 hk.toBelow lt0) (trodAll_cons_mk (Below.trod laidOut (by kernel_rfl) (of_decide_eq_true (by kernel_rfl)) h1 hk.toBelow lt1) (trodAll_cons_mk (Below.trod laidOut (by kernel_rfl) (of_decide_eq_true (by kernel_rfl)) h2 hk.toBelow lt2) (trodAll_mk0))), rfl, hk.toBelow.frame _, fun h => by cases h⟩

theorem termKeeps_holds : Rows.TermKeepsSaid :=
  OpenClaim.holds_of_wide 7 Try.f7 rfl rfl rfl rfl rfl rfl rfl ⟨rfl, rfl, rfl, rfl, rfl⟩ rfl rfl rfl rfl rfl (by kernel_rfl) Try.func7 (by kernel_rfl)
    (of_decide_eq_true (by kernel_rfl)) (by unfold Func.isWrapper; first | (rw [if_neg (of_decide_eq_false (by kernel_rfl))]; exact ⟨rfl, rfl⟩) | (rw [if_pos (by decide +kernel)]; kernel_rfl))
    (fun os started H enc _ => termKeeps_lifted os started H enc)
#print axioms termKeeps_holds
end Go.Proofs.Ytkfijbinaidaiaa
