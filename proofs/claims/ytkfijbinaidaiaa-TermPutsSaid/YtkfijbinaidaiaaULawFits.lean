/- Whatever terms, triple and binding come in, TermFits returns true, and writes nothing that was there. No condition. -/
import Derived.Test.YtkfijbinaidaiaaUOpen
import Derived.Test.YtkfijbinaidaiaaURefFit
import Derived.Test.YtkfijbinaidaiaaUPut
import Derived.Test.YtkfijbinaidaiaaUTri
import Derived.Test.YtkfijbinaidaiaaUFitM
import Derived.Deep.MidRow
namespace Go.Proofs.Ytkfijbinaidaiaa
open Go.RowKit Go.ChangeShapes Go.WideShapes Go.ChangeAt

abbrev lawL (x0 x1 x2 : Bool) (n0 n1 n2 : Int) : Array Value := #[.bool x0, .int .i64 n0, .bool x1, .int .i64 n1, .bool x2, .int .i64 n2]
/-- What came into a law, boxed. -/
structure LW (w : World) (lc tc : Array Value) (b : Bd) (W : World) : Prop where
  kept : Kept Nil w W
  b0 : Blk W w.heap.size 30 lc
  b1 : Blk W (w.heap.size + 1) 35 tc
  b2 : Blk W (w.heap.size + 1 + 1) 37 (cellsB b)
theorem LW.step {w : World} {lc tc : Array Value} {b : Bd} {W W' : World} (h : LW w lc tc b W) (k : Kept Nil W W') : LW w lc tc b W' := ⟨h.kept.trans k (fun _ _ g => g), h.b0.kept k id, h.b1.kept k id, h.b2.kept k id⟩
theorem LW.start (w : World) (lc tc : Array Value) (b : Bd) : LW w lc tc b (((w.alloc (.cells lc 30)).alloc (.cells tc 35)).alloc (.cells (cellsB b) 37)) := by
  refine ⟨(((Kept.refl Nil w).alloc _).alloc _).alloc _, ((Blk.new w _ _).alloc _).alloc _, ?_, ?_⟩
  · have := (Blk.new (w.alloc (.cells lc 30)) 35 tc).alloc (.cells (cellsB b) 37)
    simpa using this
  · have := Blk.new ((w.alloc (.cells lc 30)).alloc (.cells tc 35)) 37 (cellsB b)
    simpa using this
/-- .. behind a new variable that is written at once. -/
theorem LW.box {w : World} {lc tc : Array Value} {b : Bd} {W W' : World} {o : Obj} (h : LW w lc tc b W) (k : Kept (fun i => i = W.heap.size) (W.alloc o) W') : LW w lc tc b W' := by
  have l0 := h.b0.lt
  have l1 := h.b1.lt
  have l2 := h.b2.lt
  exact ⟨(h.kept.alloc o).trans k (fun i hi e => by have := h.kept.size; omega), (h.b0.alloc o).kept k (by omega), (h.b1.alloc o).kept k (by omega), (h.b2.alloc o).kept k (by omega)⟩

/-- What the loads read. -/
abbrev Seen (N0 N : Nat) (x0 x1 x2 : Bool) (n0 n1 n2 t0 t1 t2 : Int) (l : List Value) (w' : World) : Prop :=
  w'.cell? ⟨N0, 0, none⟩ = some (.bool x0) ∧ w'.cell? ⟨N0, 1, none⟩ = some (.int .i64 n0) ∧ w'.cell? ⟨N0, 2, none⟩ = some (.bool x1) ∧ w'.cell? ⟨N0, 3, none⟩ = some (.int .i64 n1) ∧ w'.cell? ⟨N0, 4, none⟩ = some (.bool x2) ∧ w'.cell? ⟨N0, 5, none⟩ = some (.int .i64 n2) ∧ w'.cell? ⟨N0 + 1, 0, none⟩ = some (.int .i64 t0) ∧ w'.cell? ⟨N0 + 1, 1, none⟩ = some (.int .i64 t1) ∧ w'.cell? ⟨N0 + 1, 2, none⟩ = some (.int .i64 t2) ∧ w'.rangeAt N 0 l
/-- What stands in memory while the law goes through the binding. -/
structure FitsL (w : World) (lc tc : Array Value) (b : Bd) (X : Nat) (g : Bd) (B : Nat) (v : Value) (qs : List P2) (W : World) : Prop where
  law : LW w lc tc b W
  x : Blk W X 37 (cellsB g)
  row : PRow W B v qs
theorem FitsL.step {w : World} {lc tc : Array Value} {b : Bd} {X : Nat} {g : Bd} {B : Nat} {v : Value} {qs : List P2} (W W' : World) (h : FitsL w lc tc b X g B v qs W) (k : Kept Nil W W') : FitsL w lc tc b X g B v qs W' :=
  ⟨h.law.step k, h.x.kept k id, h.row.kept k⟩
theorem FitsL.drew {w : World} {lc tc : Array Value} {b : Bd} {X : Nat} {g : Bd} {B : Nat} {v : Value} {qs : List P2} {W : World} (h : FitsL w lc tc b X g B v qs W) : FitsL w lc tc b X g B v qs W.drew := FitsL.step W _ h (Kept.refl _ _).drew
theorem eqT3 (a1 a2 a3 : Int) (w : World) : (Op.equalIn 10000 35 (.agg #[.int .i64 a1, .int .i64 a2, .int .i64 a3]) (.agg #[.int .i64 a1, .int .i64 a2, .int .i64 a3])).run Try.prog w = .ok true w := by
  obtain ⟨i, hi⟩ := Option.isSome_iff_exists.1 infoInt
  have e : ∀ x y : Int, (Op.equalIn 9999 3 (.int .i64 x) (.int .i64 y)).run Try.prog w = .ok (x == y) w := fun x y => run_equalIn_int w 9998 3 .i64 .i64 x y Try.underlying3
  rw [run_equalIn_array w 9999 _ _ Try.underlying35 hi, cellsInt]
  show (Op.eqItems 9999 3 1 _ _ [0, 1, 2]).run Try.prog w = _
  have p0 : ∀ x y z : Value, (part 3 #[x, y, z] 0).run Try.prog w = .ok x w := fun x y z => partInt #[x, y, z] 0 x rfl w
  have p1 : ∀ x y z : Value, (part 3 #[x, y, z] 1).run Try.prog w = .ok y w := fun x y z => partInt #[x, y, z] 1 y rfl w
  have p2 : ∀ x y z : Value, (part 3 #[x, y, z] 2).run Try.prog w = .ok z w := fun x y z => partInt #[x, y, z] 2 z rfl w
  simp [Op.eqItems, p0, p1, p2, e]
theorem pairs_list (b : Bd) : ∃ l : List Value, l.toArray = cellsB b ∧ (Try.prog.info? 37).map (·.size) = some l.length ∧ ∀ W g, Blk W g 37 (cellsB b) → W.rangeAt g 0 l := by
  refine ⟨(cellsB b).toList, Array.toArray_toList, ?_, fun W g h j v hv => ?_⟩
  · rw [Array.length_toList]; exact infoB b
  · rw [Nat.zero_add, h.cell]; simpa using hv
theorem Kept.cellOf {w w' : World} {p : Addr} {v : Value} (k : Kept Nil w w') (h : w.cell? p = some v) : w'.cell? p = some v := by rw [k.cell (World.block_lt_of_cell? w _ h) id]; exact h
theorem Kept.rangeOf {w w' : World} {g o : Nat} {cs : List Value} (k : Kept Nil w w') (h : w.rangeAt g o cs) : w'.rangeAt g o cs := fun j v hv => k.cellOf (h j v hv)
theorem Kept.heapOf {w w' : World} {g : Nat} {o : Obj} (k : Kept Nil w w') (h : w.heap[g]? = some o) : w'.heap[g]? = some o := by rw [k.block g (Array.getElem?_eq_some_iff.1 h).1 id]; exact h
theorem seen_kept {N0 N : Nat} {x0 x1 x2 : Bool} {n0 n1 n2 t0 t1 t2 : Int} {l : List Value} {w w' : World} (k : Kept Nil w w') (h : Seen N0 N x0 x1 x2 n0 n1 n2 t0 t1 t2 l w) : Seen N0 N x0 x1 x2 n0 n1 n2 t0 t1 t2 l w' :=
  ⟨k.cellOf h.1, k.cellOf h.2.1, k.cellOf h.2.2.1, k.cellOf h.2.2.2.1, k.cellOf h.2.2.2.2.1, k.cellOf h.2.2.2.2.2.1, k.cellOf h.2.2.2.2.2.2.1, k.cellOf h.2.2.2.2.2.2.2.1, k.cellOf h.2.2.2.2.2.2.2.2.1, k.rangeOf h.2.2.2.2.2.2.2.2.2⟩

set_option maxHeartbeats 2000000 in
theorem fitsLaw_any (x0 x1 x2 : Bool) (n0 n1 n2 t0 t1 t2 : Int) (b : Bd) (w : World) :
    Calls Try.prog 4 #[valL x0 x1 x2 n0 n1 n2, .agg #[.int .i64 t0, .int .i64 t1, .int .i64 t2], .agg (cellsB b)] w fun e w' => e = .returned (.bool true) ∧ Kept Nil w w' := by
  have HA := Lib.hid (fun W => awake_any W)
  have HF := Lib.hid (fun W => fine_any x0 x1 x2 n0 n1 n2 W)
  have HT : Hid (∀ W, Calls Try.prog 15 #[.agg #[.int .i64 t0, .int .i64 t1, .int .i64 t2]] W fun e w' => e = .returned (.bool (okT (t0, t1, t2))) ∧ Kept Nil W w') := Lib.hid (fun W => refTri_any (t0, t1, t2) W)
  cases hf : fine x0 x1 x2 n0 n1 n2
  · rw [hf] at HF
    clear hf
    go_enter Try.func4, Try.ntmps4
    go_wp2_with fail
    refine (HF.out _).mono ?_
    rintro e w1 ⟨rfl, k1⟩
    go_wp2_with fail
    refine (HA.out _).mono ?_
    rintro e w2 ⟨rfl, k2⟩
    go_wp2_with fail
    go_ret
    exact ⟨rfl, (((((Kept.refl Nil w).alloc _).alloc _).alloc _).trans k1 (fun _ _ g => g)).trans k2 (fun _ _ g => g)⟩
  · rw [hf] at HF
    have HFine := Lib.hid hf
    clear hf
    cases ht : okT (t0, t1, t2)
    · rw [ht] at HT
      clear ht
      go_enter Try.func4, Try.ntmps4
      go_wp2_with fail
      refine (HF.out _).mono ?_
      rintro e w1 ⟨rfl, k1⟩
      have L1 := Lib.hid ((LW.start w (lawL x0 x1 x2 n0 n1 n2) (triC t0 t1 t2) b).step k1)
      have t0c : w1.cell? ⟨w.heap.size + 1, 0, none⟩ = some (.int .i64 t0) := L1.out.b1.cell 0
      have t1c : w1.cell? ⟨w.heap.size + 1, 1, none⟩ = some (.int .i64 t1) := L1.out.b1.cell 1
      have t2c : w1.cell? ⟨w.heap.size + 1, 2, none⟩ = some (.int .i64 t2) := L1.out.b1.cell 2
      clear k1
      go_wp2_with fail
      refine (HT.out _).mono ?_
      rintro e w2 ⟨rfl, k2⟩
      go_wp2_with fail
      refine (HA.out _).mono ?_
      rintro e w3 ⟨rfl, k3⟩
      go_wp2_with fail
      go_ret
      exact ⟨rfl, (L1.out.kept.trans k2 (fun _ _ g => g)).trans k3 (fun _ _ g => g)⟩
    · rw [ht] at HT
      have HTri := Lib.hid (okT_iff.1 ht)
      clear ht
      have CH := Lib.hid (fun W => held_any b W)
      generalize hhb : heldB b = hb at CH
      have HHB := Lib.hid hhb
      have HRep : Hid (Rep (pairsTo 33 hb) hb) := Lib.hid (by rw [← hhb]; exact rep_pairs (fun k => (heldB_range b k).1))
      have HLen := Lib.hid (pairsTo_len 33 hb)
      have HOne : Hid (1 ≤ t0 ∧ 1 ≤ t1 ∧ 1 ≤ t2) := Lib.hid ⟨HTri.out.1.1, HTri.out.2.1.1, HTri.out.2.2.1⟩
      have HZ : Hid (hb 0 = 0) := Lib.hid (by rw [← hhb]; exact heldB_zero b)
      have CR := Lib.hid (fun W => ref_any x0 x1 x2 n0 n1 n2 W)
      clear hhb
      have CF : Hid (∀ W, Calls Try.prog 17 #[.agg #[.bool x0, .int .i64 n0, .bool x1, .int .i64 n1, .bool x2, .int .i64 n2], .agg #[.int .i64 t0, .int .i64 t1, .int .i64 t2], .agg (cellsB hb)] W fun e w' => e = .returned (.tuple #[.agg (cellsB (fitB (fl x0 x1 x2 n0 n1 n2 t0 t1 t2) hb)), .bool (fitOk (fl x0 x1 x2 n0 n1 n2 t0 t1 t2) hb)]) ∧ Kept Nil W w') := Lib.hid fun W => fit_any x0 x1 x2 n0 n1 n2 t0 t1 t2 hb W
      generalize hgb : fitB (fl x0 x1 x2 n0 n1 n2 t0 t1 t2) hb = gb at CF
      generalize hok : fitOk (fl x0 x1 x2 n0 n1 n2 t0 t1 t2) hb = ok at CF
      have HGB := Lib.hid hgb
      have HOK := Lib.hid hok
      have CFit : Hid (∀ (W : World) (B : Nat) (v8 : Value), PRow W B v8 (pairsTo 33 hb) → B ≤ W.heap.size → Calls Try.prog 18 #[valR (isV x0) (isV x1) (isV x2) n0 n1 n2, .agg #[.int .i64 t0, .int .i64 t1, .int .i64 t2], v8] W fun e w' => ∃ v qs, e = .returned (.tuple #[v, .bool ok]) ∧ PRow w' B v qs ∧ qs.length ≤ 60 ∧ Rep qs gb ∧ Kept Nil W w') := Lib.hid fun W B v8 r8 h8 => by
        refine (refFit_any HFine.out HOne.out r8 h8 HLen.out HRep.out).mono ?_
        rintro e w' ⟨v, qs, he, h1, h2, h3, h4⟩
        rw [hok] at he
        rw [hgb] at h3
        exact ⟨v, qs, he, h1, h2, h3, h4⟩
      clear hgb hok
      go_enter Try.func4, Try.ntmps4
      go_wp2_with fail
      refine (HF.out _).mono ?_
      rintro e w1 ⟨rfl, k1⟩
      have L1 := Lib.hid ((LW.start w (lawL x0 x1 x2 n0 n1 n2) (triC t0 t1 t2) b).step k1)
      have t0c : w1.cell? ⟨w.heap.size + 1, 0, none⟩ = some (.int .i64 t0) := L1.out.b1.cell 0
      have t1c : w1.cell? ⟨w.heap.size + 1, 1, none⟩ = some (.int .i64 t1) := L1.out.b1.cell 1
      have t2c : w1.cell? ⟨w.heap.size + 1, 2, none⟩ = some (.int .i64 t2) := L1.out.b1.cell 2
      clear k1
      go_wp2_with fail
      refine (HT.out _).mono ?_
      rintro e w2 ⟨rfl, k2⟩
      have L2 := Lib.hid (L1.out.step k2)
      clear k2 t0c t1c t2c L1
      go_wp2_with ((with_reducible refine wpList_load_bind rfl (.tmp 5) rfl _ rfl b ?_ ?_)
                   · exact L2.out.b2)
      refine (CH.out _).mono ?_
      rintro e w3 ⟨rfl, k3⟩
      have L3 := Lib.hid (L2.out.step k3)
      clear k3 L2
      go_wp2_with (first
        | ((with_reducible refine wpList_alloc_bind rfl rfl _ rfl ?_))
        | ((with_reducible refine wpList_store_bindW rfl (.tmp 7) _ rfl _ hb rfl rfl zeroB ?_ ?_)
           · exact Blk.new _ _ _
           intro w4 kW bW
           have L4 := Lib.hid (L3.out.box kW)
           have H4 := Lib.hid bW
           have t0c : w4.cell? ⟨w.heap.size + 1, 0, none⟩ = some (.int .i64 t0) := L4.out.b1.cell 0
           have t1c : w4.cell? ⟨w.heap.size + 1, 1, none⟩ = some (.int .i64 t1) := L4.out.b1.cell 1
           have t2c : w4.cell? ⟨w.heap.size + 1, 2, none⟩ = some (.int .i64 t2) := L4.out.b1.cell 2
           have l0c : w4.cell? ⟨w.heap.size, 0, none⟩ = some (.bool x0) := L4.out.b0.cell 0
           have l1c : w4.cell? ⟨w.heap.size, 1, none⟩ = some (.int .i64 n0) := L4.out.b0.cell 1
           have l2c : w4.cell? ⟨w.heap.size, 2, none⟩ = some (.bool x1) := L4.out.b0.cell 2
           have l3c : w4.cell? ⟨w.heap.size, 3, none⟩ = some (.int .i64 n1) := L4.out.b0.cell 3
           have l4c : w4.cell? ⟨w.heap.size, 4, none⟩ = some (.bool x2) := L4.out.b0.cell 4
           have l5c : w4.cell? ⟨w.heap.size, 5, none⟩ = some (.int .i64 n2) := L4.out.b0.cell 5
           clear kW bW)
        | ((with_reducible refine wpList_load_bind rfl (.tmp 7) rfl _ rfl hb ?_ ?_)
           · exact H4.out))
      refine (CF.out _).mono ?_
      rintro e w5 ⟨rfl, k5⟩
      generalize hN : w3.heap.size = N at H4
      have L5 := Lib.hid (L4.out.step k5)
      have H5 := Lib.hid (H4.out.kept k5 id)
      clear k5 t0c t1c t2c l0c l1c l2c l3c l4c l5c L4 H4 L3
      go_wp2_with (first
        | ((with_reducible refine wpList_alloc_bind rfl rfl _ rfl ?_))
        | ((with_reducible refine wpList_store_bindW rfl (.tmp 8) _ rfl _ gb rfl rfl zeroB ?_ ?_)
           · exact Blk.new _ _ _
           intro w6 kW bW
           have L6 := Lib.hid (L5.out.box kW)
           have X6 := Lib.hid bW
           have H6 := Lib.hid ((H5.out.alloc _).kept kW (fun e => by have := H5.out.lt; omega))
           clear kW bW))
      have t0c : w6.cell? ⟨w.heap.size + 1, 0, none⟩ = some (.int .i64 t0) := L6.out.b1.cell 0
      have t1c : w6.cell? ⟨w.heap.size + 1, 1, none⟩ = some (.int .i64 t1) := L6.out.b1.cell 1
      have t2c : w6.cell? ⟨w.heap.size + 1, 2, none⟩ = some (.int .i64 t2) := L6.out.b1.cell 2
      have l0c : w6.cell? ⟨w.heap.size, 0, none⟩ = some (.bool x0) := L6.out.b0.cell 0
      have l1c : w6.cell? ⟨w.heap.size, 1, none⟩ = some (.int .i64 n0) := L6.out.b0.cell 1
      have l2c : w6.cell? ⟨w.heap.size, 2, none⟩ = some (.bool x1) := L6.out.b0.cell 2
      have l3c : w6.cell? ⟨w.heap.size, 3, none⟩ = some (.int .i64 n1) := L6.out.b0.cell 3
      have l4c : w6.cell? ⟨w.heap.size, 4, none⟩ = some (.bool x2) := L6.out.b0.cell 4
      have l5c : w6.cell? ⟨w.heap.size, 5, none⟩ = some (.int .i64 n2) := L6.out.b0.cell 5
      obtain ⟨lst, hlst, hi, hat⟩ := pairs_list hb
      have hh : w6.rangeAt N 0 lst := hat _ _ H6.out
      have hu := Try.underlying37
      have CP := Lib.hid (fun W => pairs_any hb W)
      clear hat CF CH HT HF
      have SS : Hid (Seen w.heap.size N x0 x1 x2 n0 n1 n2 t0 t1 t2 lst w6.drew) := Lib.hid (seen_kept (Kept.refl Nil w6).drew ⟨l0c, l1c, l2c, l3c, l4c, l5c, t0c, t1c, t2c, hh⟩)
      clear l0c l1c l2c l3c l4c l5c t0c t1c t2c hh
      go_region_held3 (Seen w.heap.size N x0 x1 x2 n0 n1 n2 t0 t1 t2 lst)
        (first | exact seen_kept k9 (seen_kept k8 (seen_kept k7 SS.out)) | exact seen_kept k8 (seen_kept k7 SS.out) | exact seen_kept k7 SS.out | exact SS.out)
        (first | (go_at_call 10; refine (CR.out _).mono ?_; rintro e w7 ⟨rfl, k7⟩) | (go_at_call 19; refine (CP.out _).mono ?_; rintro e w8 ⟨v8, rfl, r8, k8⟩) | (go_at_call 18; refine (CFit.out _ _ _ r8 k8.size).mono ?_; rintro e w9 ⟨v9, qs, rfl, r9, l9, p9, k9⟩))
      have L9 : Hid (FitsL w (lawL x0 x1 x2 n0 n1 n2) (triC t0 t1 t2) b w5.heap.size gb w7.heap.size v9 qs w9) := Lib.hid ⟨(((L6.out.step (Kept.refl Nil w6).drew).step k7).step k8).step k9, (((X6.out.drew).kept k7 id).kept k8 id).kept k9 id, r9⟩
      have H9 := Lib.hid ((((H6.out.drew).kept k7 id).kept k8 id).kept k9 id)
      have HQ := Lib.hid p9
      have HLQ := Lib.hid l9
      have HTri2 := HTri.out
      clear k7 k8 k9 r8 r9 p9 l9 SS L6 X6 H6 HTri2 hi hlst hu CFit CR CP
      cases ok
      · have hgh : gb = hb := by
          have h1 := HGB.out
          have h2 := HOK.out
          unfold fitOk at h2
          unfold fitB at h1
          cases hr : runL (fl x0 x1 x2 n0 n1 n2 t0 t1 t2) hb with
          | none => rw [hr] at h1; exact h1.symm
          | some g => rw [hr] at h2; cases h2
        subst hgh
        have hq : ∀ W, (Op.equalIn 10000 37 (.agg (cellsB gb)) (.agg (cellsB gb))).run Try.prog W = .ok true W := fun W => by rw [eqB, sameB_refl]
        have CPut : Hid (∀ W, Calls Try.prog 21 #[.agg #[.bool x0, .int .i64 n0, .bool x1, .int .i64 n1, .bool x2, .int .i64 n2], .agg (cellsB gb)] W fun e w' => e = .returned (.tuple #[.agg (cells3 (putT (stand (x0, n0) gb) (stand (x1, n1) gb) (stand (x2, n2) gb))), .bool (putOk (stand (x0, n0) gb) (stand (x1, n1) gb) (stand (x2, n2) gb))]) ∧ Kept Nil W w') := Lib.hid fun W => put_any x0 x1 x2 n0 n1 n2 gb W
        generalize putT (stand (x0, n0) gb) (stand (x1, n1) gb) (stand (x2, n2) gb) = pt at CPut
        generalize putOk (stand (x0, n0) gb) (stand (x1, n1) gb) (stand (x2, n2) gb) = po at CPut
        obtain ⟨p0, p1, p2⟩ := pt
        have HGZ := HZ
        go_wp2_with (first
          | ((refine wpList_load_bindG (by rfl) (.tmp 8) (by rfl) _ (by rfl) gb ?_ ?_)
             · exact L9.out.x)
          | ((refine wpList_load_bindG (by rfl) (.tmp 7) (by rfl) _ (by rfl) gb ?_ ?_)
             · exact H9.out))
        clear hq
        go_loopw [54] (fun i wr => ∃ j : Nat, j ≤ 33 ∧ i = .int .i64 j ∧ FitsL w (lawL x0 x1 x2 n0 n1 n2) (triC t0 t1 t2) b w5.heap.size gb w7.heap.size v9 qs wr) (fun i _ => 33 - (intOf i).toNat)
        case atStart => exact ⟨0, by omega, rfl, L9.out⟩
        case round =>
          obtain ⟨j, hj, rfl, hL⟩ := hrel
          have HL := Lib.hid hL
          clear hL
          by_cases hlt : j < 33
          · by_cases h0 : 0 < j
            · have CG : Hid (∀ p : CW (FitsL w (lawL x0 x1 x2 n0 n1 n2) (triC t0 t1 t2) b w5.heap.size gb w7.heap.size v9 qs), Calls Try.prog 20 #[v9, .int .i64 j] p.w fun e w' => e = .returned (.int .i64 (gb j)) ∧ Kept Nil p.w w') := Lib.hid fun p => by
                have := get_any p.of.row (by have := HLQ.out; omega) (j : Int)
                rw [HQ.out.2 j h0 hlt] at this
                exact this
              have hx : ∀ p : CW (FitsL w (lawL x0 x1 x2 n0 n1 n2) (triC t0 t1 t2) b w5.heap.size gb w7.heap.size v9 qs), p.w.cell? ⟨w5.heap.size, j, none⟩ = some (.int .i64 (gb j)) := fun p => (p.of.x.cell j).trans (cellsB_get _ hlt)
              generalize gb j = q at CG hx
              go_wp2_with fail
              refine wp_region_in (FitsL w (lawL x0 x1 x2 n0 n1 n2) (triC t0 t1 t2) b w5.heap.size gb w7.heap.size v9 qs) (by kernel_rfl) (by kernel_rfl) HL.out.drew ?_
              have inst : Nonempty (CW (FitsL w (lawL x0 x1 x2 n0 n1 n2) (triC t0 t1 t2) b w5.heap.size gb w7.heap.size v9 qs)) := ⟨⟨_, HL.out⟩⟩
              repeat (go_big_quiet_step ((go_at_call 20; with_reducible exact call_in FitsL.step (CG.out _))))
              refine wpQuiet_nil ?_
              rintro _ ⟨p, rfl⟩
              go_wp2_with fail
              go_roundw
              case rel => exact ⟨j + 1, by omega, by go_num, p.of⟩
              case measure => simp [intOf]; omega
            · have hd : decide (0 < j) = false := decide_eq_false h0
              go_wp2_with fail
              refine wp_region_in (FitsL w (lawL x0 x1 x2 n0 n1 n2) (triC t0 t1 t2) b w5.heap.size gb w7.heap.size v9 qs) (by kernel_rfl) (by kernel_rfl) HL.out.drew ?_
              have inst : Nonempty (CW (FitsL w (lawL x0 x1 x2 n0 n1 n2) (triC t0 t1 t2) b w5.heap.size gb w7.heap.size v9 qs)) := ⟨⟨_, HL.out⟩⟩
              repeat (go_big_quiet_step (fail))
              refine wpQuiet_nil ?_
              rintro _ ⟨p, rfl⟩
              go_wp2_with fail
              go_roundw
              case rel => exact ⟨j + 1, by omega, by go_num, p.of⟩
              case measure => simp [intOf]; omega
          · obtain rfl : j = 33 := by omega
            have l0c : wr.cell? ⟨w.heap.size, 0, none⟩ = some (.bool x0) := HL.out.law.b0.cell 0
            have l1c : wr.cell? ⟨w.heap.size, 1, none⟩ = some (.int .i64 n0) := HL.out.law.b0.cell 1
            have l2c : wr.cell? ⟨w.heap.size, 2, none⟩ = some (.bool x1) := HL.out.law.b0.cell 2
            have l3c : wr.cell? ⟨w.heap.size, 3, none⟩ = some (.int .i64 n1) := HL.out.law.b0.cell 3
            have l4c : wr.cell? ⟨w.heap.size, 4, none⟩ = some (.bool x2) := HL.out.law.b0.cell 4
            have l5c : wr.cell? ⟨w.heap.size, 5, none⟩ = some (.int .i64 n2) := HL.out.law.b0.cell 5
            go_wp2_with ((with_reducible refine wpList_load_bind rfl (.tmp 8) rfl _ rfl (gb) ?_ ?_)
                         · exact HL.out.x)
            refine (CPut.out _).mono ?_
            rintro e w10 ⟨rfl, k10⟩
            have L10 := Lib.hid (HL.out.step _ _ k10)
            have t0c : w10.cell? ⟨w.heap.size + 1, 0, none⟩ = some (.int .i64 t0) := L10.out.law.b1.cell 0
            have t1c : w10.cell? ⟨w.heap.size + 1, 1, none⟩ = some (.int .i64 t1) := L10.out.law.b1.cell 1
            have t2c : w10.cell? ⟨w.heap.size + 1, 2, none⟩ = some (.int .i64 t2) := L10.out.law.b1.cell 2
            have xc : w10.cell? ⟨w5.heap.size, 0, none⟩ = some (.int .i64 0) := (L10.out.x.cell 0).trans ((cellsB_get _ (by decide)).trans (by rw [HGZ.out]))
            have hl1 := L10.out.law.b1.lt
            have hlx := L10.out.x.lt
            clear l0c l1c l2c l3c l4c l5c k10
            go_wp2_with fail
            refine (HA.out _).mono ?_
            rintro e w11 ⟨rfl, k11⟩
            go_wp2_with fail
            go_ret
            exact ⟨rfl, (L10.out.law.kept.alloc _).trans k11 (fun _ _ g => g)⟩
      · obtain ⟨hrun, hst⟩ : runL (fl x0 x1 x2 n0 n1 n2 t0 t1 t2) hb = some gb ∧ gb 0 = 0 := by
          have h1 := HGB.out
          have h2 := HOK.out
          unfold fitOk at h2
          unfold fitB at h1
          cases hr : runL (fl x0 x1 x2 n0 n1 n2 t0 t1 t2) hb with
          | none => rw [hr] at h2; cases h2
          | some g =>
            rw [hr] at h1
            have h3 : g = gb := h1
            subst h3
            exact ⟨rfl, runL_zero _ _ _ HZ.out hr⟩
        have HGZ := Lib.hid hst
        have hne : ∀ p ∈ fl x0 x1 x2 n0 n1 n2 t0 t1 t2, p.2 ≠ 0 := by
          have := HOne.out
          intro p hp
          simp only [fl, List.mem_cons, List.not_mem_nil, or_false] at hp
          rcases hp with rfl | rfl | rfl <;> (show _ ≠ (0 : Int)) <;> simp only [] <;> omega
        have hs := runL_stand _ _ _ hne hrun
        have s0 : stand (x0, n0) gb = t0 := hs ((x0, n0), t0) (by simp [fl])
        have s1 : stand (x1, n1) gb = t1 := hs ((x1, n1), t1) (by simp [fl])
        have s2 : stand (x2, n2) gb = t2 := hs ((x2, n2), t2) (by simp [fl])
        have CPut : Hid (∀ W, Calls Try.prog 21 #[.agg #[.bool x0, .int .i64 n0, .bool x1, .int .i64 n1, .bool x2, .int .i64 n2], .agg (cellsB gb)] W fun e w' => e = .returned (.tuple #[.agg #[.int .i64 t0, .int .i64 t1, .int .i64 t2], .bool true]) ∧ Kept Nil W w') := Lib.hid fun W => by
          refine (put_any x0 x1 x2 n0 n1 n2 gb W).mono ?_
          rintro e w' ⟨he, k⟩
          have hy := put_yes (s0 := t0) (s1 := t1) (s2 := t2) (by have := HOne.out; omega)
          rw [s0, s1, s2, hy.1, hy.2] at he
          exact ⟨he, k⟩
        clear hrun hst hne hs s0 s1 s2
        have hq3 : ∀ W, (Op.equalIn 10000 35 (.agg #[.int .i64 t0, .int .i64 t1, .int .i64 t2]) (.agg #[.int .i64 t0, .int .i64 t1, .int .i64 t2])).run Try.prog W = .ok true W := fun W => eqT3 t0 t1 t2 W
        go_wp2_with fail
        go_loopw [54] (fun i wr => ∃ j : Nat, j ≤ 33 ∧ i = .int .i64 j ∧ FitsL w (lawL x0 x1 x2 n0 n1 n2) (triC t0 t1 t2) b w5.heap.size gb w7.heap.size v9 qs wr) (fun i _ => 33 - (intOf i).toNat)
        case atStart => exact ⟨0, by omega, rfl, L9.out⟩
        case round =>
          obtain ⟨j, hj, rfl, hL⟩ := hrel
          have HL := Lib.hid hL
          clear hL
          by_cases hlt : j < 33
          · by_cases h0 : 0 < j
            · have CG : Hid (∀ p : CW (FitsL w (lawL x0 x1 x2 n0 n1 n2) (triC t0 t1 t2) b w5.heap.size gb w7.heap.size v9 qs), Calls Try.prog 20 #[v9, .int .i64 j] p.w fun e w' => e = .returned (.int .i64 (gb j)) ∧ Kept Nil p.w w') := Lib.hid fun p => by
                have := get_any p.of.row (by have := HLQ.out; omega) (j : Int)
                rw [HQ.out.2 j h0 hlt] at this
                exact this
              have hx : ∀ p : CW (FitsL w (lawL x0 x1 x2 n0 n1 n2) (triC t0 t1 t2) b w5.heap.size gb w7.heap.size v9 qs), p.w.cell? ⟨w5.heap.size, j, none⟩ = some (.int .i64 (gb j)) := fun p => (p.of.x.cell j).trans (cellsB_get _ hlt)
              generalize gb j = q at CG hx
              go_wp2_with fail
              refine wp_region_in (FitsL w (lawL x0 x1 x2 n0 n1 n2) (triC t0 t1 t2) b w5.heap.size gb w7.heap.size v9 qs) (by kernel_rfl) (by kernel_rfl) HL.out.drew ?_
              have inst : Nonempty (CW (FitsL w (lawL x0 x1 x2 n0 n1 n2) (triC t0 t1 t2) b w5.heap.size gb w7.heap.size v9 qs)) := ⟨⟨_, HL.out⟩⟩
              repeat (go_big_quiet_step ((go_at_call 20; with_reducible exact call_in FitsL.step (CG.out _))))
              refine wpQuiet_nil ?_
              rintro _ ⟨p, rfl⟩
              go_wp2_with fail
              go_roundw
              case rel => exact ⟨j + 1, by omega, by go_num, p.of⟩
              case measure => simp [intOf]; omega
            · have hd : decide (0 < j) = false := decide_eq_false h0
              go_wp2_with fail
              refine wp_region_in (FitsL w (lawL x0 x1 x2 n0 n1 n2) (triC t0 t1 t2) b w5.heap.size gb w7.heap.size v9 qs) (by kernel_rfl) (by kernel_rfl) HL.out.drew ?_
              have inst : Nonempty (CW (FitsL w (lawL x0 x1 x2 n0 n1 n2) (triC t0 t1 t2) b w5.heap.size gb w7.heap.size v9 qs)) := ⟨⟨_, HL.out⟩⟩
              repeat (go_big_quiet_step (fail))
              refine wpQuiet_nil ?_
              rintro _ ⟨p, rfl⟩
              go_wp2_with fail
              go_roundw
              case rel => exact ⟨j + 1, by omega, by go_num, p.of⟩
              case measure => simp [intOf]; omega
          · obtain rfl : j = 33 := by omega
            have l0c : wr.cell? ⟨w.heap.size, 0, none⟩ = some (.bool x0) := HL.out.law.b0.cell 0
            have l1c : wr.cell? ⟨w.heap.size, 1, none⟩ = some (.int .i64 n0) := HL.out.law.b0.cell 1
            have l2c : wr.cell? ⟨w.heap.size, 2, none⟩ = some (.bool x1) := HL.out.law.b0.cell 2
            have l3c : wr.cell? ⟨w.heap.size, 3, none⟩ = some (.int .i64 n1) := HL.out.law.b0.cell 3
            have l4c : wr.cell? ⟨w.heap.size, 4, none⟩ = some (.bool x2) := HL.out.law.b0.cell 4
            have l5c : wr.cell? ⟨w.heap.size, 5, none⟩ = some (.int .i64 n2) := HL.out.law.b0.cell 5
            go_wp2_with ((with_reducible refine wpList_load_bind rfl (.tmp 8) rfl _ rfl (gb) ?_ ?_)
                         · exact HL.out.x)
            refine (CPut.out _).mono ?_
            rintro e w10 ⟨rfl, k10⟩
            have L10 := Lib.hid (HL.out.step _ _ k10)
            have t0c : w10.cell? ⟨w.heap.size + 1, 0, none⟩ = some (.int .i64 t0) := L10.out.law.b1.cell 0
            have t1c : w10.cell? ⟨w.heap.size + 1, 1, none⟩ = some (.int .i64 t1) := L10.out.law.b1.cell 1
            have t2c : w10.cell? ⟨w.heap.size + 1, 2, none⟩ = some (.int .i64 t2) := L10.out.law.b1.cell 2
            have xc : w10.cell? ⟨w5.heap.size, 0, none⟩ = some (.int .i64 0) := (L10.out.x.cell 0).trans ((cellsB_get _ (by decide)).trans (by rw [HGZ.out]))
            have hl1 := L10.out.law.b1.lt
            have hlx := L10.out.x.lt
            clear l0c l1c l2c l3c l4c l5c k10
            go_wp2_with fail
            refine (HA.out _).mono ?_
            rintro e w11 ⟨rfl, k11⟩
            go_wp2_with fail
            go_ret
            exact ⟨rfl, (L10.out.law.kept.alloc _).trans k11 (fun _ _ g => g)⟩

set_option maxRecDepth 100000 in
theorem termFits_lifted (os : Os) (started : os.Started) (H : Type) (enc : TypeId × Value → H) :
    ReturnsInHanded {} Try.checked os 4 .any (Rows.termFitsSpec.pre6 enc Try.prog Try.f4 Rows.termFitsRow.domain false) (Rows.termFitsSpec.post enc Try.prog Try.f4 false true false false) := by
  refine returnsInHanded_of_change (C := Try.checked) own started (by kernel_rfl) Try.func4
    (ChangeSpec.witness6 (enc := enc) (C := Try.checked) false ⟨#[], #[(valL false false false 0 0 0 : Value), (.agg #[.int .i64 0, .int .i64 0, .int .i64 0] : Value), (.agg (cellsB zeroB) : Value)], []⟩ 8 (by kernel_rfl) (by kernel_rfl) (by kernel_rfl) (by kernel_rfl)) ?_
  intro W base args ds gs before hval0 hW hcnd _
  have hval : ∀ (j : Nat) t v, Try.f4.params[j]? = some t → args[j]? = some v → Value.okWide Try.prog W .any base t v := hval0
  have hW' := hW
  obtain ⟨p, q, hA0, hV, rfl, hfz, hnd⟩ := hW
  have hA : DataW.TrodAll enc Try.prog W 0 (fun _ => true) true Try.f4.params.toList args.toList ds p := hA0
  rw [Try.params4] at hA hval
  obtain ⟨v0, vs0, d0, ds0, p0, q0, hargs, rfl, rfl, h0, r0⟩ := trodAll_cons hA
  obtain ⟨v1, vs1, d1, ds1, p1, q1, rfl, rfl, rfl, h1, r1⟩ := trodAll_cons r0
  obtain ⟨v2, vs2, d2, ds2, p2, q2, rfl, rfl, rfl, h2, r2⟩ := trodAll_cons r1
  obtain ⟨rfl, rfl, rfl⟩ := trodAll_nil r2
  obtain rfl : args = #[v0, v1, v2] := by cases args; simp_all
  obtain ⟨rfl, rfl⟩ := trodVars_none hV
  have lt0 : ∀ x ∈ p0, x.block < W.heap.size := by obtain ⟨m, hm⟩ := h0; exact DataW.trod_lt m _ _ _ hm
  have g0 := h0
  obtain ⟨a0, b0, c0, k0, l0, m0, rfl⟩ := open_L (hval 0 30 v0 rfl rfl) g0
  have lt1 : ∀ x ∈ p1, x.block < W.heap.size := by obtain ⟨m, hm⟩ := h1; exact DataW.trod_lt m _ _ _ hm
  have g1 := h1
  obtain ⟨k1, l1, m1, rfl⟩ := open_T (hval 1 35 v1 rfl rfl) g1
  have lt2 : ∀ x ∈ p2, x.block < W.heap.size := by obtain ⟨m, hm⟩ := h2; exact DataW.trod_lt m _ _ _ hm
  have g2 := h2
  obtain ⟨x2, rfl⟩ := open_B (hval 2 37 v2 rfl rfl) g2
  refine (fitsLaw_any a0 b0 c0 k0 l0 m0 k1 l1 m1 x2 W).mono fun e W' ⟨he, hk⟩ => ?_
  subst he
  exact ⟨_, rfl, _, _, _, [], _, [], hW', trodAll_mk1 (shut_bool Try.underlying4 _), trodAll_cons_mk (Below.trod laidOut (by kernel_rfl) (of_decide_eq_true (by kernel_rfl)) h0 hk.toBelow lt0) (trodAll_cons_mk (Below.trod laidOut (by kernel_rfl) (of_decide_eq_true (by kernel_rfl)) h1 hk.toBelow lt1) (trodAll_cons_mk (Below.trod laidOut (by kernel_rfl) (of_decide_eq_true (by kernel_rfl)) h2 hk.toBelow lt2) (trodAll_mk0))), rfl, hk.toBelow.frame _, fun h => by cases h⟩

theorem termFits_holds : Rows.TermFitsSaid :=
  OpenClaim.holds_of_wide 4 Try.f4 rfl rfl rfl rfl rfl rfl rfl ⟨rfl, rfl, rfl, rfl, rfl⟩ rfl rfl rfl rfl rfl (by kernel_rfl) Try.func4 (by kernel_rfl)
    (of_decide_eq_true (by kernel_rfl)) (by unfold Func.isWrapper; first | (rw [if_neg (of_decide_eq_false (by kernel_rfl))]; exact ⟨rfl, rfl⟩) | (rw [if_pos (by decide +kernel)]; kernel_rfl))
    (fun os started H enc _ => termFits_lifted os started H enc)
#print axioms termFits_holds
end Go.Proofs.Ytkfijbinaidaiaa
