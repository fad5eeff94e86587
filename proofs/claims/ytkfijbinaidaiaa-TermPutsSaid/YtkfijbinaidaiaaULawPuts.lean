/- Whatever terms and binding come in, TermPuts returns true, and writes nothing that was there. No condition. -/
import Derived.Test.YtkfijbinaidaiaaULawFits
import Derived.Test.YtkfijbinaidaiaaURefPut
namespace Go.Proofs.Ytkfijbinaidaiaa
open Go.RowKit Go.ChangeShapes Go.WideShapes Go.ChangeAt

/-- What came into the law, boxed. -/
structure PW (w : World) (lc : Array Value) (b : Bd) (W : World) : Prop where
  kept : Kept Nil w W
  b0 : Blk W w.heap.size 30 lc
  b1 : Blk W (w.heap.size + 1) 37 (cellsB b)
theorem PW.step {w : World} {lc : Array Value} {b : Bd} {W W' : World} (h : PW w lc b W) (k : Kept Nil W W') : PW w lc b W' := ⟨h.kept.trans k (fun _ _ g => g), h.b0.kept k id, h.b1.kept k id⟩
theorem PW.start (w : World) (lc : Array Value) (b : Bd) : PW w lc b ((w.alloc (.cells lc 30)).alloc (.cells (cellsB b) 37)) := by
  refine ⟨((Kept.refl Nil w).alloc _).alloc _, (Blk.new w _ _).alloc _, ?_⟩
  have := Blk.new (w.alloc (.cells lc 30)) 37 (cellsB b)
  simpa using this
theorem PW.box {w : World} {lc : Array Value} {b : Bd} {W W' : World} {o : Obj} (h : PW w lc b W) (k : Kept (fun i => i = W.heap.size) (W.alloc o) W') : PW w lc b W' := by
  have l0 := h.b0.lt
  have l1 := h.b1.lt
  exact ⟨(h.kept.alloc o).trans k (fun i hi e => by have := h.kept.size; omega), (h.b0.alloc o).kept k (by omega), (h.b1.alloc o).kept k (by omega)⟩
/-- What is read, in the region and behind it. -/
abbrev Seen6 (N0 N M : Nat) (x0 x1 x2 : Bool) (n0 n1 n2 p0 p1 p2 : Int) (l : List Value) (w' : World) : Prop :=
  w'.cell? ⟨N0, 0, none⟩ = some (.bool x0) ∧ w'.cell? ⟨N0, 1, none⟩ = some (.int .i64 n0) ∧ w'.cell? ⟨N0, 2, none⟩ = some (.bool x1) ∧ w'.cell? ⟨N0, 3, none⟩ = some (.int .i64 n1) ∧ w'.cell? ⟨N0, 4, none⟩ = some (.bool x2) ∧ w'.cell? ⟨N0, 5, none⟩ = some (.int .i64 n2) ∧ w'.cell? ⟨M, 0, none⟩ = some (.int .i64 p0) ∧ w'.cell? ⟨M, 1, none⟩ = some (.int .i64 p1) ∧ w'.cell? ⟨M, 2, none⟩ = some (.int .i64 p2) ∧ w'.rangeAt N 0 l
theorem seen6_move {N0 N M : Nat} {x0 x1 x2 : Bool} {n0 n1 n2 p0 p1 p2 : Int} {l : List Value} {w w' : World} (k0 : ∀ i v, w.cell? ⟨N0, i, none⟩ = some v → w'.cell? ⟨N0, i, none⟩ = some v) (k1 : ∀ i v, w.cell? ⟨M, i, none⟩ = some v → w'.cell? ⟨M, i, none⟩ = some v) (k2 : ∀ i v, w.cell? ⟨N, i, none⟩ = some v → w'.cell? ⟨N, i, none⟩ = some v)
    (h : Seen6 N0 N M x0 x1 x2 n0 n1 n2 p0 p1 p2 l w) : Seen6 N0 N M x0 x1 x2 n0 n1 n2 p0 p1 p2 l w' :=
  ⟨k0 _ _ h.1, k0 _ _ h.2.1, k0 _ _ h.2.2.1, k0 _ _ h.2.2.2.1, k0 _ _ h.2.2.2.2.1, k0 _ _ h.2.2.2.2.2.1, k1 _ _ h.2.2.2.2.2.2.1, k1 _ _ h.2.2.2.2.2.2.2.1, k1 _ _ h.2.2.2.2.2.2.2.2.1, fun j v hv => k2 _ _ (h.2.2.2.2.2.2.2.2.2 j v hv)⟩
theorem seen6_kept {N0 N M : Nat} {x0 x1 x2 : Bool} {n0 n1 n2 p0 p1 p2 : Int} {l : List Value} {w w' : World} (k : Kept Nil w w') (h : Seen6 N0 N M x0 x1 x2 n0 n1 n2 p0 p1 p2 l w) : Seen6 N0 N M x0 x1 x2 n0 n1 n2 p0 p1 p2 l w' :=
  seen6_move (fun _ _ h => k.cellOf h) (fun _ _ h => k.cellOf h) (fun _ _ h => k.cellOf h) h
theorem seen6_alloc {N0 N M : Nat} {x0 x1 x2 : Bool} {n0 n1 n2 p0 p1 p2 : Int} {l : List Value} {w : World} (o : Obj) (h : Seen6 N0 N M x0 x1 x2 n0 n1 n2 p0 p1 p2 l w) : Seen6 N0 N M x0 x1 x2 n0 n1 n2 p0 p1 p2 l (w.alloc o) := seen6_kept ((Kept.refl Nil w).alloc o) h
theorem seen6_set {N0 N M : Nat} {x0 x1 x2 : Bool} {n0 n1 n2 p0 p1 p2 : Int} {l : List Value} {w : World} {A i : Nat} {v : Value} (h0 : N0 ≠ A) (h1 : M ≠ A) (h2 : N ≠ A) (h : Seen6 N0 N M x0 x1 x2 n0 n1 n2 p0 p1 p2 l w) : Seen6 N0 N M x0 x1 x2 n0 n1 n2 p0 p1 p2 l (w.setCell ⟨A, i, none⟩ v) :=
  seen6_move (fun i v h => by rw [World.cell?_setCell_other w _ _ _ (fun e => h0 (congrArg Addr.block e).symm)]; exact h) (fun i v h => by rw [World.cell?_setCell_other w _ _ _ (fun e => h1 (congrArg Addr.block e).symm)]; exact h) (fun i v h => by rw [World.cell?_setCell_other w _ _ _ (fun e => h2 (congrArg Addr.block e).symm)]; exact h) h

theorem seen6_da {N0 N M : Nat} {x0 x1 x2 : Bool} {n0 n1 n2 p0 p1 p2 : Int} {l : List Value} {w : World} (o : Obj) (h : Seen6 N0 N M x0 x1 x2 n0 n1 n2 p0 p1 p2 l w.drew) : Seen6 N0 N M x0 x1 x2 n0 n1 n2 p0 p1 p2 l (w.alloc o).drew := seen6_kept ((Kept.refl Nil w.drew).alloc o) h
theorem seen6_swap {N0 N M : Nat} {x0 x1 x2 : Bool} {n0 n1 n2 p0 p1 p2 : Int} {l : List Value} {w : World} {o o' : Obj} (h0 : N0 < w.heap.size) (h1 : M < w.heap.size) (h2 : N < w.heap.size) (h : Seen6 N0 N M x0 x1 x2 n0 n1 n2 p0 p1 p2 l (w.alloc o)) : Seen6 N0 N M x0 x1 x2 n0 n1 n2 p0 p1 p2 l (w.alloc o') :=
  seen6_move (fun i v h => by rw [World.cell?_alloc_lt w _ _ h0] at *; exact h) (fun i v h => by rw [World.cell?_alloc_lt w _ _ h1] at *; exact h) (fun i v h => by rw [World.cell?_alloc_lt w _ _ h2] at *; exact h) h

set_option maxHeartbeats 8000000 in
theorem putsLaw_any (x0 x1 x2 : Bool) (n0 n1 n2 : Int) (b : Bd) (w : World) :
    Calls Try.prog 5 #[valL x0 x1 x2 n0 n1 n2, .agg (cellsB b)] w fun e w' => e = .returned (.bool true) ∧ Kept Nil w w' := by
  have HA := Lib.hid (fun W => awake_any W)
  have HF := Lib.hid (fun W => fine_any x0 x1 x2 n0 n1 n2 W)
  cases hf : fine x0 x1 x2 n0 n1 n2
  · rw [hf] at HF
    clear hf
    go_enter Try.func5, Try.ntmps5
    go_wp2_with fail
    refine (HF.out _).mono ?_
    rintro e w1 ⟨rfl, k1⟩
    go_wp2_with fail
    refine (HA.out _).mono ?_
    rintro e w2 ⟨rfl, k2⟩
    go_wp2_with fail
    go_ret
    exact ⟨rfl, ((((Kept.refl Nil w).alloc _).alloc _).trans k1 (fun _ _ g => g)).trans k2 (fun _ _ g => g)⟩
  · rw [hf] at HF
    have HFine := Lib.hid hf
    clear hf
    have CH := Lib.hid (fun W => held_any b W)
    generalize hhb : heldB b = hb at CH
    have HRep : Hid (Rep (pairsTo 33 hb) hb) := Lib.hid (by rw [← hhb]; exact rep_pairs (fun k => (heldB_range b k).1))
    have HLen := Lib.hid (pairsTo_len 33 hb)
    have CR := Lib.hid (fun W => ref_any x0 x1 x2 n0 n1 n2 W)
    clear hhb
    have CPut : Hid (∀ W, Calls Try.prog 21 #[.agg #[.bool x0, .int .i64 n0, .bool x1, .int .i64 n1, .bool x2, .int .i64 n2], .agg (cellsB hb)] W fun e w' => e = .returned (.tuple #[.agg (cells3 (putT (stand (x0, n0) hb) (stand (x1, n1) hb) (stand (x2, n2) hb))), .bool (putOk (stand (x0, n0) hb) (stand (x1, n1) hb) (stand (x2, n2) hb))]) ∧ Kept Nil W w') := Lib.hid fun W => put_any x0 x1 x2 n0 n1 n2 hb W
    have CRP : Hid (∀ (W : World) (B : Nat) (v8 : Value), PRow W B v8 (pairsTo 33 hb) → Calls Try.prog 22 #[valR (isV x0) (isV x1) (isV x2) n0 n1 n2, v8] W fun e w' => e = .returned (.tuple #[.agg (cells3 (putT (stand (x0, n0) hb) (stand (x1, n1) hb) (stand (x2, n2) hb))), .bool (putOk (stand (x0, n0) hb) (stand (x1, n1) hb) (stand (x2, n2) hb))]) ∧ Kept Nil W w') := Lib.hid fun W B v8 r8 => refPut_any HFine.out r8 (by have := HLen.out; omega) HRep.out
    generalize putT (stand (x0, n0) hb) (stand (x1, n1) hb) (stand (x2, n2) hb) = pt at CPut CRP
    generalize putOk (stand (x0, n0) hb) (stand (x1, n1) hb) (stand (x2, n2) hb) = po at CPut CRP
    obtain ⟨p0, p1, p2⟩ := pt
    go_enter Try.func5, Try.ntmps5
    go_wp2_with fail
    refine (HF.out _).mono ?_
    rintro e w2 ⟨rfl, k2⟩
    have L2 := Lib.hid ((PW.start w (lawL x0 x1 x2 n0 n1 n2) b).step k2)
    clear k2
    go_wp2_with ((with_reducible refine wpList_load_bind rfl (.tmp 3) rfl _ rfl b ?_ ?_)
                 · exact L2.out.b1)
    refine (CH.out _).mono ?_
    rintro e w3 ⟨rfl, k3⟩
    have L3 := Lib.hid (L2.out.step k3)
    clear k3 L2
    go_wp2_with (first
      | ((with_reducible refine wpList_alloc_bind rfl rfl _ rfl ?_))
      | ((with_reducible refine wpList_store_bindW rfl (.tmp 5) _ rfl _ hb rfl rfl zeroB ?_ ?_)
         · exact Blk.new _ _ _
         intro w4 kW bW
         have L4 := Lib.hid (L3.out.box kW)
         have H4 := Lib.hid bW
         have l0c : w4.cell? ⟨w.heap.size, 0, none⟩ = some (.bool x0) := L4.out.b0.cell 0
         have l1c : w4.cell? ⟨w.heap.size, 1, none⟩ = some (.int .i64 n0) := L4.out.b0.cell 1
         have l2c : w4.cell? ⟨w.heap.size, 2, none⟩ = some (.bool x1) := L4.out.b0.cell 2
         have l3c : w4.cell? ⟨w.heap.size, 3, none⟩ = some (.int .i64 n1) := L4.out.b0.cell 3
         have l4c : w4.cell? ⟨w.heap.size, 4, none⟩ = some (.bool x2) := L4.out.b0.cell 4
         have l5c : w4.cell? ⟨w.heap.size, 5, none⟩ = some (.int .i64 n2) := L4.out.b0.cell 5
         clear kW bW)
      | ((with_reducible refine wpList_load_bind rfl (.tmp 5) rfl _ rfl hb ?_ ?_)
         · exact H4.out))
    refine (CPut.out _).mono ?_
    rintro e w5 ⟨rfl, k5⟩
    generalize hN : w3.heap.size = N at H4
    have L5 := Lib.hid (L4.out.step k5)
    have H5 := Lib.hid (H4.out.kept k5 id)
    have P5 := Lib.hid (Blk.new w5 35 (cells3 (p0, p1, p2)))
    clear k5 l0c l1c l2c l3c l4c l5c L4 H4 L3
    go_wp2_with fail
    obtain ⟨lst, hlst, hi, hat⟩ := pairs_list hb
    have hu := Try.underlying37
    have CP := Lib.hid (fun W => pairs_any hb W)
    have hh : w5.rangeAt N 0 lst := hat _ _ H5.out
    have SS : Hid (Seen6 w.heap.size N w5.heap.size x0 x1 x2 n0 n1 n2 p0 p1 p2 lst (w5.alloc (.cells #[.int .i64 p0, .int .i64 p1, .int .i64 p2] 35)).drew) := Lib.hid
      ⟨((Kept.refl Nil w5).alloc _).drew.cellOf (L5.out.b0.cell 0), ((Kept.refl Nil w5).alloc _).drew.cellOf (L5.out.b0.cell 1), ((Kept.refl Nil w5).alloc _).drew.cellOf (L5.out.b0.cell 2), ((Kept.refl Nil w5).alloc _).drew.cellOf (L5.out.b0.cell 3), ((Kept.refl Nil w5).alloc _).drew.cellOf (L5.out.b0.cell 4), ((Kept.refl Nil w5).alloc _).drew.cellOf (L5.out.b0.cell 5),
        P5.out.cell 0, P5.out.cell 1, P5.out.cell 2, ((Kept.refl Nil w5).alloc _).drew.rangeOf hh⟩
    have hM0 : w.heap.size < w5.heap.size := L5.out.b0.lt
    have hMN : N < w5.heap.size := H5.out.lt
    clear hat hh CPut CH HF
    go_region_held3 (Seen6 w.heap.size N w5.heap.size x0 x1 x2 n0 n1 n2 p0 p1 p2 lst)
      (first | (with_reducible exact SS.out) | (with_reducible exact seen6_kept k9 (by with_reducible assumption)) | (with_reducible exact seen6_kept k8 (by with_reducible assumption)) | (with_reducible exact seen6_kept k7 (by with_reducible assumption)) | (with_reducible exact seen6_alloc _ (by with_reducible assumption)) | (with_reducible exact seen6_da _ (by with_reducible assumption)) | (with_reducible refine seen6_swap ?_ ?_ ?_ (by with_reducible assumption)) <;> omega | (with_reducible refine seen6_set ?_ ?_ ?_ (seen6_set ?_ ?_ ?_ (seen6_set ?_ ?_ ?_ (by with_reducible assumption)))) <;> omega)
      (first
        | (go_at_call 10; refine (CR.out _).mono ?_; rintro e w7 ⟨rfl, k7⟩; have z7 : w5.heap.size < w7.heap.size := (by have := k7.size; (try simp at this); omega); first | (have A7 := (Blk.new _ 34 z3).kept k7 id) | (have A7 := ((Blk.new _ 34 z3).drew).kept k7 id) | skip)
        | (go_at_call 19; refine (CP.out _).mono ?_; rintro e w8 ⟨v8, rfl, r8, k8⟩; have z8 : w7.heap.size ≤ w8.heap.size := (by have := k8.size; (try simp at this); omega); first | (have A8 := A7.kept k8 id) | (have A8 := (Blk.new _ 34 z3).kept k8 id) | skip)
        | (go_at_call 22; (first | (with_reducible refine (CRP.out _ _ _ r8).mono ?_) | (with_reducible refine (CRP.out _ _ _ (r8.kept ((Kept.refl Nil _).alloc (.cells z3 34)))).mono ?_)); rintro e w9 ⟨rfl, k9⟩; have z9 : w8.heap.size ≤ w9.heap.size := (by have := k9.size; (try simp at this); omega); first | (have A9 := A8.kept k9 id; have a0 := A9.cell 0; have a1 := A9.cell 1; have a2 := A9.cell 2; have b0 := A9.frozen 0; have b1 := A9.frozen 1; have b2 := A9.frozen 2; (try simp at a0); (try simp at a1); (try simp at a2); (try simp at b0); (try simp at b1); (try simp at b2)) | (have A9 := (Blk.new _ 34 z3).kept k9 id; have a0 := A9.cell 0; have a1 := A9.cell 1; have a2 := A9.cell 2; have b0 := A9.frozen 0; have b1 := A9.frozen 1; have b2 := A9.frozen 2; (try simp at a0); (try simp at a1); (try simp at a2); (try simp at b0); (try simp at b1); (try simp at b2)) | skip))
    all_goals
      have hq3 : ∀ W, (Op.equalIn 10000 35 (.agg #[.int .i64 p0, .int .i64 p1, .int .i64 p2]) (.agg #[.int .i64 p0, .int .i64 p1, .int .i64 p2])).run Try.prog W = .ok true W := fun W => eqT3 p0 p1 p2 W
      have KK7 : Kept Nil w w7 := by first | exact ((L5.out.kept.alloc _).drew).trans k7 (fun _ _ g => g) | exact (((L5.out.kept.alloc _).alloc _).drew).trans k7 (fun _ _ g => g)
      have KK8 : Kept Nil w w8 := by first | exact KK7.trans k8 (fun _ _ g => g) | exact (KK7.alloc _).trans k8 (fun _ _ g => g)
      have KK9 := Lib.hid (show Kept Nil w w9 by first | exact KK8.trans k9 (fun _ _ g => g) | exact (KK8.alloc _).trans k9 (fun _ _ g => g))
      have hwz : w.heap.size ≤ w5.heap.size := by omega
      clear k7 k8 k9 KK7 KK8 r8
      go_wp2_with fail
      refine (HA.out _).mono ?_
      rintro e w11 ⟨rfl, k11⟩
      go_wp2_with fail
      go_ret
      first
        | exact ⟨rfl, (KK9.out.alloc _).trans k11 (fun _ _ g => g)⟩
        | exact ⟨rfl, (((KK9.out.setCell _ (.inr (by dsimp only; omega)) _).setCell _ (.inr (by dsimp only; omega)) _).setCell _ (.inr (by dsimp only; omega)) _).trans k11 (fun _ _ g => g)⟩

set_option maxRecDepth 100000 in
theorem termPuts_lifted (os : Os) (started : os.Started) (H : Type) (enc : TypeId × Value → H) :
    ReturnsInHanded {} Try.checked os 5 .any (Rows.termPutsSpec.pre6 enc Try.prog Try.f5 Rows.termPutsRow.domain false) (Rows.termPutsSpec.post enc Try.prog Try.f5 false true false false) := by
  refine returnsInHanded_of_change (C := Try.checked) own started (by kernel_rfl) Try.func5
    (ChangeSpec.witness6 (enc := enc) (C := Try.checked) false ⟨#[], #[(valL false false false 0 0 0 : Value), (.agg (cellsB zeroB) : Value)], []⟩ 8 (by kernel_rfl) (by kernel_rfl) (by kernel_rfl) (by kernel_rfl)) ?_
  intro W base args ds gs before hval0 hW hcnd _
  have hval : ∀ (j : Nat) t v, Try.f5.params[j]? = some t → args[j]? = some v → Value.okWide Try.prog W .any base t v := hval0
  have hW' := hW
  obtain ⟨p, q, hA0, hV, rfl, hfz, hnd⟩ := hW
  have hA : DataW.TrodAll enc Try.prog W 0 (fun _ => true) true Try.f5.params.toList args.toList ds p := hA0
  rw [Try.params5] at hA hval
  obtain ⟨v0, vs0, d0, ds0, p0, q0, hargs, rfl, rfl, h0, r0⟩ := trodAll_cons hA
  obtain ⟨v1, vs1, d1, ds1, p1, q1, rfl, rfl, rfl, h1, r1⟩ := trodAll_cons r0
  obtain ⟨rfl, rfl, rfl⟩ := trodAll_nil r1
  obtain rfl : args = #[v0, v1] := by cases args; simp_all
  obtain ⟨rfl, rfl⟩ := trodVars_none hV
  have lt0 : ∀ x ∈ p0, x.block < W.heap.size := by obtain ⟨m, hm⟩ := h0; exact DataW.trod_lt m _ _ _ hm
  have g0 := h0
  obtain ⟨a0, b0, c0, k0, l0, m0, rfl⟩ := open_L (hval 0 30 v0 rfl rfl) g0
  have lt1 : ∀ x ∈ p1, x.block < W.heap.size := by obtain ⟨m, hm⟩ := h1; exact DataW.trod_lt m _ _ _ hm
  have g1 := h1
  obtain ⟨x1, rfl⟩ := open_B (hval 1 37 v1 rfl rfl) g1
  refine (putsLaw_any a0 b0 c0 k0 l0 m0 x1 W).mono fun e W' ⟨he, hk⟩ => ?_
  subst he
  exact ⟨_, rfl, _, _, _, [], _, [], hW', trodAll_mk1 (shut_bool Try.underlying4 _), trodAll_cons_mk (Below.trod laidOut (by kernel_rfl) (of_decide_eq_true (by kernel_rfl)) h0 hk.toBelow lt0) (trodAll_cons_mk (Below.trod laidOut (by kernel_rfl) (of_decide_eq_true (by kernel_rfl)) h1 hk.toBelow lt1) (trodAll_mk0)), rfl, hk.toBelow.frame _, fun h => by cases h⟩

theorem termPuts_holds : Rows.TermPutsSaid :=
  OpenClaim.holds_of_wide 5 Try.f5 rfl rfl rfl rfl rfl rfl rfl ⟨rfl, rfl, rfl, rfl, rfl⟩ rfl rfl rfl rfl rfl (by kernel_rfl) Try.func5 (by kernel_rfl)
    (of_decide_eq_true (by kernel_rfl)) (by unfold Func.isWrapper; first | (rw [if_neg (of_decide_eq_false (by kernel_rfl))]; exact ⟨rfl, rfl⟩) | (rw [if_pos (by decide +kernel)]; kernel_rfl))
    (fun os started H enc _ => termPuts_lifted os started H enc)
#print axioms termPuts_holds
end Go.Proofs.Ytkfijbinaidaiaa
