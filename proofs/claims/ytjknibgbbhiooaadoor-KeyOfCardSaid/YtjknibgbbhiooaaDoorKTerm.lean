/- Terms, for a seat of the key layer: what is right, the law's own Ref and Fine. -/
import Derived.Test.YtjknibgbbhiooaaDoorBlk
namespace Go.Proofs.YtjknibgbbhiooaaDoor
open Go.RowKit
set_option maxRecDepth 100000

/-- A term: is it a variable; its number. -/
abbrev Tm := Bool × Int
def okTm (v : Bool) (n : Int) : Bool := if v then decide (1 ≤ n ∧ n ≤ 32) else decide (1 ≤ n ∧ n ≤ 4096)
theorem okTm_var {n : Int} : okTm true n = true ↔ 1 ≤ n ∧ n ≤ 32 := by unfold okTm; simp
theorem okTm_sym {n : Int} : okTm false n = true ↔ 1 ≤ n ∧ n ≤ 4096 := by unfold okTm; simp
theorem okTm_var_no {n : Int} (h : okTm true n = false) : n < 1 ∨ 32 < n := by unfold okTm at h; simp at h; omega
theorem okTm_sym_no {n : Int} (h : okTm false n = false) : n < 1 ∨ 4096 < n := by unfold okTm at h; simp at h; omega

/-- A term of the reference: 1 says that it is a variable. -/
def isV (v : Bool) : Int := if v then 1 else 0
theorem refTmRight_any (v : Bool) (n : Int) (w : World) :
    Calls Tryd.prog 25 #[.agg #[.int .i64 (isV v), .int .i64 n]] w fun e w' => e = .returned (.bool (okTm v n)) ∧ Kept Nil w w' := by
  cases v
  · show Calls Tryd.prog 25 #[.agg #[.int .i64 0, .int .i64 n]] w _
    cases h : okTm false n
    · have hb := okTm_sym_no h
      clear h
      rcases hb with hb | hb
      all_goals
        go_enter Tryd.func25, Tryd.ntmps25
        go_wp2
        go_ret
        first
          | exact ⟨rfl, (Kept.refl _ _).alloc _⟩
          | exact ⟨ret_bool (decide_eq_false (by omega)), (Kept.refl _ _).alloc _⟩
    · obtain ⟨l, u⟩ := okTm_sym.1 h
      clear h
      go_enter Tryd.func25, Tryd.ntmps25
      go_wp2
      go_ret
      exact ⟨rfl, (Kept.refl _ _).alloc _⟩
  · show Calls Tryd.prog 25 #[.agg #[.int .i64 1, .int .i64 n]] w _
    cases h : okTm true n
    · have hb := okTm_var_no h
      clear h
      rcases hb with hb | hb
      all_goals
        go_enter Tryd.func25, Tryd.ntmps25
        go_wp2
        go_ret
        first
          | exact ⟨rfl, (Kept.refl _ _).alloc _⟩
          | exact ⟨ret_bool (decide_eq_false (by omega)), (Kept.refl _ _).alloc _⟩
    · obtain ⟨l, u⟩ := okTm_var.1 h
      clear h
      go_enter Tryd.func25, Tryd.ntmps25
      go_wp2
      go_ret
      exact ⟨rfl, (Kept.refl _ _).alloc _⟩

/-- Terms, as a value; the reference's terms, as a value. -/
abbrev valL (x0 x1 x2 : Bool) (n0 n1 n2 : Int) : Value := .agg #[.bool x0, .int .i64 n0, .bool x1, .int .i64 n1, .bool x2, .int .i64 n2]
abbrev valR (i0 i1 i2 n0 n1 n2 : Int) : Value := .agg #[.int .i64 i0, .int .i64 n0, .int .i64 i1, .int .i64 n1, .int .i64 i2, .int .i64 n2]
abbrev z6 : Array Value := #[.int .i64 0, .int .i64 0, .int .i64 0, .int .i64 0, .int .i64 0, .int .i64 0]
theorem wpList_store_refW {ops : Array Oper} {rest : List Oper} {o : Oper} {a : Act} {w : World} {Q : Exit → Act → World → Prop} (hgd : o.guard = none) (x y : Operand) (ho : o.op = .store 51 x y)
    (g : Nat) (a0 a1 a2 a3 a4 a5 : Int) (hx : a.eval x = .pointer (some ⟨g, 0, none⟩)) (hy : a.eval y = .agg #[.int .i64 a0, .int .i64 a1, .int .i64 a2, .int .i64 a3, .int .i64 a4, .int .i64 a5]) (hg : Blk w g 51 z6)
    (h : ∀ W, Kept (fun k => k = g) w W → Blk W g 51 #[.int .i64 a0, .int .i64 a1, .int .i64 a2, .int .i64 a3, .int .i64 a4, .int .i64 a5] → wpList Tryd.prog ops Q rest (a.put o.dst undef) W) : wpList Tryd.prog ops Q (o :: rest) a w :=
  wpList_store_rowW hgd _ x y ho g _ hx hy _ _ hg (by kernel_rfl) rfl (by simp [Value.oneCell']) h
structure RefW (w : World) (lc oc : Array Value) (W : World) : Prop where
  kept : Kept Nil w W
  b0 : Blk W w.heap.size 34 lc
  b1 : Blk W (w.heap.size + 1) 51 #[.int .i64 0, .int .i64 0, .int .i64 0, .int .i64 0, .int .i64 0, .int .i64 0]
  b2 : Blk W (w.heap.size + 1 + 1) 51 oc
theorem RefW.start (w : World) (lc : Array Value) : RefW w lc #[.int .i64 0, .int .i64 0, .int .i64 0, .int .i64 0, .int .i64 0, .int .i64 0] (((w.alloc (.cells lc 34)).alloc (.cells #[.int .i64 0, .int .i64 0, .int .i64 0, .int .i64 0, .int .i64 0, .int .i64 0] 51)).alloc (.cells #[.int .i64 0, .int .i64 0, .int .i64 0, .int .i64 0, .int .i64 0, .int .i64 0] 51)) := by
  refine ⟨(((Kept.refl Nil w).alloc _).alloc _).alloc _, ((Blk.new w _ _).alloc _).alloc _, ?_, ?_⟩
  · have := (Blk.new (w.alloc (.cells lc 34)) 51 #[.int .i64 0, .int .i64 0, .int .i64 0, .int .i64 0, .int .i64 0, .int .i64 0]).alloc (.cells #[.int .i64 0, .int .i64 0, .int .i64 0, .int .i64 0, .int .i64 0, .int .i64 0] 51)
    simpa using this
  · have := Blk.new ((w.alloc (.cells lc 34)).alloc (.cells #[.int .i64 0, .int .i64 0, .int .i64 0, .int .i64 0, .int .i64 0, .int .i64 0] 51)) 51 #[.int .i64 0, .int .i64 0, .int .i64 0, .int .i64 0, .int .i64 0, .int .i64 0]
    simpa using this
theorem RefW.alloc {w : World} {lc oc : Array Value} {W : World} (h : RefW w lc oc W) (o : Obj) : RefW w lc oc (W.alloc o) := ⟨h.kept.alloc o, h.b0.alloc o, h.b1.alloc o, h.b2.alloc o⟩
theorem RefW.set_ {w : World} {lc oc : Array Value} {W : World} (h : RefW w lc oc W) (i : Nat) (v : Value) : RefW w lc (oc.setIfInBounds i v) (W.setCell ⟨w.heap.size + 1 + 1, i, none⟩ v) :=
  ⟨h.kept.setCell _ (.inr (by show _ ≤ w.heap.size + 1 + 1; omega)) _, h.b0.far (by show _ ≠ w.heap.size + 1 + 1; omega) _, h.b1.far (by show _ ≠ w.heap.size + 1 + 1; omega) _, h.b2.set_ i v⟩
theorem idxL3 (x0 x1 x2 : Bool) (n0 n1 n2 : Int) : (∀ w, (Instr.index 34 (valL x0 x1 x2 n0 n1 n2) (.int .i64 0)).run Tryd.prog w = .ok (.agg #[.bool x0, .int .i64 n0]) w) ∧ (∀ w, (Instr.index 34 (valL x0 x1 x2 n0 n1 n2) (.int .i64 1)).run Tryd.prog w = .ok (.agg #[.bool x1, .int .i64 n1]) w) ∧ (∀ w, (Instr.index 34 (valL x0 x1 x2 n0 n1 n2) (.int .i64 2)).run Tryd.prog w = .ok (.agg #[.bool x2, .int .i64 n2]) w) :=
  ⟨fun _ => by kernel_rfl, fun _ => by kernel_rfl, fun _ => by kernel_rfl⟩

set_option maxHeartbeats 1000000 in
theorem ref_any (x0 x1 x2 : Bool) (n0 n1 n2 : Int) (w : World) :
    Calls Tryd.prog 24 #[valL x0 x1 x2 n0 n1 n2] w fun e w' => e = .returned (valR (isV x0) (isV x1) (isV x2) n0 n1 n2) ∧ Kept Nil w w' := by
  obtain ⟨i0, i1, i2⟩ := idxL3 x0 x1 x2 n0 n1 n2
  have A0 := Lib.hid (RefW.start w #[.bool x0, .int .i64 n0, .bool x1, .int .i64 n1, .bool x2, .int .i64 n2])
  go_enter Tryd.func24, Tryd.ntmps24
  go_wp2_with fail
  go_loopw [7] (fun i wr => (i = .int .i64 0 ∧ RefW w #[.bool x0, .int .i64 n0, .bool x1, .int .i64 n1, .bool x2, .int .i64 n2] #[.int .i64 0, .int .i64 0, .int .i64 0, .int .i64 0, .int .i64 0, .int .i64 0] wr)
    ∨ (i = .int .i64 1 ∧ RefW w #[.bool x0, .int .i64 n0, .bool x1, .int .i64 n1, .bool x2, .int .i64 n2] #[.int .i64 (isV x0), .int .i64 n0, .int .i64 0, .int .i64 0, .int .i64 0, .int .i64 0] wr)
    ∨ (i = .int .i64 2 ∧ RefW w #[.bool x0, .int .i64 n0, .bool x1, .int .i64 n1, .bool x2, .int .i64 n2] #[.int .i64 (isV x0), .int .i64 n0, .int .i64 (isV x1), .int .i64 n1, .int .i64 0, .int .i64 0] wr)
    ∨ (i = .int .i64 3 ∧ RefW w #[.bool x0, .int .i64 n0, .bool x1, .int .i64 n1, .bool x2, .int .i64 n2] #[.int .i64 (isV x0), .int .i64 n0, .int .i64 (isV x1), .int .i64 n1, .int .i64 (isV x2), .int .i64 n2] wr)) (fun i _ => (3 - intOf i).toNat)
  case atStart => exact .inl ⟨rfl, A0.out⟩
  case round =>
    rcases hrel with ⟨rfl, h⟩ | ⟨rfl, h⟩ | ⟨rfl, h⟩ | ⟨rfl, h⟩
    · have H := Lib.hid h
      have c0 := h.b2.cell 0
      have c1 := h.b2.cell 1
      have f0 := h.b2.frozen 0
      have f1 := h.b2.frozen 1
      have hl : w.heap.size + 1 + 1 < wr.heap.size := h.b2.lt
      simp at c0 c1
      clear h A0
      cases x0
      · go_wp2_with fail
        go_roundw
        case rel => exact .inr (.inl ⟨rfl, (H.out.set_ 1 _).alloc _⟩)
        case measure => decide
      · go_wp2_with fail
        go_roundw
        case rel => exact .inr (.inl ⟨rfl, ((H.out.set_ 1 _).set_ 0 _).alloc _⟩)
        case measure => decide
    · have H := Lib.hid h
      have c0 := h.b2.cell 2
      have c1 := h.b2.cell 3
      have f0 := h.b2.frozen 2
      have f1 := h.b2.frozen 3
      have hl : w.heap.size + 1 + 1 < wr.heap.size := h.b2.lt
      simp at c0 c1
      clear h A0
      cases x1
      · go_wp2_with fail
        go_roundw
        case rel => exact .inr (.inr (.inl ⟨rfl, (H.out.set_ 3 _).alloc _⟩))
        case measure => decide
      · go_wp2_with fail
        go_roundw
        case rel => exact .inr (.inr (.inl ⟨rfl, ((H.out.set_ 3 _).set_ 2 _).alloc _⟩))
        case measure => decide
    · have H := Lib.hid h
      have c0 := h.b2.cell 4
      have c1 := h.b2.cell 5
      have f0 := h.b2.frozen 4
      have f1 := h.b2.frozen 5
      have hl : w.heap.size + 1 + 1 < wr.heap.size := h.b2.lt
      simp at c0 c1
      clear h A0
      cases x2
      · go_wp2_with fail
        go_roundw
        case rel => exact .inr (.inr (.inr ⟨rfl, (H.out.set_ 5 _).alloc _⟩))
        case measure => decide
      · go_wp2_with fail
        go_roundw
        case rel => exact .inr (.inr (.inr ⟨rfl, ((H.out.set_ 5 _).set_ 4 _).alloc _⟩))
        case measure => decide
    · have H := Lib.hid h
      have c0 := h.b2.cell 0
      have c1 := h.b2.cell 1
      have c2 := h.b2.cell 2
      have c3 := h.b2.cell 3
      have c4 := h.b2.cell 4
      have c5 := h.b2.cell 5
      simp at c0 c1 c2 c3 c4 c5
      clear h A0
      go_wp2_with ((with_reducible refine wpList_store_refW rfl _ _ rfl _ _ _ _ _ _ _ rfl rfl ?_ ?_)
                   · exact H.out.b1
                   intro W kW bW
                   have KW := Lib.hid kW
                   have BW := Lib.hid bW
                   clear kW bW)
      exact bodyPost_ret (results_cell_row Tryd.results24 _ _ _ _ _ _ _ rfl BW.out Tryd.underlying51 rfl (by kernel_rfl)) rfl ⟨rfl, H.out.kept.trans KW.out (fun i hi e => by omega)⟩

/-- All three are right. -/
def fine (x0 x1 x2 : Bool) (n0 n1 n2 : Int) : Bool := okTm x0 n0 && okTm x1 n1 && okTm x2 n2
set_option maxHeartbeats 1000000 in
theorem fine_any (x0 x1 x2 : Bool) (n0 n1 n2 : Int) (w : World) :
    Calls Tryd.prog 16 #[valL x0 x1 x2 n0 n1 n2] w fun e w' => e = .returned (.bool (fine x0 x1 x2 n0 n1 n2)) ∧ Kept Nil w w' := by
  have HF := Lib.hid (fun W => ref_any x0 x1 x2 n0 n1 n2 W)
  have R0 := Lib.hid (fun W => refTmRight_any x0 n0 W)
  have R1 := Lib.hid (fun W => refTmRight_any x1 n1 W)
  have R2 := Lib.hid (fun W => refTmRight_any x2 n2 W)
  have KK : Hid (∀ (W w1 : World) (vc : Array Value), Kept Nil (W.alloc (.cells vc 34)) w1 → Kept Nil W w1) := Lib.hid fun W w1 vc k => ((Kept.refl Nil W).alloc _).trans k (fun _ _ g => g)
  cases h0 : okTm x0 n0
  · have HV := Lib.hid (show fine x0 x1 x2 n0 n1 n2 = false by unfold fine; rw [h0]; rfl)
    rw [h0] at R0
    clear h0
    go_enter Tryd.func16, Tryd.ntmps16
    go_wp2_with fail
    refine (HF.out _).mono ?_
    rintro e w1 ⟨rfl, k1⟩
    go_wp2_with fail
    refine (R0.out _).mono ?_
    rintro e w2 ⟨rfl, k2⟩
    go_wp2_with fail
    go_ret
    exact ⟨ret_bool HV.out.symm, ((KK.out _ _ _ k1).alloc _).trans k2 (fun _ _ g => g)⟩
  · rw [h0] at R0
    cases h1 : okTm x1 n1
    · have HV := Lib.hid (show fine x0 x1 x2 n0 n1 n2 = false by unfold fine; rw [h0, h1]; rfl)
      rw [h1] at R1
      clear h0 h1
      go_enter Tryd.func16, Tryd.ntmps16
      go_wp2_with fail
      refine (HF.out _).mono ?_
      rintro e w1 ⟨rfl, k1⟩
      have kb := Lib.hid (Blk.new w1 51 #[.int .i64 (isV x0), .int .i64 n0, .int .i64 (isV x1), .int .i64 n1, .int .i64 (isV x2), .int .i64 n2])
      go_wp2_with fail
      refine (R0.out _).mono ?_
      rintro e w2 ⟨rfl, k2⟩
      have kc := kb.out.kept k2 id
      have c2 := kc.cell 2
      have c3 := kc.cell 3
      simp at c2 c3
      clear kc
      go_wp2_with fail
      refine (R1.out _).mono ?_
      rintro e w3 ⟨rfl, k3⟩
      go_wp2_with fail
      go_ret
      exact ⟨ret_bool HV.out.symm, (((KK.out _ _ _ k1).alloc _).trans k2 (fun _ _ g => g)).trans k3 (fun _ _ g => g)⟩
    · have HV := Lib.hid (show fine x0 x1 x2 n0 n1 n2 = okTm x2 n2 by unfold fine; rw [h0, h1]; rfl)
      rw [h1] at R1
      clear h0 h1
      go_enter Tryd.func16, Tryd.ntmps16
      go_wp2_with fail
      refine (HF.out _).mono ?_
      rintro e w1 ⟨rfl, k1⟩
      have kb := Lib.hid (Blk.new w1 51 #[.int .i64 (isV x0), .int .i64 n0, .int .i64 (isV x1), .int .i64 n1, .int .i64 (isV x2), .int .i64 n2])
      go_wp2_with fail
      refine (R0.out _).mono ?_
      rintro e w2 ⟨rfl, k2⟩
      have kc := kb.out.kept k2 id
      have c2 := kc.cell 2
      have c3 := kc.cell 3
      simp at c2 c3
      clear kc
      go_wp2_with fail
      refine (R1.out _).mono ?_
      rintro e w3 ⟨rfl, k3⟩
      have kd := (kb.out.kept k2 id).kept k3 id
      have d4 := kd.cell 4
      have d5 := kd.cell 5
      simp at d4 d5
      clear kd c2 c3
      go_wp2_with fail
      refine (R2.out _).mono ?_
      rintro e w4 ⟨rfl, k4⟩
      go_wp2_with fail
      go_ret
      exact ⟨ret_bool HV.out.symm, ((((KK.out _ _ _ k1).alloc _).trans k2 (fun _ _ g => g)).trans k3 (fun _ _ g => g)).trans k4 (fun _ _ g => g)⟩
end Go.Proofs.YtjknibgbbhiooaaDoor
