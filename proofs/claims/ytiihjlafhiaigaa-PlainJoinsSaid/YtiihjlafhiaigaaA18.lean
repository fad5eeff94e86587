/- Layer comp: the reference's Of, of a Pos or a Neg: the walk. – PlainTerms: the walk over the law's own code, given the program's Partial and the law's awake. – Layer plain: the document's examples, given the program's Partial. – Layer plain: the program's Partial, of chains that may be; the law's awake. -/
import Derived.Test.YtiihjlafhiaigaaA17
import Derived.Test.YtiihjlafhiaigaaA11
import Derived.Test.YtiihjlafhiaigaaA8
import Derived.Test.YtiihjlafhiaigaaA15
import Derived.Test.YtiihjlafhiaigaaA5
import Derived.Test.YtiihjlafhiaigaaA16
namespace Go.Proofs.Ytiihjlafhiaigaa
section
open Go.RowKit
set_option maxRecDepth 100000

theorem eqTmR2 (x y : Int) (n m : Int) (w : World) : (Op.equalIn 10000 74 (.agg #[.int .i64 x, .int .i64 n]) (.agg #[.int .i64 y, .int .i64 m])).run Try.prog w = .ok (decide (x = y ∧ n = m)) w := by
  have e : ∀ x y : Int, (Op.equalIn 9999 3 (.int .i64 x) (.int .i64 y)).run Try.prog w = .ok (x == y) w := fun x y => run_equalIn_int w 9998 3 .i64 .i64 x y Try.underlying3
  rw [run_equalIn_struct w 9999 _ _ _ (by kernel_rfl) (by kernel_rfl)]
  simp only [Program.fieldsOf, Try.underlying74]
  by_cases h : x = y
  · subst h
    by_cases hn : n = m <;> simp [Op.eqFields, part, isAgg, run_underlying Try.underlying3, e, hn]
  · simp [Op.eqFields, part, isAgg, run_underlying Try.underlying3, e, h]
theorem eqlTmR (x y n m : Int) (b : Bool) (hb : decide (x = y ∧ n = m) = b) (w : World) : (binOp .eql 74 (.agg #[.int .i64 x, .int .i64 n]) (.agg #[.int .i64 y, .int .i64 m])).run Try.prog w = .ok (.bool b) w := by
  rw [run_eql_struct, eqTmR2, hb]; rfl
theorem isV_one {x : Bool} : isV x = 1 ↔ x = true := by cases x <;> simp [isV]
set_option maxHeartbeats 16000000 in
theorem ofTerms_any (k : Int) (hk3 : k ≠ 3) (x0 x1 x2 : Bool) (n0 n1 n2 : Int) (chl : List Sh) (hc : chl.length ≤ 100) (ok1 : Nat → Nat → Prop) (ac : Option Addr) (cc : Nat) (v : Value) (hv : ∃ a n c, v = .slice a n c) (w : World) (h1 : Holds cR w ok1 (.slice ac chl.length cc) chl) :
    Calls Try.prog 35 #[.slice ac chl.length cc, vR ⟨k, x0, x1, x2, n0, n1, n2⟩ v] w (StEnd ⟨k, kF x0 n0, kF x1 n1, kF x2 n2, tstL chl ⟨k, x0, x1, x2, n0, n1, n2⟩⟩ [] w) := by
  obtain ⟨va, vn, vc, rfl⟩ := hv
  have CB : Hid (∀ u W, Kept Nil w W → Calls Try.prog 56 #[.slice ac chl.length cc, .int .i64 u] W fun e w' => e = .returned (.tuple #[plV u (fpL chl u 0), .bool (fpL chl u 0).isSome]) ∧ Kept Nil W w') := Lib.hid fun u W kW => refBound_any chl hc u ok1 ac cc W (h1.keptN kW)
  have hkb : (k == 3) = false := by simpa using hk3
  clear h1 hc
  generalize chl.length = n1' at CB ⊢
  obtain ⟨T0, hT0⟩ : ∃ T, T = tst0 chl ⟨k, x0, x1, x2, n0, n1, n2⟩ := ⟨_, rfl⟩
  obtain ⟨T1, hT1⟩ : ∃ T, T = tst1 chl ⟨k, x0, x1, x2, n0, n1, n2⟩ := ⟨_, rfl⟩
  obtain ⟨T2, hT2⟩ : ∃ T, T = tst2 chl ⟨k, x0, x1, x2, n0, n1, n2⟩ := ⟨_, rfl⟩
  have HTL : Hid (tstL chl ⟨k, x0, x1, x2, n0, n1, n2⟩ = T0 ++ T1 ++ T2) := Lib.hid (by rw [hT0, hT1, hT2]; rfl)
  have HL0 : Hid (T0.length ≤ 1) := Lib.hid (by rw [hT0]; exact (tst_len chl ⟨k, x0, x1, x2, n0, n1, n2⟩).1)
  have HL1 : Hid (T1.length ≤ 1) := Lib.hid (by rw [hT1]; exact (tst_len chl ⟨k, x0, x1, x2, n0, n1, n2⟩).2.1)
  have HT0 := Lib.hid hT0
  have HT1 := Lib.hid hT1
  have HT2 := Lib.hid hT2
  clear hT0 hT1 hT2
  have R0 : Hid (OfR w (arrR ⟨k, x0, x1, x2, n0, n1, n2⟩ (.slice va vn vc)) k 0 0 0 (.slice none 0 0) [] (((w.alloc (.cells (arrR ⟨k, x0, x1, x2, n0, n1, n2⟩ (.slice va vn vc)) 77)).alloc (.cells zS 54)).alloc (.cells (arrS ⟨k, 0, 0, 0, []⟩ (.slice none 0 0) (.slice none 0 0)) 54))) := Lib.hid ⟨(Two2.start w 77 (arrR ⟨k, x0, x1, x2, n0, n1, n2⟩ (.slice va vn vc)) 54 zS).alloc _, by
    have := Blk.new ((w.alloc (.cells (arrR ⟨k, x0, x1, x2, n0, n1, n2⟩ (.slice va vn vc)) 77)).alloc (.cells zS 54)) 54 (arrS ⟨k, 0, 0, 0, []⟩ (.slice none 0 0) (.slice none 0 0))
    simpa using this, GB.nil _⟩
  obtain ⟨K0, hK0⟩ : ∃ K, K = kF x0 n0 := ⟨_, rfl⟩
  obtain ⟨K1, hK1⟩ : ∃ K, K = kF x1 n1 := ⟨_, rfl⟩
  obtain ⟨K2, hK2⟩ : ∃ K, K = kF x2 n2 := ⟨_, rfl⟩
  have HK0 := Lib.hid hK0
  have HK1 := Lib.hid hK1
  have HK2 := Lib.hid hK2
  rw [← hK0, ← hK1, ← hK2]
  clear hK0 hK1 hK2
  go_enter Try.func35, Try.ntmps35
  go_wp2_with fail
  go_loopw [9] (fun i wr => (i = .int .i64 0 ∧ ∃ u, OfR w (arrR ⟨k, x0, x1, x2, n0, n1, n2⟩ (.slice va vn vc)) k 0 0 0 u [] wr) ∨ (i = .int .i64 1 ∧ ∃ u, OfR w (arrR ⟨k, x0, x1, x2, n0, n1, n2⟩ (.slice va vn vc)) k K0 0 0 u T0 wr) ∨ (i = .int .i64 2 ∧ ∃ u, OfR w (arrR ⟨k, x0, x1, x2, n0, n1, n2⟩ (.slice va vn vc)) k K0 K1 0 u (T0 ++ T1) wr) ∨ (i = .int .i64 3 ∧ ∃ u, OfR w (arrR ⟨k, x0, x1, x2, n0, n1, n2⟩ (.slice va vn vc)) k K0 K1 K2 u (T0 ++ T1 ++ T2) wr)) (fun i _ => (3 - intOf i).toNat)
  case atStart => exact .inl ⟨rfl, _, R0.out⟩
  case round =>
    rename World => wo
    rcases hrel with ⟨rfl, u, h⟩ | ⟨rfl, u, h⟩ | ⟨rfl, u, h⟩ | ⟨rfl, u, h⟩
    · have HO := Lib.hid h
      have e1 := h.t.b0.cell 1
      have e2 := h.t.b0.cell 2
      have y1 := h.b.cell 1
      have fy := h.b.frozen 1
      have hX : w.heap.size + 1 + 1 < wo.heap.size := h.b.lt
      have hX0 : w.heap.size < wo.heap.size := by omega
      simp [isV] at e1 e2 y1
      clear h R0
      cases x0
      · have EK : Hid (K0 = n0) := Lib.hid (by rw [HK0.out]; rfl)
        have ET : Hid (T0 = []) := Lib.hid (by rw [HT0.out]; rfl)
        simp at e1
        go_wp2_with fail
        go_roundw
        case rel => exact .inr (.inl ⟨rfl, _, by rw [EK.out, ET.out]; exact HO.out.key0 n0⟩)
        case measure => decide
      · have EK : Hid (K0 = 0) := Lib.hid (by rw [HK0.out]; rfl)
        simp at e1
        have CB2 := Lib.hid (CB.out n0 wo HO.out.t.kept)
        obtain ⟨ua, un, uc, rfl⟩ : ∃ a n c, u = .slice a n c := by obtain ⟨x, y, e, _⟩ := HO.out.g.shape; exact ⟨x, _, y, e⟩
        cases hfp : fpL chl n0 0 with
        | some q =>
          obtain ⟨bk, g⟩ := q
          rw [hfp] at CB2
          have ET : Hid (T0 = [(0, (bk : Int), g)]) := Lib.hid (by rw [HT0.out]; simp [tst0, hfp])
          replace CB2 : Hid (Calls Try.prog 56 #[.slice ac n1' cc, .int .i64 n0] wo fun e w' => e = .returned (.tuple #[.agg #[.int .i64 n0, .int .i64 (bk : Int), .int .i64 g], .bool true]) ∧ Kept Nil wo w') := CB2
          clear hfp
          go_wp2_with fail
          refine CB2.out.mono ?_
          rintro e w2 ⟨rfl, k2⟩
          have H3 := HO.out.step (k2.alloc (.cells #[.int .i64 n0, .int .i64 (bk : Int), .int .i64 g] 114))
          obtain ⟨a3, n3, c3, w3, r3, y4, f4, hX3, R3⟩ := H3.test (by have := HL0.out; have := HL1.out; simp <;> omega) (0, (bk : Int), g)
          have x4 := H3.b.cell 4
          simp at x4
          have hX2 := H3.b.lt
          have hs2 : (w2.alloc (.cells #[.int .i64 n0, .int .i64 (bk : Int), .int .i64 g] 114)).heap.size = w2.heap.size + 1 := by simp
          rw [hs2] at r3 hX2
          clear hs2
          have RR := Lib.hid r3
          have RF := Lib.hid R3
          clear r3 R3 H3 k2 HO e1 e2 y1 fy
          go_wp2_with (at_builtin; refine wpList_append_run rfl (.tmp 76) (.tmp 83) 52 rfl _ _ rfl rfl RR.out ?_)
          go_roundw
          case rel => exact .inr (.inl ⟨rfl, _, by rw [EK.out, ET.out]; exact RF.out⟩)
          case measure => decide
        | none =>
          rw [hfp] at CB2
          have ET : Hid (T0 = []) := Lib.hid (by rw [HT0.out]; simp [tst0, hfp])
          replace CB2 : Hid (Calls Try.prog 56 #[.slice ac n1' cc, .int .i64 n0] wo fun e w' => e = .returned (.tuple #[.agg #[.int .i64 0, .int .i64 0, .int .i64 0], .bool false]) ∧ Kept Nil wo w') := CB2
          clear hfp
          go_wp2_with fail
          refine CB2.out.mono ?_
          rintro e w2 ⟨rfl, k2⟩
          have H3 := Lib.hid (HO.out.step (k2.alloc (.cells #[.int .i64 0, .int .i64 0, .int .i64 0] 114)))
          clear k2 HO e1 e2 y1 fy
          go_wp2_with fail
          go_loopw [12] (fun i wr => i = .int .i64 0 ∧ OfR w (arrR ⟨k, true, x1, x2, n0, n1, n2⟩ (.slice va vn vc)) k 0 0 0 (.slice ua un uc) [] wr) (fun _ _ => 0)
          case atStart => exact ⟨rfl, H3.out⟩
          case round =>
            obtain ⟨rfl, h⟩ := hrel
            have H4 := Lib.hid h
            clear h H3
            go_wp2_with fail
            go_roundw
            case rel => exact .inr (.inl ⟨rfl, _, by rw [EK.out, ET.out]; exact H4.out⟩)
            case measure => decide
    · have HO := Lib.hid h
      have e1 := h.t.b0.cell 3
      have e2 := h.t.b0.cell 4
      have y1 := h.b.cell 2
      have fy := h.b.frozen 2
      have hX : w.heap.size + 1 + 1 < wo.heap.size := h.b.lt
      have hX0 : w.heap.size < wo.heap.size := by omega
      simp [isV] at e1 e2 y1
      clear h R0
      cases x1
      · have EK : Hid (K1 = n1) := Lib.hid (by rw [HK1.out]; rfl)
        have ET : Hid (T1 = []) := Lib.hid (by rw [HT1.out]; rfl)
        simp at e1
        go_wp2_with fail
        go_roundw
        case rel => exact .inr (.inr (.inl ⟨rfl, _, by rw [EK.out, ET.out, List.append_nil]; exact HO.out.key1 n1⟩))
        case measure => decide
      · have EK : Hid (K1 = 0) := Lib.hid (by rw [HK1.out]; rfl)
        simp at e1
        have CB2 := Lib.hid (CB.out n1 wo HO.out.t.kept)
        obtain ⟨ua, un, uc, rfl⟩ : ∃ a n c, u = .slice a n c := by obtain ⟨x, y, e, _⟩ := HO.out.g.shape; exact ⟨x, _, y, e⟩
        cases hfp : fpL chl n1 0 with
        | some q =>
          obtain ⟨bk, g⟩ := q
          rw [hfp] at CB2
          have ET : Hid (T1 = [(1, (bk : Int), g)]) := Lib.hid (by rw [HT1.out]; simp [tst1, hfp])
          replace CB2 : Hid (Calls Try.prog 56 #[.slice ac n1' cc, .int .i64 n1] wo fun e w' => e = .returned (.tuple #[.agg #[.int .i64 n1, .int .i64 (bk : Int), .int .i64 g], .bool true]) ∧ Kept Nil wo w') := CB2
          clear hfp
          go_wp2_with fail
          refine CB2.out.mono ?_
          rintro e w2 ⟨rfl, k2⟩
          have H3 := HO.out.step (k2.alloc (.cells #[.int .i64 n1, .int .i64 (bk : Int), .int .i64 g] 114))
          obtain ⟨a3, n3, c3, w3, r3, y4, f4, hX3, R3⟩ := H3.test (by have := HL0.out; have := HL1.out; simp <;> omega) (1, (bk : Int), g)
          have x4 := H3.b.cell 4
          simp at x4
          have hX2 := H3.b.lt
          have hs2 : (w2.alloc (.cells #[.int .i64 n1, .int .i64 (bk : Int), .int .i64 g] 114)).heap.size = w2.heap.size + 1 := by simp
          rw [hs2] at r3 hX2
          clear hs2
          have RR := Lib.hid r3
          have RF := Lib.hid R3
          clear r3 R3 H3 k2 HO e1 e2 y1 fy
          go_wp2_with (at_builtin; refine wpList_append_run rfl (.tmp 76) (.tmp 83) 52 rfl _ _ rfl rfl RR.out ?_)
          go_roundw
          case rel => exact .inr (.inr (.inl ⟨rfl, _, by rw [EK.out, ET.out]; exact RF.out⟩))
          case measure => decide
        | none =>
          rw [hfp] at CB2
          have HTN : Hid (T1 = if x0 = true ∧ n1 = n0 then [(1, -1, 0)] else []) := Lib.hid (by rw [HT1.out]; simp [tst1, hfp])
          replace CB2 : Hid (Calls Try.prog 56 #[.slice ac n1' cc, .int .i64 n1] wo fun e w' => e = .returned (.tuple #[.agg #[.int .i64 0, .int .i64 0, .int .i64 0], .bool false]) ∧ Kept Nil wo w') := CB2
          clear hfp
          obtain ⟨z0, hz0⟩ : ∃ z, isV x0 = z := ⟨_, rfl⟩
          obtain ⟨q0, hq0⟩ : ∃ q, decide (z0 = 1 ∧ n0 = n1) = q := ⟨_, rfl⟩
          have EQ0 := Lib.hid (fun W => eqlTmR z0 1 n0 n1 q0 hq0 W)
          have DQ0 : Hid (q0 = decide (x0 = true ∧ n1 = n0)) := Lib.hid (by rw [← hq0, ← hz0]; exact decide_eq_decide.2 ⟨fun ⟨a, c⟩ => ⟨isV_one.1 a, c.symm⟩, fun ⟨a, c⟩ => ⟨isV_one.2 a, c.symm⟩⟩)
          have HZ0 := Lib.hid hz0
          clear hq0 hz0
          go_wp2_with fail
          refine CB2.out.mono ?_
          rintro e w2 ⟨rfl, k2⟩
          have H3 := Lib.hid (HO.out.step (k2.alloc (.cells #[.int .i64 0, .int .i64 0, .int .i64 0] 114)))
          clear k2 HO e1 e2 y1 fy
          go_wp2_with fail
          cases q0
          · have D0 : Hid (¬ (x0 = true ∧ n1 = n0)) := Lib.hid (by simpa using DQ0.out)
            have ET : Hid (T1 = []) := Lib.hid (by rw [HTN.out]; rw [if_neg D0.out])
            go_loopw [12] (fun i wr => (i = .int .i64 0 ∨ i = .int .i64 1) ∧ OfR w (arrR ⟨k, x0, true, x2, n0, n1, n2⟩ (.slice va vn vc)) k K0 0 0 (.slice ua un uc) T0 wr) (fun i _ => (3 - intOf i).toNat)
            case atStart => exact ⟨.inl rfl, H3.out⟩
            case round =>
              obtain ⟨hi, h⟩ := hrel
              have H4 := Lib.hid h
              have ce1 := h.t.b0.cell 1
              have ce2 := h.t.b0.cell 2
              have ce3 := h.t.b0.cell 3
              have ce4 := h.t.b0.cell 4
              simp at ce1 ce2 ce3 ce4
              rw [HZ0.out] at ce1
              simp [isV] at ce3
              clear h H3
              rcases hi with rfl | rfl
              · have eq := EQ0.out
                go_wp2_with fail
                go_quiet (fail)
                go_wp2_with fail
                go_roundw
                case rel => exact ⟨.inr rfl, H4.out.step ((Kept.refl Nil _).drewN _)⟩
                case measure => decide
              · go_wp2_with fail
                go_roundw
                case rel => exact .inr (.inr (.inl ⟨rfl, _, by rw [EK.out, ET.out, List.append_nil]; exact H4.out⟩))
                case measure => decide
          · have D0 : Hid (x0 = true ∧ n1 = n0) := Lib.hid (by simpa using DQ0.out)
            have ET : Hid (T1 = [(1, -1, 0)]) := Lib.hid (by rw [HTN.out]; rw [if_pos D0.out])
            go_loopw [12] (fun i wr => (i = .int .i64 0) ∧ OfR w (arrR ⟨k, x0, true, x2, n0, n1, n2⟩ (.slice va vn vc)) k K0 0 0 (.slice ua un uc) T0 wr) (fun i _ => (3 - intOf i).toNat)
            case atStart => exact ⟨rfl, H3.out⟩
            case round =>
              obtain ⟨hi, h⟩ := hrel
              have H4 := Lib.hid h
              have ce1 := h.t.b0.cell 1
              have ce2 := h.t.b0.cell 2
              have ce3 := h.t.b0.cell 3
              have ce4 := h.t.b0.cell 4
              simp at ce1 ce2 ce3 ce4
              rw [HZ0.out] at ce1
              simp [isV] at ce3
              clear h H3
              subst hi
              · have eq := EQ0.out
                go_wp2_with fail
                go_quiet (fail)
                generalize hwd : World.drewN wr _ = wd
                have H5 := H4.out.step (show Kept Nil wr wd by rw [← hwd]; exact (Kept.refl Nil wr).drewN _)
                obtain ⟨a3, n3, c3, w3, r3, y4, f4, hX3, R3⟩ := H5.test (by have := HL0.out; have := HL1.out; simp <;> omega) (1, -1, 0)
                have x4 := H5.b.cell 4
                simp at x4
                have hX2 := H5.b.lt
                have RR := Lib.hid r3
                have RF := Lib.hid R3
                clear r3 R3 H5 H4 eq hwd ce1 ce2 ce3 ce4
                go_wp2_with (at_builtin; refine wpList_append_run rfl (.tmp 101) (.tmp 105) 52 rfl _ _ rfl rfl RR.out ?_)
                go_roundw
                case rel => exact .inr (.inr (.inl ⟨rfl, _, by rw [EK.out, ET.out]; exact RF.out⟩))
                case measure => decide
    · have HO := Lib.hid h
      have e1 := h.t.b0.cell 5
      have e2 := h.t.b0.cell 6
      have y1 := h.b.cell 3
      have fy := h.b.frozen 3
      have hX : w.heap.size + 1 + 1 < wo.heap.size := h.b.lt
      have hX0 : w.heap.size < wo.heap.size := by omega
      simp [isV] at e1 e2 y1
      clear h R0
      cases x2
      · have EK : Hid (K2 = n2) := Lib.hid (by rw [HK2.out]; rfl)
        have ET : Hid (T2 = []) := Lib.hid (by rw [HT2.out]; rfl)
        simp at e1
        go_wp2_with fail
        go_roundw
        case rel => exact .inr (.inr (.inr ⟨rfl, _, by rw [EK.out, ET.out, List.append_nil]; exact HO.out.key2 n2⟩))
        case measure => decide
      · have EK : Hid (K2 = 0) := Lib.hid (by rw [HK2.out]; rfl)
        simp at e1
        have CB2 := Lib.hid (CB.out n2 wo HO.out.t.kept)
        obtain ⟨ua, un, uc, rfl⟩ : ∃ a n c, u = .slice a n c := by obtain ⟨x, y, e, _⟩ := HO.out.g.shape; exact ⟨x, _, y, e⟩
        cases hfp : fpL chl n2 0 with
        | some q =>
          obtain ⟨bk, g⟩ := q
          rw [hfp] at CB2
          have ET : Hid (T2 = [(2, (bk : Int), g)]) := Lib.hid (by rw [HT2.out]; simp [tst2, hfp])
          replace CB2 : Hid (Calls Try.prog 56 #[.slice ac n1' cc, .int .i64 n2] wo fun e w' => e = .returned (.tuple #[.agg #[.int .i64 n2, .int .i64 (bk : Int), .int .i64 g], .bool true]) ∧ Kept Nil wo w') := CB2
          clear hfp
          go_wp2_with fail
          refine CB2.out.mono ?_
          rintro e w2 ⟨rfl, k2⟩
          have H3 := HO.out.step (k2.alloc (.cells #[.int .i64 n2, .int .i64 (bk : Int), .int .i64 g] 114))
          obtain ⟨a3, n3, c3, w3, r3, y4, f4, hX3, R3⟩ := H3.test (by have := HL0.out; have := HL1.out; simp <;> omega) (2, (bk : Int), g)
          have x4 := H3.b.cell 4
          simp at x4
          have hX2 := H3.b.lt
          have hs2 : (w2.alloc (.cells #[.int .i64 n2, .int .i64 (bk : Int), .int .i64 g] 114)).heap.size = w2.heap.size + 1 := by simp
          rw [hs2] at r3 hX2
          clear hs2
          have RR := Lib.hid r3
          have RF := Lib.hid R3
          clear r3 R3 H3 k2 HO e1 e2 y1 fy
          go_wp2_with (at_builtin; refine wpList_append_run rfl (.tmp 76) (.tmp 83) 52 rfl _ _ rfl rfl RR.out ?_)
          go_roundw
          case rel => exact .inr (.inr (.inr ⟨rfl, _, by rw [EK.out, ET.out]; exact RF.out⟩))
          case measure => decide
        | none =>
          rw [hfp] at CB2
          have HTN : Hid (T2 = if x0 = true ∧ n2 = n0 then [(2, -1, 0)] else if x1 = true ∧ n2 = n1 then [(2, -1, 1)] else []) := Lib.hid (by rw [HT2.out]; simp [tst2, hfp])
          replace CB2 : Hid (Calls Try.prog 56 #[.slice ac n1' cc, .int .i64 n2] wo fun e w' => e = .returned (.tuple #[.agg #[.int .i64 0, .int .i64 0, .int .i64 0], .bool false]) ∧ Kept Nil wo w') := CB2
          clear hfp
          obtain ⟨z0, hz0⟩ : ∃ z, isV x0 = z := ⟨_, rfl⟩
          obtain ⟨q0, hq0⟩ : ∃ q, decide (z0 = 1 ∧ n0 = n2) = q := ⟨_, rfl⟩
          have EQ0 := Lib.hid (fun W => eqlTmR z0 1 n0 n2 q0 hq0 W)
          have DQ0 : Hid (q0 = decide (x0 = true ∧ n2 = n0)) := Lib.hid (by rw [← hq0, ← hz0]; exact decide_eq_decide.2 ⟨fun ⟨a, c⟩ => ⟨isV_one.1 a, c.symm⟩, fun ⟨a, c⟩ => ⟨isV_one.2 a, c.symm⟩⟩)
          have HZ0 := Lib.hid hz0
          clear hq0 hz0
          obtain ⟨z1, hz1⟩ : ∃ z, isV x1 = z := ⟨_, rfl⟩
          obtain ⟨q1, hq1⟩ : ∃ q, decide (z1 = 1 ∧ n1 = n2) = q := ⟨_, rfl⟩
          have EQ1 := Lib.hid (fun W => eqlTmR z1 1 n1 n2 q1 hq1 W)
          have DQ1 : Hid (q1 = decide (x1 = true ∧ n2 = n1)) := Lib.hid (by rw [← hq1, ← hz1]; exact decide_eq_decide.2 ⟨fun ⟨a, c⟩ => ⟨isV_one.1 a, c.symm⟩, fun ⟨a, c⟩ => ⟨isV_one.2 a, c.symm⟩⟩)
          have HZ1 := Lib.hid hz1
          clear hq1 hz1
          go_wp2_with fail
          refine CB2.out.mono ?_
          rintro e w2 ⟨rfl, k2⟩
          have H3 := Lib.hid (HO.out.step (k2.alloc (.cells #[.int .i64 0, .int .i64 0, .int .i64 0] 114)))
          clear k2 HO e1 e2 y1 fy
          go_wp2_with fail
          cases q0
          · have D0 : Hid (¬ (x0 = true ∧ n2 = n0)) := Lib.hid (by simpa using DQ0.out)
            cases q1
            · have D1 : Hid (¬ (x1 = true ∧ n2 = n1)) := Lib.hid (by simpa using DQ1.out)
              have ET : Hid (T2 = []) := Lib.hid (by rw [HTN.out]; rw [if_neg D0.out]; rw [if_neg D1.out])
              go_loopw [12] (fun i wr => (i = .int .i64 0 ∨ i = .int .i64 1 ∨ i = .int .i64 2) ∧ OfR w (arrR ⟨k, x0, x1, true, n0, n1, n2⟩ (.slice va vn vc)) k K0 K1 0 (.slice ua un uc) (T0 ++ T1) wr) (fun i _ => (3 - intOf i).toNat)
              case atStart => exact ⟨.inl rfl, H3.out⟩
              case round =>
                obtain ⟨hi, h⟩ := hrel
                have H4 := Lib.hid h
                have ce1 := h.t.b0.cell 1
                have ce2 := h.t.b0.cell 2
                have ce3 := h.t.b0.cell 3
                have ce4 := h.t.b0.cell 4
                have ce5 := h.t.b0.cell 5
                have ce6 := h.t.b0.cell 6
                simp at ce1 ce2 ce3 ce4 ce5 ce6
                rw [HZ0.out] at ce1
                rw [HZ1.out] at ce3
                simp [isV] at ce5
                clear h H3
                rcases hi with rfl | rfl | rfl
                · have eq := EQ0.out
                  go_wp2_with fail
                  go_quiet (fail)
                  go_wp2_with fail
                  go_roundw
                  case rel => exact ⟨.inr (.inl rfl), H4.out.step ((Kept.refl Nil _).drewN _)⟩
                  case measure => decide
                · have eq := EQ1.out
                  go_wp2_with fail
                  go_quiet (fail)
                  go_wp2_with fail
                  go_roundw
                  case rel => exact ⟨.inr (.inr rfl), H4.out.step ((Kept.refl Nil _).drewN _)⟩
                  case measure => decide
                · go_wp2_with fail
                  go_roundw
                  case rel => exact .inr (.inr (.inr ⟨rfl, _, by rw [EK.out, ET.out, List.append_nil]; exact H4.out⟩))
                  case measure => decide
            · have D1 : Hid (x1 = true ∧ n2 = n1) := Lib.hid (by simpa using DQ1.out)
              have ET : Hid (T2 = [(2, -1, 1)]) := Lib.hid (by rw [HTN.out]; rw [if_neg D0.out]; rw [if_pos D1.out])
              go_loopw [12] (fun i wr => (i = .int .i64 0 ∨ i = .int .i64 1) ∧ OfR w (arrR ⟨k, x0, x1, true, n0, n1, n2⟩ (.slice va vn vc)) k K0 K1 0 (.slice ua un uc) (T0 ++ T1) wr) (fun i _ => (3 - intOf i).toNat)
              case atStart => exact ⟨.inl rfl, H3.out⟩
              case round =>
                obtain ⟨hi, h⟩ := hrel
                have H4 := Lib.hid h
                have ce1 := h.t.b0.cell 1
                have ce2 := h.t.b0.cell 2
                have ce3 := h.t.b0.cell 3
                have ce4 := h.t.b0.cell 4
                have ce5 := h.t.b0.cell 5
                have ce6 := h.t.b0.cell 6
                simp at ce1 ce2 ce3 ce4 ce5 ce6
                rw [HZ0.out] at ce1
                rw [HZ1.out] at ce3
                simp [isV] at ce5
                clear h H3
                rcases hi with rfl | rfl
                · have eq := EQ0.out
                  go_wp2_with fail
                  go_quiet (fail)
                  go_wp2_with fail
                  go_roundw
                  case rel => exact ⟨.inr rfl, H4.out.step ((Kept.refl Nil _).drewN _)⟩
                  case measure => decide
                · have eq := EQ1.out
                  go_wp2_with fail
                  go_quiet (fail)
                  generalize hwd : World.drewN wr _ = wd
                  have H5 := H4.out.step (show Kept Nil wr wd by rw [← hwd]; exact (Kept.refl Nil wr).drewN _)
                  obtain ⟨a3, n3, c3, w3, r3, y4, f4, hX3, R3⟩ := H5.test (by have := HL0.out; have := HL1.out; simp <;> omega) (2, -1, 1)
                  have x4 := H5.b.cell 4
                  simp at x4
                  have hX2 := H5.b.lt
                  have RR := Lib.hid r3
                  have RF := Lib.hid R3
                  clear r3 R3 H5 H4 eq hwd ce1 ce2 ce3 ce4 ce5 ce6
                  go_wp2_with (at_builtin; refine wpList_append_run rfl (.tmp 101) (.tmp 105) 52 rfl _ _ rfl rfl RR.out ?_)
                  go_roundw
                  case rel => exact .inr (.inr (.inr ⟨rfl, _, by rw [EK.out, ET.out]; exact RF.out⟩))
                  case measure => decide
          · have D0 : Hid (x0 = true ∧ n2 = n0) := Lib.hid (by simpa using DQ0.out)
            have ET : Hid (T2 = [(2, -1, 0)]) := Lib.hid (by rw [HTN.out]; rw [if_pos D0.out])
            go_loopw [12] (fun i wr => (i = .int .i64 0) ∧ OfR w (arrR ⟨k, x0, x1, true, n0, n1, n2⟩ (.slice va vn vc)) k K0 K1 0 (.slice ua un uc) (T0 ++ T1) wr) (fun i _ => (3 - intOf i).toNat)
            case atStart => exact ⟨rfl, H3.out⟩
            case round =>
              obtain ⟨hi, h⟩ := hrel
              have H4 := Lib.hid h
              have ce1 := h.t.b0.cell 1
              have ce2 := h.t.b0.cell 2
              have ce3 := h.t.b0.cell 3
              have ce4 := h.t.b0.cell 4
              have ce5 := h.t.b0.cell 5
              have ce6 := h.t.b0.cell 6
              simp at ce1 ce2 ce3 ce4 ce5 ce6
              rw [HZ0.out] at ce1
              rw [HZ1.out] at ce3
              simp [isV] at ce5
              clear h H3
              subst hi
              · have eq := EQ0.out
                go_wp2_with fail
                go_quiet (fail)
                generalize hwd : World.drewN wr _ = wd
                have H5 := H4.out.step (show Kept Nil wr wd by rw [← hwd]; exact (Kept.refl Nil wr).drewN _)
                obtain ⟨a3, n3, c3, w3, r3, y4, f4, hX3, R3⟩ := H5.test (by have := HL0.out; have := HL1.out; simp <;> omega) (2, -1, 0)
                have x4 := H5.b.cell 4
                simp at x4
                have hX2 := H5.b.lt
                have RR := Lib.hid r3
                have RF := Lib.hid R3
                clear r3 R3 H5 H4 eq hwd ce1 ce2 ce3 ce4 ce5 ce6
                go_wp2_with (at_builtin; refine wpList_append_run rfl (.tmp 101) (.tmp 105) 52 rfl _ _ rfl rfl RR.out ?_)
                go_roundw
                case rel => exact .inr (.inr (.inr ⟨rfl, _, by rw [EK.out, ET.out]; exact RF.out⟩))
                case measure => decide
    · have HO := Lib.hid h
      obtain ⟨ua, uc, rfl, huc⟩ := HO.out.g.shape
      have HTs : Hid (tstL chl ⟨k, x0, x1, x2, n0, n1, n2⟩ = T0 ++ T1 ++ T2) := Lib.hid HTL.out
      generalize T0 ++ T1 ++ T2 = TS at HO HTs huc
      obtain ⟨un, hun⟩ : ∃ n, TS.length = n := ⟨_, rfl⟩
      rw [hun] at HO huc
      have HUN := Lib.hid hun
      clear h R0 hun
      go_wp2_with (first
        | ((with_reducible refine wpList_load_Q rfl (.tmp 5) rfl _ _ rfl ⟨k, K0, K1, K2, []⟩ (.slice ua un uc) (.slice none 0 0) ?_ ?_)
           · exact World.rangeAt_of_block HO.out.b 0 6)
        | ((with_reducible refine wpList_store_Q rfl (.tmp 4) _ rfl _ ⟨k, K0, K1, K2, []⟩ _ _ _ _ _ _ rfl rfl zS rfl ?_ ?_)
           · exact HO.out.t.b1
           intro W kW bW
           have KW := Lib.hid kW
           have BW := Lib.hid bW
           clear kW bW))
      refine bodyPost_ret (results_cell_row Try.results35 _ _ _ _ _ _ _ rfl BW.out Try.underlying54 rfl (by kernel_rfl)) rfl ?_
      have htt := HO.out.g.tsAt
      rw [HTs.out]
      refine ⟨ua, uc, none, 0, by show _ = Ending.returned (vS ⟨k, K0, K1, K2, TS⟩ (.slice ua TS.length uc) (.slice none 0 0)); rw [HUN.out], ?_, .nil none 0, HO.out.t.kept.trans KW.out (fun i hi e => by omega)⟩
      show TsAt _ _ (.slice ua TS.length uc) TS
      rw [HUN.out]
      exact (htt.kept KW.out (fun b o hb e => by have := hb.1; omega)).mono (fun b o hb => (hb.kept KW.out (fun e => by have := hb.1; omega)).less (by omega))
/-- The reference's Of of any condition. -/
theorem of_all : ∀ s : Sh, OfS s := Sh.ind fun hd subs ih => by
  intro chl ok1 ok2 ac cc a cap w h1 h2 hc hk
  obtain ⟨d, hd'⟩ := hk
  obtain ⟨k, x0, x1, x2, n0, n1, n2⟩ := hd
  rw [Sh.count] at hc
  by_cases hk3 : k = 3
  · subst hk3
    rcases chk_zero hd' with ⟨_, _, hs⟩ | ⟨h12, _⟩
    · rw [st_mk, if_pos rfl]
      exact ofNcc_any x0 x1 x2 n0 n1 n2 subs (Lib.hid ih) ok1 ok2 chl ac cc a cap w h1 h2 (by omega) ⟨d + 1, hs⟩
    · have : (3 : Int) = 1 ∨ (3 : Int) = 2 := h12
      omega
  · rw [st_mk, if_neg hk3]
    exact ofTerms_any k hk3 x0 x1 x2 n0 n1 n2 chl (by omega) ok1 ac cc _ ⟨_, _, _, rfl⟩ w h1
end
section
open Go.RowKit
set_option maxRecDepth 100000

/-- Lists of numbers in blocks from B on. -/
def LNew (w : World) (B : Nat) (a : Option Addr) (n : Nat) (L : List (List Int)) : Prop :=
  L.length = n ∧ (n = 0 ∨ ∃ b o, a = some ⟨b, o, none⟩ ∧ B ≤ b ∧ b < w.heap.size ∧ ∀ (j : Nat) l, L[j]? = some l → ∃ a' n' c', w.cell? ⟨b, o + j, none⟩ = some (.slice a' n' c') ∧ In cN 1 w a' n' l ∧ ∀ b', (Value.slice a' n' c').ownBlock = some b' → B ≤ b')
theorem LNew.toLIn {w : World} {B : Nat} {a : Option Addr} {n : Nat} {L : List (List Int)} (h : LNew w B a n L) : LIn w a n L :=
  ⟨h.1, h.2.imp id fun ⟨b, o, e, _, hb, hc⟩ => ⟨b, o, e, hb, fun j l hj => by
    obtain ⟨a', n', c', h1, h2, _⟩ := hc j l hj
    exact ⟨a', n', c', h1, h2⟩⟩⟩
theorem LNew.keptF {F : Nat → Prop} {w w' : World} {B : Nat} {a : Option Addr} {n : Nat} {L : List (List Int)} (h : LNew w B a n L) (k : Kept F w w') (hF : ∀ b, B ≤ b → ¬ F b) : LNew w' B a n L :=
  ⟨h.1, h.2.imp id fun ⟨b, o, e, hB, hb, hc⟩ => ⟨b, o, e, hB, Nat.lt_of_lt_of_le hb k.size, fun j l hj => by
    obtain ⟨a', n', c', h1, h2, h3⟩ := hc j l hj
    exact ⟨a', n', c', (k.cell (p := ⟨b, o + j, none⟩) hb (hF b hB)).trans h1, h2.keptF k (fun b' hb' => hF b' (h3 b' hb')), h3⟩⟩⟩
/-- The steps of right conditions may stand in a chain. -/
theorem stL_okS {l : List Sh} (hc : countL l ≤ 16) (h : chkL l 1 = 0) : ∀ x ∈ stL l [], x.okS := fun x hx =>
  ⟨(st_good.2 l (fun y hy => chk_good y 1 (chkL_all.1 h y hy)) []).1 x hx, stL_right h (by rw [List.length_nil, Nat.zero_add]; exact hc) x hx⟩
/-- The program's Partial is the document's, of good steps, of few right facts. -/
def PartialOK : Prop := ∀ (fs : List F4), (∀ f ∈ fs, okT f.2 = true) → fs.length ≤ 12 → ∀ (l : List St), (∀ x ∈ l, x.okS) → l.length ≤ 16 → (fs.length + 1) ^ posSL l ≤ 3000 → ∀ (fa : Option Addr) (fn fc : Nat) (a : Option Addr) (cap : Nat) (w : World), In cF 4 w fa fn fs → SHolds w Any2 (.slice a l.length cap) l →
  Calls Try.prog 13 #[.slice fa fn fc, .slice a l.length cap] w fun e w' => ∃ a' n' c', e = .returned (.slice a' n' c') ∧ LNew w' w.heap.size a' n' (smL fs l []) ∧ Kept Nil w w'
def AwakeOK : Prop := ∀ w : World, Calls Try.prog 10 #[] w fun e w' => e = .returned (.bool true) ∧ Kept Nil w w'
/-- A match has no more ids than there are Pos. -/
theorem sm_ids (fs : List F4) : (∀ (c : St) (K : List F4 → List (List Int)) (N : Nat), (∀ ch, ∀ x ∈ K ch, x.length ≤ ch.length + N) → ∀ ch, ∀ x ∈ c.sm fs K ch, x.length ≤ ch.length + 1 + N) ∧ ∀ (l : List St) ch, ∀ x ∈ smL fs l ch, x.length ≤ ch.length + l.length := by
  refine St.ind2 (fun h subs _ K N hK ch x hx => ?_) (fun ch x hx => ?_) (fun c r hc hr ch x hx => ?_)
  · rw [sm_mk] at hx
    split at hx
    · obtain ⟨f, _, hx⟩ := List.mem_flatMap.1 hx
      split at hx
      · have := hK _ x hx
        rw [List.length_append] at this
        simpa using this
      · cases hx
    · split at hx
      · cases hx
      · split at hx
        · cases hx
        · have := hK ch x hx; omega
  · rw [smL_nil] at hx
    rw [List.mem_singleton.1 hx, List.length_map]; simp
  · rw [smL_cons] at hx
    have := hc (smL fs r) r.length (fun ch x hx => hr ch x hx) ch x hx
    rw [List.length_cons]; omega
set_option maxHeartbeats 8000000 in
theorem plainTerms_of (hP : PartialOK) (hA : AwakeOK) (nm : ByteArray) (hnm : nm.size ≤ maxLen) (l : List Sh) (a : Option Addr) (cap : Nat) (_hcap : l.length ≤ cap ∧ cap ≤ maxLen) (tA : Option Addr) (nt ct : Nat) (ts : List T3) (w : World) (h : Holds cA w (fun b _ => b < w.heap.size) (.slice a l.length cap) l) (ht : In cT3 3 w tA nt ts) (hm : nt ≤ maxLen) :
    Calls Try.prog 3 #[vRule nm (.slice a l.length cap), .slice tA nt ct] w fun e w' => e = .returned (.bool true) ∧ Kept Nil w w' := by
  have hm1 := hm
  unfold maxLen at hm1
  have HA := Lib.hid hA
  have HP := Lib.hid hP
  have CF := Lib.hid (fun W (kW : Kept Nil w W) => fineP_any nm hnm l (fun b _ => b < w.heap.size) a cap nt hm W (h.keptN kW) (fun b o hb => Nat.lt_of_lt_of_le hb kW.size))
  unfold Yes2 at CF
  have CR : Hid (∀ w', Kept Nil w w' → countL l ≤ 16 → Calls Try.prog 12 #[vRule nm (.slice a l.length cap)] w' fun e w'' => ∃ a' cap', e = .returned (vRule nm (.slice a' l.length cap')) ∧ Holds cR w'' (okM w'.heap.size w'') (.slice a' l.length cap') l ∧ Kept Nil w' w'') := Lib.hid fun w' k hc => refRuleOf_any nm l (by omega) _ a cap w' (h.keptN k)
  have CFa := Lib.hid (fun W (kW : Kept Nil w W) (h12 : nt ≤ 12) => facts_any ts tA nt ct 2 (by decide) (by omega) W (ht.kept kW))
  unfold FactsEnd at CFa
  have hts := ht.1
  have HTS := Lib.hid hts
  obtain ⟨len, hlen⟩ : ∃ len, l.length = len := ⟨_, rfl⟩
  rw [hlen] at CF CR ⊢
  have HL := Lib.hid hlen
  have K0 := Lib.hid ((Kept.refl Nil w).alloc (.cells #[.string nm, .slice a len cap] 24))
  have B0 := Lib.hid (Blk.new w 24 #[.string nm, .slice a len cap])
  clear h ht hlen hnm hP hA hts hm
  unfold vRule at CF CR ⊢
  go_enter Try.func3, Try.ntmps3
  go_wp2_with fail
  refine (CF.out _ K0.out).mono ?_
  rintro e w1 ⟨b, rfl, k1, hb⟩
  have K1 := Lib.hid (K0.out.trans k1 (fun _ _ g => g))
  have B1 := Lib.hid (B0.out.kept k1 (fun e => e))
  have HB := Lib.hid hb
  clear k1 hb K0 B0 CF
  cases b
  · go_wp2_with fail
    refine (HA.out _).mono ?_
    rintro e w3 ⟨rfl, k3⟩
    go_wp2_with fail
    go_ret
    exact ⟨rfl, K1.out.trans k3 (fun _ _ g => g)⟩
  have HG : Hid (nt ≤ 12 ∧ (countL l ≤ 16 ∧ chkL l 1 = 0 ∧ len ≠ 0) ∧ (nt + 1) ^ posAL l ≤ 3000) := Lib.hid (HB.out rfl)
  clear HB
  go_wp2_with fail
  refine (CFa.out _ K1.out HG.out.1).mono ?_
  rintro e w2 ⟨k2, hfac⟩
  have K2 := Lib.hid (K1.out.trans k2 (fun _ _ g => g))
  have B2 := Lib.hid (B1.out.kept k2 (fun e => e))
  clear k2 B1 CFa
  rcases hfac with ⟨fa, fc, rfl, hrow, hok⟩ | rfl
  rotate_left
  · go_wp2_with fail
    refine (HA.out _).mono ?_
    rintro e w3 ⟨rfl, k3⟩
    go_wp2_with fail
    go_ret
    exact ⟨rfl, K2.out.trans k3 (fun _ _ g => g)⟩
  have HFs := Lib.hid (factsM_ok (d := 2) hok)
  have HFl := Lib.hid ((factsM_len 2 ts).trans HTS.out)
  rw [HTS.out] at hrow
  have HFi := Lib.hid (hrow.toIn cF_len (by decide))
  rw [show ((2 : Nat) : Int) = 2 from rfl] at HFi
  have htl := HTS.out
  generalize hfs : factsM 2 ts = fs at *
  rw [htl]
  have c0 := B2.out.cell 0
  have c1 := B2.out.cell 1
  simp at c0 c1
  have HGood : Hid (∀ x ∈ l, x.good) := Lib.hid fun x hx => chk_good x 1 (chkL_all.1 HG.out.2.1.2.1 x hx)
  have HCo : Hid ((fs.length + 1) ^ posAL l ≤ 3000) := Lib.hid (by rw [HFl.out]; exact HG.out.2.2)
  have HSt := Lib.hid ((st_good.2 l HGood.out []))
  have HCo2 : Hid ((fs.length + 1) ^ posSL (stL l []) ≤ 3000) := Lib.hid (Nat.le_trans (pow_le_of _ HSt.out.2) HCo.out)
  have HEq := Lib.hid ((steps_terms HFs.out).2 l HGood.out [] [] zeroB Inv.nil)
  have HSL : Hid ((stL l []).length = len) := Lib.hid (by rw [stL_length]; exact HL.out)
  have hl16 : len ≤ 16 := by have := length_countL l; have := HG.out.2.1.1; have := HL.out; omega
  have CO : Hid (∀ W ok a cap, Holds cR W ok (.slice a len cap) l → Calls Try.prog 15 #[.slice a len cap] W fun e w' => ∃ a cap, e = .returned (.slice a len cap) ∧ SHolds w' (okM W.heap.size w') (.slice a len cap) (stL l []) ∧ Kept Nil W w') := Lib.hid fun W ok a cap hh => by
    have := refCompile_of of_all l ⟨HG.out.2.1.1, HG.out.2.1.2.1⟩ ok a cap W (by rw [HL.out]; exact hh)
    unfold StsEnd at this
    rw [stL_length, HL.out] at this
    exact this
  have CS : Hid (∀ W ok a cap, SHolds W ok (.slice a len cap) (stL l []) → Calls Try.prog 14 #[.slice a len cap] W fun e w' => ∃ a cap, e = .returned (.slice a len cap) ∧ SHolds w' (okM W.heap.size w') (.slice a len cap) (stL l []) ∧ Kept Nil W w') := Lib.hid fun W ok a cap hh => by
    have := steps_any (stL l []) (by have := st_mass.2 l []; have := HG.out.2.1.1; omega) ok a cap W (by rw [HSL.out]; exact hh)
    unfold StsEnd at this
    rw [HSL.out] at this
    exact this
  have CP : Hid (∀ W a cap, In cF 4 W fa nt fs → SHolds W Any2 (.slice a len cap) (stL l []) → Calls Try.prog 13 #[.slice fa nt fc, .slice a len cap] W fun e w' => ∃ a' n' c', e = .returned (.slice a' n' c') ∧ LNew w' W.heap.size a' n' (smL fs (stL l []) []) ∧ Kept Nil W w') := Lib.hid fun W a cap hf hh => by
    have := HP.out fs HFs.out (by rw [HFl.out]; exact HG.out.1) (stL l []) (stL_okS HG.out.2.1.1 HG.out.2.1.2.1) (by rw [HSL.out]; exact hl16) HCo2.out fa nt fc a cap W hf (by rw [HSL.out]; exact hh)
    rw [HSL.out] at this
    exact this
  have CTm : Hid (∀ W a cap fa' fc', In cF 4 W fa' nt fs → Holds cR W Any2 (.slice a len cap) l → Calls Try.prog 17 #[.slice fa' nt fc', .slice a len cap, .slice none 0 0, .slice none 0 0] W fun e w' => ∃ r, e = .returned r ∧ LL w' W.heap.size r (tmL fs l zeroB []) ∧ Kept Nil W w') := Lib.hid fun W a cap fa' fc' hf hh => by
    have hp : posAL l ≤ 16 := Nat.le_trans (posA_le.2 l) HG.out.2.1.1
    have := terms_all fs HFs.out (by rw [HFl.out]; exact HG.out.1) l HGood.out HCo.out zeroB [] fa' nt fc' a cap (.slice none 0 0) [] 0 (.slice none 0 0) W hf (by rw [HL.out]; exact hh) (QRow.nil _ _) (Nat.zero_le _) ⟨fun p hp => (by cases hp), fun _ _ _ => rfl⟩ (by simp; omega) (Row.nil _ _) (by simp; omega)
    rw [HL.out] at this
    exact this
  have hids1 : ∀ x ∈ smL fs (stL l []) [], x.length ≤ 100000 := fun x hx => by have := (sm_ids fs).2 (stL l []) [] x hx; rw [HSL.out] at this; simp at this; omega
  have hlen1 : (smL fs (stL l []) []).length ≤ 100000 := Nat.le_trans ((sm_len fs).2 (stL l []) []) (Nat.le_trans HCo2.out (by decide))
  have HIds := Lib.hid (And.intro hids1 hlen1)
  simp only [List.map_nil] at HEq
  rw [← HEq.out] at CTm
  generalize smL fs (stL l []) [] = M at *
  clear hfs hrow hok htl HFs HFl HGood HCo HCo2 HSt HEq hids1 hlen1 HP
  go_wp2_with fail
  refine (CR.out _ K2.out HG.out.2.1.1).mono ?_
  rintro e w3 ⟨a3, c3, rfl, h3, k3⟩
  have K3 := Lib.hid (K2.out.trans k3 (fun _ _ g => g))
  have H3 := Lib.hid h3
  have F3 := Lib.hid (HFi.out.kept k3)
  have hfld := fieldRule nm a3 len c3
  clear k3 h3 c0 c1 CR HFi B2
  go_wp2_with fail
  refine (CO.out _ _ _ _ H3.out).mono ?_
  rintro e w4 ⟨a4, c4, rfl, h4, k4⟩
  have K4 := Lib.hid (K3.out.trans k4 (fun _ _ g => g))
  have H34 := Lib.hid ((H3.out.keptN k4).mono (ok' := Any2) (fun _ _ _ => trivial))
  have F4' := Lib.hid (F3.out.kept k4)
  have H4 := Lib.hid h4
  clear k4 h4 CO H3 F3 hfld
  go_wp2_with fail
  refine (CS.out _ _ _ _ H4.out).mono ?_
  rintro e w5 ⟨a5, c5, rfl, h5, k5⟩
  have K5 := Lib.hid (K4.out.trans k5 (fun _ _ g => g))
  have H35 := Lib.hid (H34.out.keptN k5)
  have F5 := Lib.hid (F4'.out.kept k5)
  have H5 := Lib.hid (h5.mono (ok' := Any2) (fun _ _ _ => trivial))
  clear k5 h5 CS H4 H34 F4'
  go_wp2_with fail
  refine (CP.out _ _ _ F5.out H5.out).mono ?_
  rintro e w6 ⟨a6, n6, c6, rfl, h6, k6⟩
  have K6 := Lib.hid (K5.out.trans k6 (fun _ _ g => g))
  have H36 := Lib.hid (H35.out.keptN k6)
  have F6 := Lib.hid (F5.out.kept k6)
  have H6 := Lib.hid h6.toLIn
  have CRf := Lib.hid (fun W (hf : In cF 4 W fa nt fs) => refF_any (c := fc) hf (by have := HG.out.1; omega))
  clear k6 h6 CP H5 H35 F5
  go_wp2_with fail
  refine (CRf.out _ F6.out).mono ?_
  rintro e w7 ⟨a7, c7, rfl, h7, _, k7⟩
  have K7 := Lib.hid (K6.out.trans k7 (fun _ _ g => g))
  have H37 := Lib.hid (H36.out.keptN k7)
  have H67 := Lib.hid (H6.out.kept k7)
  have H7 := Lib.hid h7
  clear k7 h7 CRf H36 F6 H6
  go_wp2_with fail
  refine (CTm.out _ _ _ _ _ H7.out H37.out).mono ?_
  rintro e w8 ⟨r8, rfl, h8, k8⟩
  obtain ⟨a8, c8, rfl⟩ := h8.shape
  have K8 := Lib.hid (K7.out.trans k8 (fun _ _ g => g))
  have CSm := Lib.hid (same_any (c := c6) (c' := c8) (H67.out.kept k8) h8.toLIn (by rw [← H67.out.1]; exact HIds.out.2) HIds.out.2 HIds.out.1 HIds.out.1)
  rw [decide_eq_true rfl] at CSm
  clear k8 h8 CTm H37 H67 H7
  generalize M.length = mn at *
  go_wp2_with fail
  refine CSm.out.mono ?_
  rintro e w9 ⟨rfl, k9⟩
  have K9 := Lib.hid (K8.out.trans k9 (fun _ _ g => g))
  clear k9 CSm
  go_wp2_with fail
  refine (HA.out _).mono ?_
  rintro e w10 ⟨rfl, k10⟩
  go_wp2_with fail
  go_ret
  exact ⟨rfl, K9.out.trans k10 (fun _ _ g => g)⟩
end
section
open Go.RowKit
set_option maxRecDepth 100000

/-- The examples' conditions, and their facts. -/
def exL (k : Int) : List Sh := [.mk ⟨1, true, false, true, 1, 9, 2⟩ [], .mk ⟨k, true, false, true, 2, 9, 3⟩ []]
def exF : List F4 := [(1, (1, 9, 2)), (2, (2, 9, 3))]
theorem ex1 : smL exF (stL (exL 1) []) [] = [[1, 2]] := by decide +kernel
theorem ex2 : smL exF (stL (exL 2) []) [] = [[2]] := by decide +kernel
theorem exChk {k : Int} (hk : k = 1 ∨ k = 2) : countL (exL k) ≤ 16 ∧ chkL (exL k) 1 = 0 ∧ posAL (exL k) ≤ 2 := by
  rcases hk with rfl | rfl
  · decide +kernel
  · decide +kernel
theorem exHolds {W : World} {g : Nat} {k : Int} (h : Blk W g 72 #[.int .i64 1, .bool true, .int .i64 1, .bool false, .int .i64 9, .bool true, .int .i64 2, .slice none 0 0, .int .i64 k, .bool true, .int .i64 2, .bool false, .int .i64 9, .bool true, .int .i64 3, .slice none 0 0]) :
    Holds cA W Any2 (.slice (some ⟨g, 0, none⟩) 2 2) (exL k) := by
  refine Holds.row (E := cA) (w := W) (ok := Any2) g 0 2 (exL k) (fun _ => .slice none 0 0) (Nat.le_refl _) trivial (fun i x hi j v hj => ?_) (fun i x hi => ?_)
  · rw [h.cell]
    match i, hi with
    | 0, hi =>
      obtain rfl := Option.some.inj hi
      match j, hj with
      | 0, hj | 1, hj | 2, hj | 3, hj | 4, hj | 5, hj | 6, hj | 7, hj => exact hj
      | j + 8, hj => exact absurd (List.getElem?_eq_some_iff.1 hj).1 (by show ¬ j + 8 < 8; omega)
    | 1, hi =>
      obtain rfl := Option.some.inj hi
      match j, hj with
      | 0, hj | 1, hj | 2, hj | 3, hj | 4, hj | 5, hj | 6, hj | 7, hj => exact hj
      | j + 8, hj => exact absurd (List.getElem?_eq_some_iff.1 hj).1 (by show ¬ j + 8 < 8; omega)
    | i + 2, hi => exact absurd (List.getElem?_eq_some_iff.1 hi).1 (by show ¬ i + 2 < 2; omega)
  · have : x.subs = [] := by
      match i, hi with
      | 0, hi => obtain rfl := Option.some.inj hi; rfl
      | 1, hi => obtain rfl := Option.some.inj hi; rfl
      | i + 2, hi => exact absurd (List.getElem?_eq_some_iff.1 hi).1 (by show ¬ i + 2 < 2; omega)
    rw [this]
    exact .nil _ _
theorem exIn {W : World} {g : Nat} {T : TypeId} (h : Blk W g T #[.int .i64 1, .int .i64 1, .int .i64 9, .int .i64 2, .int .i64 2, .int .i64 2, .int .i64 9, .int .i64 3]) : In cF 4 W (some ⟨g, 0, none⟩) 2 exF := by
  refine ⟨rfl, .inr ⟨g, 0, rfl, h.lt, fun j x i v hj hi => ?_⟩⟩
  rw [h.cell]
  match j, hj with
  | 0, hj =>
    obtain rfl := Option.some.inj hj
    match i, hi with
    | 0, hi | 1, hi | 2, hi | 3, hi => exact hi
    | i + 4, hi => exact absurd (List.getElem?_eq_some_iff.1 hi).1 (by show ¬ i + 4 < 4; omega)
  | 1, hj =>
    obtain rfl := Option.some.inj hj
    match i, hi with
    | 0, hi | 1, hi | 2, hi | 3, hi => exact hi
    | i + 4, hi => exact absurd (List.getElem?_eq_some_iff.1 hi).1 (by show ¬ i + 4 < 4; omega)
  | j + 2, hj => exact absurd (List.getElem?_eq_some_iff.1 hj).1 (by show ¬ j + 2 < 2; omega)
theorem exRef {k : Int} (hk : k = 1 ∨ k = 2) (a : Option Addr) (cap : Nat) (W : World) (h : Holds cA W Any2 (.slice a 2 cap) (exL k)) :
    Calls Try.prog 27 #[.slice a 2 cap] W fun e w' => ∃ a' cap', e = .returned (.slice a' 2 cap') ∧ Holds cR w' Any2 (.slice a' 2 cap') (exL k) ∧ Kept Nil W w' := by
  refine (refL_any (exL k) (Nat.le_trans (exChk hk).1 (by decide)) Any2 a cap W h).mono ?_
  rintro e w' ⟨a', c', rfl, h', k'⟩
  exact ⟨a', c', rfl, h'.mono (fun _ _ _ => trivial), k'⟩
theorem exCompile {k : Int} (hk : k = 1 ∨ k = 2) (a : Option Addr) (cap : Nat) (W : World) (h : Holds cR W Any2 (.slice a 2 cap) (exL k)) :
    Calls Try.prog 15 #[.slice a 2 cap] W fun e w' => ∃ a' cap', e = .returned (.slice a' 2 cap') ∧ SHolds w' Any2 (.slice a' 2 cap') (stL (exL k) []) ∧ Kept Nil W w' := by
  have := refCompile_of of_all (exL k) ⟨(exChk hk).1, (exChk hk).2.1⟩ Any2 a cap W h
  unfold StsEnd at this
  rw [stL_length] at this
  refine this.mono ?_
  rintro e w' ⟨a', c', rfl, h', k'⟩
  exact ⟨a', c', rfl, h'.mono (fun _ _ _ => trivial), k'⟩
theorem exSteps {k : Int} (hk : k = 1 ∨ k = 2) (a : Option Addr) (cap : Nat) (W : World) (h : SHolds W Any2 (.slice a 2 cap) (stL (exL k) [])) :
    Calls Try.prog 14 #[.slice a 2 cap] W fun e w' => ∃ a' cap', e = .returned (.slice a' 2 cap') ∧ SHolds w' Any2 (.slice a' 2 cap') (stL (exL k) []) ∧ Kept Nil W w' := by
  have := steps_any (stL (exL k) []) (by have := st_mass.2 (exL k) []; have := (exChk hk).1; omega) Any2 a cap W (by rw [stL_length]; exact h)
  unfold StsEnd at this
  rw [stL_length] at this
  refine this.mono ?_
  rintro e w' ⟨a', c', rfl, h', k'⟩
  exact ⟨a', c', rfl, h'.mono (fun _ _ _ => trivial), k'⟩
theorem exPart (hP : PartialOK) {k : Int} (hk : k = 1 ∨ k = 2) (fa : Option Addr) (a : Option Addr) (cap : Nat) (W : World) (hf : In cF 4 W fa 2 exF) (h : SHolds W Any2 (.slice a 2 cap) (stL (exL k) [])) :
    Calls Try.prog 13 #[.slice fa 2 2, .slice a 2 cap] W fun e w' => ∃ a' n' c', e = .returned (.slice a' n' c') ∧ LNew w' W.heap.size a' n' (smL exF (stL (exL k) []) []) ∧ Kept Nil W w' := by
  have hg : ∀ x ∈ exL k, x.good := fun x hx => chk_good x 1 (chkL_all.1 (exChk hk).2.1 x hx)
  have hs := st_good.2 (exL k) hg []
  have := hP exF (by decide) (by decide) (stL (exL k) []) (stL_okS (exChk hk).1 (exChk hk).2.1) (by rw [stL_length]; show 2 ≤ 16; decide) (Nat.le_trans (pow_le_of _ (Nat.le_trans hs.2 (exChk hk).2.2)) (by decide)) fa 2 2 a cap W hf (by rw [stL_length]; exact h)
  rw [stL_length] at this
  exact this
/-- What stands in memory in the examples. -/
structure AP (w W : World) (gF gC : Nat) (k : Int) : Prop where
  kept : Kept Nil w W
  bF : Blk W gF 62 #[.int .i64 1, .int .i64 1, .int .i64 9, .int .i64 2, .int .i64 2, .int .i64 2, .int .i64 9, .int .i64 3]
  bC : Blk W gC 72 #[.int .i64 1, .bool true, .int .i64 1, .bool false, .int .i64 9, .bool true, .int .i64 2, .slice none 0 0, .int .i64 k, .bool true, .int .i64 2, .bool false, .int .i64 9, .bool true, .int .i64 3, .slice none 0 0]
  far : gF ≠ gC
  new : w.heap.size ≤ gC
theorem AP.keptN {w W W' : World} {gF gC : Nat} {k : Int} (h : AP w W gF gC k) (kW : Kept Nil W W') : AP w W' gF gC k :=
  ⟨h.kept.trans kW (fun _ _ e => e), h.bF.kept kW (fun e => e), h.bC.kept kW (fun e => e), h.far, h.new⟩
theorem AP.set_ {w W : World} {gF gC : Nat} {k k' : Int} (h : AP w W gF gC k) : AP w (W.setCell ⟨gC, 8, none⟩ (.int .i64 k')) gF gC k' :=
  ⟨h.kept.setCell _ (.inr h.new) _, h.bF.far (by exact h.far) _, by have := h.bC.set_ 8 (.int .i64 k'); simpa using this, h.far, h.new⟩
abbrev allocAP (w : World) : World := (((((w.alloc (.cells #[.bool true, .int .i64 1] 69)).alloc (.cells #[.bool true, .int .i64 2] 69)).alloc (.cells #[.bool true, .int .i64 3] 69)).alloc (.cells #[.bool false, .int .i64 9] 69)).alloc
  (.cells #[.int .i64 1, .int .i64 1, .int .i64 9, .int .i64 2, .int .i64 2, .int .i64 2, .int .i64 9, .int .i64 3] 62)).alloc
  (.cells #[.int .i64 1, .bool true, .int .i64 1, .bool false, .int .i64 9, .bool true, .int .i64 2, .slice none 0 0, .int .i64 1, .bool true, .int .i64 2, .bool false, .int .i64 9, .bool true, .int .i64 3, .slice none 0 0] 72)
theorem AP.start (w : World) : AP w (allocAP w) (w.heap.size + 1 + 1 + 1 + 1) (w.heap.size + 1 + 1 + 1 + 1 + 1) 1 :=
  ⟨((((((Kept.refl Nil w).alloc _).alloc _).alloc _).alloc _).alloc _).alloc _, (blk_at (by simp)).alloc _, blk_at (by simp), by omega, by omega⟩
/-- One match, as a literal: a row of one row. -/
theorem lit2 {w : World} {b g : Nat} {T T' : TypeId} {x y : Int} (h : Blk w b T #[.int .i64 x, .int .i64 y]) (h' : Blk w g T' #[.slice (some ⟨b, 0, none⟩) 2 2]) : LIn w (some ⟨g, 0, none⟩) 1 [[x, y]] := by
  refine ⟨rfl, .inr ⟨g, 0, rfl, h'.lt, fun j l hj => ?_⟩⟩
  obtain rfl : j = 0 := by have := (List.getElem?_eq_some_iff.1 hj).1; simp at this; omega
  obtain rfl : [x, y] = l := by simpa using hj
  refine ⟨_, 2, 2, by rw [h'.cell]; rfl, rfl, .inr ⟨b, 0, rfl, h.lt, fun j x' i v hj hi => ?_⟩⟩
  rw [h.cell]
  match j, hj with
  | 0, hj | 1, hj =>
    obtain rfl := Option.some.inj hj
    match i, hi with
    | 0, hi => exact hi
    | i + 1, hi => exact absurd (List.getElem?_eq_some_iff.1 hi).1 (by show ¬ i + 1 < 1; omega)
  | j + 2, hj => exact absurd (List.getElem?_eq_some_iff.1 hj).1 (by show ¬ j + 2 < 2; omega)
theorem lit1 {w : World} {b g : Nat} {T T' : TypeId} {x : Int} (h : Blk w b T #[.int .i64 x]) (h' : Blk w g T' #[.slice (some ⟨b, 0, none⟩) 1 1]) : LIn w (some ⟨g, 0, none⟩) 1 [[x]] := by
  refine ⟨rfl, .inr ⟨g, 0, rfl, h'.lt, fun j l hj => ?_⟩⟩
  obtain rfl : j = 0 := by have := (List.getElem?_eq_some_iff.1 hj).1; simp at this; omega
  obtain rfl : [x] = l := by simpa using hj
  refine ⟨_, 1, 1, by rw [h'.cell]; rfl, rfl, .inr ⟨b, 0, rfl, h.lt, fun j x' i v hj hi => ?_⟩⟩
  rw [h.cell]
  match j, hj with
  | 0, hj =>
    obtain rfl := Option.some.inj hj
    match i, hi with
    | 0, hi => exact hi
    | i + 1, hi => exact absurd (List.getElem?_eq_some_iff.1 hi).1 (by show ¬ i + 1 < 1; omega)
  | j + 1, hj => exact absurd (List.getElem?_eq_some_iff.1 hj).1 (by show ¬ j + 1 < 1; omega)
set_option maxHeartbeats 8000000 in
theorem awakeP_of (hP : PartialOK) : AwakeOK := by
  intro w
  have HP := Lib.hid hP
  have hA := AP.start w
  clear hP
  go_enter Try.func10, Try.ntmps10
  go_wp2_with fail
  unfold allocAP at hA
  generalize (((((w.alloc (.cells #[.bool true, .int .i64 1] 69)).alloc (.cells #[.bool true, .int .i64 2] 69)).alloc (.cells #[.bool true, .int .i64 3] 69)).alloc (.cells #[.bool false, .int .i64 9] 69)).alloc (.cells #[.int .i64 1, .int .i64 1, .int .i64 9, .int .i64 2, .int .i64 2, .int .i64 2, .int .i64 9, .int .i64 3] 62)).alloc (.cells #[.int .i64 1, .bool true, .int .i64 1, .bool false, .int .i64 9, .bool true, .int .i64 2, .slice none 0 0, .int .i64 1, .bool true, .int .i64 2, .bool false, .int .i64 9, .bool true, .int .i64 3, .slice none 0 0] 72) = W at *
  generalize w.heap.size + 1 + 1 + 1 + 1 + 1 = gC at *
  generalize w.heap.size + 1 + 1 + 1 + 1 = gF at *
  generalize w.heap.size + 1 + 1 + 1 = g3 at *
  generalize w.heap.size + 1 + 1 = g2 at *
  generalize w.heap.size + 1 = g1 at *
  have HA := Lib.hid hA
  clear hA
  refine (exRef (.inl rfl) _ 2 _ (exHolds HA.out.bC)).mono ?_
  rintro e w1 ⟨a1, c1, rfl, h1, k1⟩
  have HA1 := Lib.hid (HA.out.keptN k1)
  have H1 := Lib.hid h1
  clear k1 h1 HA
  go_wp2_with fail
  refine (exCompile (.inl rfl) _ _ _ H1.out).mono ?_
  rintro e w2 ⟨a2, c2, rfl, h2, k2⟩
  have HA2 := Lib.hid (HA1.out.keptN k2)
  have H2 := Lib.hid h2
  clear k2 h2 HA1 H1
  go_wp2_with fail
  refine (exSteps (.inl rfl) _ _ _ H2.out).mono ?_
  rintro e w3 ⟨a3, c3, rfl, h3, k3⟩
  have HA3 := Lib.hid (HA2.out.keptN k3)
  have H3 := Lib.hid h3
  clear k3 h3 HA2 H2
  go_wp2_with fail
  refine (exPart HP.out (.inl rfl) _ _ _ _ (exIn HA3.out.bF) H3.out).mono ?_
  rintro e w4 ⟨a4, n4, c4, rfl, h4, k4⟩
  have hA4 := HA3.out.keptN k4
  have hfar := HA3.out.bC.lt
  have hfr := hA4.bC.frozen 8
  have hcl := hA4.bC.cell 8
  have hlt := hA4.bC.lt
  have HA4 := Lib.hid hA4
  rw [ex1] at h4
  have H4 := Lib.hid (h4.keptF ((Kept.refl (fun b => b = gC) w4).setCell ⟨gC, 8, none⟩ (.inl rfl) (.int .i64 2)) (fun b hb e => by subst e; omega))
  have HA5 := Lib.hid (HA4.out.set_ (k' := 2))
  clear k4 h4 HA3 H3 hfar hA4
  go_wp2_with fail
  clear hfr hcl hlt
  have H4 := Lib.hid H4.out.toLIn
  generalize w4.setCell ⟨gC, 8, none⟩ (.int .i64 2) = v0 at *
  refine (exRef (.inr rfl) _ 2 _ (exHolds HA5.out.bC)).mono ?_
  rintro e v1 ⟨a5, c5, rfl, h5, k5⟩
  have HA6 := Lib.hid (HA5.out.keptN k5)
  have L5 := Lib.hid (H4.out.kept k5)
  have H5 := Lib.hid h5
  clear k5 h5 HA5 H4
  go_wp2_with fail
  refine (exCompile (.inr rfl) _ _ _ H5.out).mono ?_
  rintro e v2 ⟨a6, c6, rfl, h6, k6⟩
  have HA7 := Lib.hid (HA6.out.keptN k6)
  have L6 := Lib.hid (L5.out.kept k6)
  have H6 := Lib.hid h6
  clear k6 h6 HA6 H5 L5
  go_wp2_with fail
  refine (exSteps (.inr rfl) _ _ _ H6.out).mono ?_
  rintro e v3 ⟨a7, c7, rfl, h7, k7⟩
  have HA8 := Lib.hid (HA7.out.keptN k7)
  have L7 := Lib.hid (L6.out.kept k7)
  have H7 := Lib.hid h7
  clear k7 h7 HA7 H6 L6
  go_wp2_with fail
  refine (exPart HP.out (.inr rfl) _ _ _ _ (exIn HA8.out.bF) H7.out).mono ?_
  rintro e v4 ⟨a8, n8, c8, rfl, h8, k8⟩
  have HA9 := Lib.hid (HA8.out.keptN k8)
  have L8 := Lib.hid (L7.out.kept k8)
  rw [ex2] at h8
  have M8 := Lib.hid h8.toLIn
  clear k8 h8 HA8 H7 L7 HP
  have hn4 := L8.out.1
  have hn8 := M8.out.1
  simp only [List.length_cons, List.length_nil, Nat.zero_add] at hn4 hn8
  subst hn4 hn8
  have KA := Lib.hid (((Kept.refl Nil v4).alloc (.cells #[.int .i64 1, .int .i64 2] 3)).alloc (.cells #[.slice (some ⟨v4.heap.size, 0, none⟩) 2 2] 49))
  have LA := Lib.hid (lit2 (x := 1) (y := 2) ((Blk.new v4 3 #[.int .i64 1, .int .i64 2]).alloc (.cells #[.slice (some ⟨v4.heap.size, 0, none⟩) 2 2] 49)) (blk_at (X := v4.heap.size + 1) (by simp)))
  go_wp2_with fail
  have L9 := Lib.hid (L8.out.kept KA.out)
  have M9 := Lib.hid (M8.out.kept KA.out)
  have KB := Lib.hid (HA9.out.kept.trans KA.out (fun _ _ g => g))
  clear KA L8 M8 HA9
  generalize (v4.alloc (.cells #[.int .i64 1, .int .i64 2] 3)).alloc (.cells #[.slice (some ⟨v4.heap.size, 0, none⟩) 2 2] 49) = u0 at *
  have CS := Lib.hid (same_any (c := c4) (c' := 1) L9.out LA.out (by decide) (by decide) (by decide) (by decide))
  rw [decide_eq_true rfl] at CS
  clear L9 LA
  refine CS.out.mono ?_
  rintro e u1 ⟨rfl, k9⟩
  have M10 := Lib.hid (M9.out.kept k9)
  have KC := Lib.hid (KB.out.trans k9 (fun _ _ g => g))
  clear k9 M9 KB CS
  have KA := Lib.hid (((Kept.refl Nil u1).alloc (.cells #[.int .i64 2] 3)).alloc (.cells #[.slice (some ⟨u1.heap.size, 0, none⟩) 1 1] 49))
  have LA := Lib.hid (lit1 (x := 2) ((Blk.new u1 3 #[.int .i64 2]).alloc (.cells #[.slice (some ⟨u1.heap.size, 0, none⟩) 1 1] 49)) (blk_at (X := u1.heap.size + 1) (by simp)))
  go_wp2_with fail
  have CS := Lib.hid (same_any (c := c8) (c' := 1) (M10.out.kept KA.out) LA.out (by decide) (by decide) (by decide) (by decide))
  rw [decide_eq_true rfl] at CS
  refine CS.out.mono ?_
  rintro e u2 ⟨rfl, k10⟩
  go_wp2_with fail
  go_ret
  exact ⟨rfl, (KC.out.trans KA.out (fun _ _ g => g)).trans k10 (fun _ _ g => g)⟩
end
section
open Go.RowKit
set_option maxRecDepth 100000

theorem PaI.lnew {B q : Nat} {D : List (List F4)} {F : Nat → Prop} {w : World} (h : PaI B q D F w) : ∃ ra rc, Blk w q 35 #[.slice ra D.length rc] ∧ LNew w B ra D.length (D.map fun ch => ch.map Prod.fst) := by
  obtain ⟨ra, rc, ps, h⟩ := h
  refine ⟨ra, rc, h.bq, by rw [List.length_map], ?_⟩
  have hI := h.row.toIn cM1_len (by decide)
  rcases h.row.2 with ⟨e1, e2⟩ | ⟨g, cap, cur, e1, hb, hg, _⟩
  · left
    rw [h.len] at e2; exact e2
  · right
    have ea : ra = some ⟨g, 0, none⟩ := by injection e1
    subst ea
    refine ⟨g, 0, rfl, hb, (h.row.lt g rfl).2, fun j l hj => ?_⟩
    rw [← h.eq, List.getElem?_map] at hj
    obtain ⟨p, hp, rfl⟩ := Option.map_eq_some_iff.1 hj
    obtain ⟨b, off, e, _, hc⟩ := hI.at_ hp
    cases e
    have hids := h.ids p (List.mem_of_getElem? hp)
    obtain ⟨a', c', e'⟩ := hids.shape
    have h0 := hc 0 p.1 rfl
    rw [e'] at h0 hids
    refine ⟨a', _, c', ?_, hids.toIn cN_len (by decide), fun b' hb' => (hids.lt b' hb').1⟩
    rw [Nat.mul_one] at h0
    exact h0
set_option maxHeartbeats 4000000 in
theorem partialOK : PartialOK := by
  intro fs hfs h12 l hok hl16 hcost fa fn fc a cap w hF hH
  obtain ⟨len, hl⟩ : ∃ len, l.length = len := ⟨_, rfl⟩
  rw [hl] at hH ⊢
  have hg : ∀ x ∈ l, x.goodS := fun x hx => (hok x hx).1
  have hkd : ∀ x ∈ l, kindS x := fun x hx => (hg x hx).kind
  have hfn : fn ≤ 12 := by rw [← hF.1]; exact h12
  have CRt := Lib.hid (rightP_any l hok a len cap hl (by omega) w hH)
  have hsm := matchE_sm (fs := fs) hkd
  have hMl : (matchE fs l).length ≤ 3000 := by
    have h1 := (sm_len fs).2 l []
    rw [← hsm, List.length_map] at h1
    exact Nat.le_trans h1 hcost
  have hch : ∀ ch ∈ matchE fs l, ch.length ≤ 5000 := fun ch hc => by
    have h1 := sm_ids fs
    have h2 := h1.2 l [] (ch.map Prod.fst) (by rw [← hsm]; exact List.mem_map_of_mem hc)
    rw [List.length_map] at h2
    simp at h2
    omega
  have hcn : cntL l ≤ 1000 := by have := cntL_okS hok; omega
  have CM : Hid (∀ w1, Kept Nil w w1 → Calls Try.prog 32 #[.slice fa fn fc, .slice a len cap, .func (.func 33) #[] #[.pointer (some ⟨w1.heap.size, 0, none⟩)]] (w1.alloc (.cells #[.slice none 0 0] 35)) fun e w' => e = .returned (.tuple #[]) ∧ ∃ F', PaI w.heap.size w1.heap.size (matchE fs l) F' w' ∧ (∀ b, F' b → b = w1.heap.size ∨ (w1.alloc (.cells #[.slice none 0 0] 35)).heap.size ≤ b) ∧ Kept (fun b => b = w1.heap.size) (w1.alloc (.cells #[.slice none 0 0] 35)) w') := Lib.hid fun w1 k1 => by
    have kA : Kept Nil w1 (w1.alloc (.cells #[.slice none 0 0] 35)) := (Kept.refl Nil w1).alloc _
    refine match_any (W0 := w) (fs := fs) (l := l) (I := PaI w.heap.size w1.heap.size) (F0 := fun b => b = w1.heap.size) _ (k1.trans kA (fun _ _ e => e)) hl hg hF hH (by omega) hcn ⟨enter_of (by rfl) (by decide) (by kernel_rfl), fun D F v hI b hb => hI.lt b hb, fun D F v v' G hI kG hG => hI.kept kG (fun b hb => (hG b hb).2), fun D ch F v s ia ni ic ba nb bc hI hE kv hBv hi hb => ?_⟩ ⟨none, 0, [], Blk.new w1 _ _, Row.nil _ _, fun p hp => (by cases hp), rfl, fun b => ⟨fun e => .inl e, fun e => ?_⟩, k1.size⟩
    · obtain ⟨r, hr⟩ := hE
      have hD : D.length ≤ 5000 := by
        have := congrArg List.length hr
        rw [List.length_append] at this
        omega
      have := partClo_any v hI hD ch (hch ch (by rw [hr]; simp)) s _ ia ni ic (.slice ba nb bc) hi
      exact this
    · rcases e with e | e | ⟨p, hp, _⟩
      · exact e
      · cases e
      · cases hp
  have HS := Lib.hid hsm
  clear hF hH hok hg hkd hMl hch hsm hcost hfs h12
  go_enter Try.func13, Try.ntmps13
  go_wp2_with fail
  refine CRt.out.mono ?_
  rintro e w1 ⟨rfl, k1⟩
  have K1 := Lib.hid k1
  have CM1 := Lib.hid (CM.out w1 k1)
  clear k1 CM CRt
  go_wp2_with fail
  refine CM1.out.mono ?_
  rintro e w2 ⟨rfl, F', hP, hF', k2⟩
  obtain ⟨ra, rc, hb, hL⟩ := hP.lnew
  have c0 := hb.cell 0
  have hbw := hb.lt
  simp at c0
  have H2 := Lib.hid (And.intro hL k2)
  clear hP hF' k2 hb hL CM1
  go_wp2_with fail
  go_ret
  refine ⟨ra, _, rc, rfl, ?_, (K1.out.trans ((Kept.refl Nil w1).alloc _) (fun _ _ e => e)).trans H2.out.2 (fun i hi e => ?_)⟩
  · rw [← HS.out]; exact H2.out.1
  · have := K1.out.size
    omega
theorem awakeOK : AwakeOK := awakeP_of partialOK
end
end Go.Proofs.Ytiihjlafhiaigaa
