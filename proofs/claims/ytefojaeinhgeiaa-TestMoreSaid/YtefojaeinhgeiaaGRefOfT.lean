/- Layer comp: the reference's Of, of a Pos or a Neg: the walk. -/
import Derived.Test.YtefojaeinhgeiaaGRefOf
namespace Go.Proofs.Ytefojaeinhgeiaa
open Go.RowKit
set_option maxRecDepth 100000

theorem eqTmR2 (x y : Int) (n m : Int) (w : World) : (Op.equalIn 10000 42 (.agg #[.int .i64 x, .int .i64 n]) (.agg #[.int .i64 y, .int .i64 m])).run Try.prog w = .ok (decide (x = y ∧ n = m)) w := by
  have e : ∀ x y : Int, (Op.equalIn 9999 3 (.int .i64 x) (.int .i64 y)).run Try.prog w = .ok (x == y) w := fun x y => run_equalIn_int w 9998 3 .i64 .i64 x y Try.underlying3
  rw [run_equalIn_struct w 9999 _ _ _ (by kernel_rfl) (by kernel_rfl)]
  simp only [Program.fieldsOf, Try.underlying42]
  by_cases h : x = y
  · subst h
    by_cases hn : n = m <;> simp [Op.eqFields, part, isAgg, run_underlying Try.underlying3, e, hn]
  · simp [Op.eqFields, part, isAgg, run_underlying Try.underlying3, e, h]
theorem eqlTmR (x y n m : Int) (b : Bool) (hb : decide (x = y ∧ n = m) = b) (w : World) : (binOp .eql 42 (.agg #[.int .i64 x, .int .i64 n]) (.agg #[.int .i64 y, .int .i64 m])).run Try.prog w = .ok (.bool b) w := by
  rw [run_eql_struct, eqTmR2, hb]; rfl
theorem isV_one {x : Bool} : isV x = 1 ↔ x = true := by cases x <;> simp [isV]
set_option maxHeartbeats 16000000 in
theorem ofTerms_any (k : Int) (hk3 : k ≠ 3) (x0 x1 x2 : Bool) (n0 n1 n2 : Int) (chl : List Sh) (hc : chl.length ≤ 100) (ok1 : Nat → Nat → Prop) (ac : Option Addr) (cc : Nat) (v : Value) (hv : ∃ a n c, v = .slice a n c) (w : World) (h1 : Holds cR w ok1 (.slice ac chl.length cc) chl) :
    Calls Try.prog 16 #[.slice ac chl.length cc, vR ⟨k, x0, x1, x2, n0, n1, n2⟩ v] w (StEnd ⟨k, kF x0 n0, kF x1 n1, kF x2 n2, tstL chl ⟨k, x0, x1, x2, n0, n1, n2⟩⟩ [] w) := by
  obtain ⟨va, vn, vc, rfl⟩ := hv
  have CB : Hid (∀ u W, Kept Nil w W → Calls Try.prog 27 #[.slice ac chl.length cc, .int .i64 u] W fun e w' => e = .returned (.tuple #[plV u (fpL chl u 0), .bool (fpL chl u 0).isSome]) ∧ Kept Nil W w') := Lib.hid fun u W kW => refBound_any chl hc u ok1 ac cc W (h1.keptN kW)
  have hkb : (k == 3) = false := by simpa using hk3
  clear h1 hc
  generalize chl.length = n1' at CB ⊢
  obtain ⟨T0, hT0⟩ : ∃ T, T = tst0 chl ⟨k, x0, x1, x2, n0, n1, n2⟩ := ⟨_, rfl⟩
  obtain ⟨T1, hT1⟩ : ∃ T, T = tst1 chl ⟨k, x0, x1, x2, n0, n1, n2⟩ := ⟨_, rfl⟩
  obtain ⟨T2, hT2⟩ : ∃ T, T = tst2 chl ⟨k, x0, x1, x2, n0, n1, n2⟩ := ⟨_, rfl⟩
  have HTL : Hid (tstL chl ⟨k, x0, x1, x2, n0, n1, n2⟩ = T0 ++ T1 ++ T2) := Lib.hid (by rw [hT0, hT1, hT2]; rfl)
  have HL0 : Hid (T0.length ≤ 1) := Lib.hid (by rw [hT0]; exact (tst_len chl ⟨k, x0, x1, x2, n0, n1, n2⟩).1)
  have HL1 : Hid (T1.length ≤ 1) := Lib.hid (by rw [hT1]; exact (tst_len chl ⟨k, x0, x1, x2, n0, n1, n2⟩).2.1)
  have HT0 := Lib.hid hT0
  have HT1 := Lib.hid hT1
  have HT2 := Lib.hid hT2
  clear hT0 hT1 hT2
  have R0 : Hid (OfR w (arrR ⟨k, x0, x1, x2, n0, n1, n2⟩ (.slice va vn vc)) k 0 0 0 (.slice none 0 0) [] (((w.alloc (.cells (arrR ⟨k, x0, x1, x2, n0, n1, n2⟩ (.slice va vn vc)) 45)).alloc (.cells zS 57)).alloc (.cells (arrS ⟨k, 0, 0, 0, []⟩ (.slice none 0 0) (.slice none 0 0)) 57))) := Lib.hid ⟨(Two2.start w 45 (arrR ⟨k, x0, x1, x2, n0, n1, n2⟩ (.slice va vn vc)) 57 zS).alloc _, by
    have := Blk.new ((w.alloc (.cells (arrR ⟨k, x0, x1, x2, n0, n1, n2⟩ (.slice va vn vc)) 45)).alloc (.cells zS 57)) 57 (arrS ⟨k, 0, 0, 0, []⟩ (.slice none 0 0) (.slice none 0 0))
    simpa using this, GB.nil _⟩
  obtain ⟨K0, hK0⟩ : ∃ K, K = kF x0 n0 := ⟨_, rfl⟩
  obtain ⟨K1, hK1⟩ : ∃ K, K = kF x1 n1 := ⟨_, rfl⟩
  obtain ⟨K2, hK2⟩ : ∃ K, K = kF x2 n2 := ⟨_, rfl⟩
  have HK0 := Lib.hid hK0
  have HK1 := Lib.hid hK1
  have HK2 := Lib.hid hK2
  rw [← hK0, ← hK1, ← hK2]
  clear hK0 hK1 hK2
  go_enter Try.func16, Try.ntmps16
  go_wp2_with fail
  go_loopw [9] (fun i wr => (i = .int .i64 0 ∧ ∃ u, OfR w (arrR ⟨k, x0, x1, x2, n0, n1, n2⟩ (.slice va vn vc)) k 0 0 0 u [] wr) ∨ (i = .int .i64 1 ∧ ∃ u, OfR w (arrR ⟨k, x0, x1, x2, n0, n1, n2⟩ (.slice va vn vc)) k K0 0 0 u T0 wr) ∨ (i = .int .i64 2 ∧ ∃ u, OfR w (arrR ⟨k, x0, x1, x2, n0, n1, n2⟩ (.slice va vn vc)) k K0 K1 0 u (T0 ++ T1) wr) ∨ (i = .int .i64 3 ∧ ∃ u, OfR w (arrR ⟨k, x0, x1, x2, n0, n1, n2⟩ (.slice va vn vc)) k K0 K1 K2 u (T0 ++ T1 ++ T2) wr)) (fun i _ => (3 - intOf i).toNat)
  case atStart => exact .inl ⟨rfl, _, R0.out⟩
  case round =>
    rename World => wo
    rcases hrel with ⟨rfl, u, h⟩ | ⟨rfl, u, h⟩ | ⟨rfl, u, h⟩ | ⟨rfl, u, h⟩
    · have HO := Lib.hid h
      have e1 := h.t.b0.cell 1
      have e2 := h.t.b0.cell 2
      have y1 := h.b.cell 1
      have fy := h.b.frozen 1
      have hX : w.heap.size + 1 + 1 < wo.heap.size := h.b.lt
      have hX0 : w.heap.size < wo.heap.size := by omega
      simp [isV] at e1 e2 y1
      clear h R0
      cases x0
      · have EK : Hid (K0 = n0) := Lib.hid (by rw [HK0.out]; rfl)
        have ET : Hid (T0 = []) := Lib.hid (by rw [HT0.out]; rfl)
        simp at e1
        go_wp2_with fail
        go_roundw
        case rel => exact .inr (.inl ⟨rfl, _, by rw [EK.out, ET.out]; exact HO.out.key0 n0⟩)
        case measure => decide
      · have EK : Hid (K0 = 0) := Lib.hid (by rw [HK0.out]; rfl)
        simp at e1
        have CB2 := Lib.hid (CB.out n0 wo HO.out.t.kept)
        obtain ⟨ua, un, uc, rfl⟩ : ∃ a n c, u = .slice a n c := by obtain ⟨x, y, e, _⟩ := HO.out.g.shape; exact ⟨x, _, y, e⟩
        cases hfp : fpL chl n0 0 with
        | some q =>
          obtain ⟨bk, g⟩ := q
          rw [hfp] at CB2
          have ET : Hid (T0 = [(0, (bk : Int), g)]) := Lib.hid (by rw [HT0.out]; simp [tst0, hfp])
          replace CB2 : Hid (Calls Try.prog 27 #[.slice ac n1' cc, .int .i64 n0] wo fun e w' => e = .returned (.tuple #[.agg #[.int .i64 n0, .int .i64 (bk : Int), .int .i64 g], .bool true]) ∧ Kept Nil wo w') := CB2
          clear hfp
          go_wp2_with fail
          refine CB2.out.mono ?_
          rintro e w2 ⟨rfl, k2⟩
          have H3 := HO.out.step (k2.alloc (.cells #[.int .i64 n0, .int .i64 (bk : Int), .int .i64 g] 81))
          obtain ⟨a3, n3, c3, w3, r3, y4, f4, hX3, R3⟩ := H3.test (by have := HL0.out; have := HL1.out; simp <;> omega) (0, (bk : Int), g)
          have x4 := H3.b.cell 4
          simp at x4
          have hX2 := H3.b.lt
          have hs2 : (w2.alloc (.cells #[.int .i64 n0, .int .i64 (bk : Int), .int .i64 g] 81)).heap.size = w2.heap.size + 1 := by simp
          rw [hs2] at r3 hX2
          clear hs2
          have RR := Lib.hid r3
          have RF := Lib.hid R3
          clear r3 R3 H3 k2 HO e1 e2 y1 fy
          go_wp2_with (at_builtin; refine wpList_append_run rfl (.tmp 76) (.tmp 83) 55 rfl _ _ rfl rfl RR.out ?_)
          go_roundw
          case rel => exact .inr (.inl ⟨rfl, _, by rw [EK.out, ET.out]; exact RF.out⟩)
          case measure => decide
        | none =>
          rw [hfp] at CB2
          have ET : Hid (T0 = []) := Lib.hid (by rw [HT0.out]; simp [tst0, hfp])
          replace CB2 : Hid (Calls Try.prog 27 #[.slice ac n1' cc, .int .i64 n0] wo fun e w' => e = .returned (.tuple #[.agg #[.int .i64 0, .int .i64 0, .int .i64 0], .bool false]) ∧ Kept Nil wo w') := CB2
          clear hfp
          go_wp2_with fail
          refine CB2.out.mono ?_
          rintro e w2 ⟨rfl, k2⟩
          have H3 := Lib.hid (HO.out.step (k2.alloc (.cells #[.int .i64 0, .int .i64 0, .int .i64 0] 81)))
          clear k2 HO e1 e2 y1 fy
          go_wp2_with fail
          go_loopw [12] (fun i wr => i = .int .i64 0 ∧ OfR w (arrR ⟨k, true, x1, x2, n0, n1, n2⟩ (.slice va vn vc)) k 0 0 0 (.slice ua un uc) [] wr) (fun _ _ => 0)
          case atStart => exact ⟨rfl, H3.out⟩
          case round =>
            obtain ⟨rfl, h⟩ := hrel
            have H4 := Lib.hid h
            clear h H3
            go_wp2_with fail
            go_roundw
            case rel => exact .inr (.inl ⟨rfl, _, by rw [EK.out, ET.out]; exact H4.out⟩)
            case measure => decide
    · have HO := Lib.hid h
      have e1 := h.t.b0.cell 3
      have e2 := h.t.b0.cell 4
      have y1 := h.b.cell 2
      have fy := h.b.frozen 2
      have hX : w.heap.size + 1 + 1 < wo.heap.size := h.b.lt
      have hX0 : w.heap.size < wo.heap.size := by omega
      simp [isV] at e1 e2 y1
      clear h R0
      cases x1
      · have EK : Hid (K1 = n1) := Lib.hid (by rw [HK1.out]; rfl)
        have ET : Hid (T1 = []) := Lib.hid (by rw [HT1.out]; rfl)
        simp at e1
        go_wp2_with fail
        go_roundw
        case rel => exact .inr (.inr (.inl ⟨rfl, _, by rw [EK.out, ET.out, List.append_nil]; exact HO.out.key1 n1⟩))
        case measure => decide
      · have EK : Hid (K1 = 0) := Lib.hid (by rw [HK1.out]; rfl)
        simp at e1
        have CB2 := Lib.hid (CB.out n1 wo HO.out.t.kept)
        obtain ⟨ua, un, uc, rfl⟩ : ∃ a n c, u = .slice a n c := by obtain ⟨x, y, e, _⟩ := HO.out.g.shape; exact ⟨x, _, y, e⟩
        cases hfp : fpL chl n1 0 with
        | some q =>
          obtain ⟨bk, g⟩ := q
          rw [hfp] at CB2
          have ET : Hid (T1 = [(1, (bk : Int), g)]) := Lib.hid (by rw [HT1.out]; simp [tst1, hfp])
          replace CB2 : Hid (Calls Try.prog 27 #[.slice ac n1' cc, .int .i64 n1] wo fun e w' => e = .returned (.tuple #[.agg #[.int .i64 n1, .int .i64 (bk : Int), .int .i64 g], .bool true]) ∧ Kept Nil wo w') := CB2
          clear hfp
          go_wp2_with fail
          refine CB2.out.mono ?_
          rintro e w2 ⟨rfl, k2⟩
          have H3 := HO.out.step (k2.alloc (.cells #[.int .i64 n1, .int .i64 (bk : Int), .int .i64 g] 81))
          obtain ⟨a3, n3, c3, w3, r3, y4, f4, hX3, R3⟩ := H3.test (by have := HL0.out; have := HL1.out; simp <;> omega) (1, (bk : Int), g)
          have x4 := H3.b.cell 4
          simp at x4
          have hX2 := H3.b.lt
          have hs2 : (w2.alloc (.cells #[.int .i64 n1, .int .i64 (bk : Int), .int .i64 g] 81)).heap.size = w2.heap.size + 1 := by simp
          rw [hs2] at r3 hX2
          clear hs2
          have RR := Lib.hid r3
          have RF := Lib.hid R3
          clear r3 R3 H3 k2 HO e1 e2 y1 fy
          go_wp2_with (at_builtin; refine wpList_append_run rfl (.tmp 76) (.tmp 83) 55 rfl _ _ rfl rfl RR.out ?_)
          go_roundw
          case rel => exact .inr (.inr (.inl ⟨rfl, _, by rw [EK.out, ET.out]; exact RF.out⟩))
          case measure => decide
        | none =>
          rw [hfp] at CB2
          have HTN : Hid (T1 = if x0 = true ∧ n1 = n0 then [(1, -1, 0)] else []) := Lib.hid (by rw [HT1.out]; simp [tst1, hfp])
          replace CB2 : Hid (Calls Try.prog 27 #[.slice ac n1' cc, .int .i64 n1] wo fun e w' => e = .returned (.tuple #[.agg #[.int .i64 0, .int .i64 0, .int .i64 0], .bool false]) ∧ Kept Nil wo w') := CB2
          clear hfp
          obtain ⟨z0, hz0⟩ : ∃ z, isV x0 = z := ⟨_, rfl⟩
          obtain ⟨q0, hq0⟩ : ∃ q, decide (z0 = 1 ∧ n0 = n1) = q := ⟨_, rfl⟩
          have EQ0 := Lib.hid (fun W => eqlTmR z0 1 n0 n1 q0 hq0 W)
          have DQ0 : Hid (q0 = decide (x0 = true ∧ n1 = n0)) := Lib.hid (by rw [← hq0, ← hz0]; exact decide_eq_decide.2 ⟨fun ⟨a, c⟩ => ⟨isV_one.1 a, c.symm⟩, fun ⟨a, c⟩ => ⟨isV_one.2 a, c.symm⟩⟩)
          have HZ0 := Lib.hid hz0
          clear hq0 hz0
          go_wp2_with fail
          refine CB2.out.mono ?_
          rintro e w2 ⟨rfl, k2⟩
          have H3 := Lib.hid (HO.out.step (k2.alloc (.cells #[.int .i64 0, .int .i64 0, .int .i64 0] 81)))
          clear k2 HO e1 e2 y1 fy
          go_wp2_with fail
          cases q0
          · have D0 : Hid (¬ (x0 = true ∧ n1 = n0)) := Lib.hid (by simpa using DQ0.out)
            have ET : Hid (T1 = []) := Lib.hid (by rw [HTN.out]; rw [if_neg D0.out])
            go_loopw [12] (fun i wr => (i = .int .i64 0 ∨ i = .int .i64 1) ∧ OfR w (arrR ⟨k, x0, true, x2, n0, n1, n2⟩ (.slice va vn vc)) k K0 0 0 (.slice ua un uc) T0 wr) (fun i _ => (3 - intOf i).toNat)
            case atStart => exact ⟨.inl rfl, H3.out⟩
            case round =>
              obtain ⟨hi, h⟩ := hrel
              have H4 := Lib.hid h
              have ce1 := h.t.b0.cell 1
              have ce2 := h.t.b0.cell 2
              have ce3 := h.t.b0.cell 3
              have ce4 := h.t.b0.cell 4
              simp at ce1 ce2 ce3 ce4
              rw [HZ0.out] at ce1
              simp [isV] at ce3
              clear h H3
              rcases hi with rfl | rfl
              · have eq := EQ0.out
                go_wp2_with fail
                go_quiet (fail)
                go_wp2_with fail
                go_roundw
                case rel => exact ⟨.inr rfl, H4.out.step ((Kept.refl Nil _).drewN _)⟩
                case measure => decide
              · go_wp2_with fail
                go_roundw
                case rel => exact .inr (.inr (.inl ⟨rfl, _, by rw [EK.out, ET.out, List.append_nil]; exact H4.out⟩))
                case measure => decide
          · have D0 : Hid (x0 = true ∧ n1 = n0) := Lib.hid (by simpa using DQ0.out)
            have ET : Hid (T1 = [(1, -1, 0)]) := Lib.hid (by rw [HTN.out]; rw [if_pos D0.out])
            go_loopw [12] (fun i wr => (i = .int .i64 0) ∧ OfR w (arrR ⟨k, x0, true, x2, n0, n1, n2⟩ (.slice va vn vc)) k K0 0 0 (.slice ua un uc) T0 wr) (fun i _ => (3 - intOf i).toNat)
            case atStart => exact ⟨rfl, H3.out⟩
            case round =>
              obtain ⟨hi, h⟩ := hrel
              have H4 := Lib.hid h
              have ce1 := h.t.b0.cell 1
              have ce2 := h.t.b0.cell 2
              have ce3 := h.t.b0.cell 3
              have ce4 := h.t.b0.cell 4
              simp at ce1 ce2 ce3 ce4
              rw [HZ0.out] at ce1
              simp [isV] at ce3
              clear h H3
              subst hi
              · have eq := EQ0.out
                go_wp2_with fail
                go_quiet (fail)
                generalize hwd : World.drewN wr _ = wd
                have H5 := H4.out.step (show Kept Nil wr wd by rw [← hwd]; exact (Kept.refl Nil wr).drewN _)
                obtain ⟨a3, n3, c3, w3, r3, y4, f4, hX3, R3⟩ := H5.test (by have := HL0.out; have := HL1.out; simp <;> omega) (1, -1, 0)
                have x4 := H5.b.cell 4
                simp at x4
                have hX2 := H5.b.lt
                have RR := Lib.hid r3
                have RF := Lib.hid R3
                clear r3 R3 H5 H4 eq hwd ce1 ce2 ce3 ce4
                go_wp2_with (at_builtin; refine wpList_append_run rfl (.tmp 101) (.tmp 105) 55 rfl _ _ rfl rfl RR.out ?_)
                go_roundw
                case rel => exact .inr (.inr (.inl ⟨rfl, _, by rw [EK.out, ET.out]; exact RF.out⟩))
                case measure => decide
    · have HO := Lib.hid h
      have e1 := h.t.b0.cell 5
      have e2 := h.t.b0.cell 6
      have y1 := h.b.cell 3
      have fy := h.b.frozen 3
      have hX : w.heap.size + 1 + 1 < wo.heap.size := h.b.lt
      have hX0 : w.heap.size < wo.heap.size := by omega
      simp [isV] at e1 e2 y1
      clear h R0
      cases x2
      · have EK : Hid (K2 = n2) := Lib.hid (by rw [HK2.out]; rfl)
        have ET : Hid (T2 = []) := Lib.hid (by rw [HT2.out]; rfl)
        simp at e1
        go_wp2_with fail
        go_roundw
        case rel => exact .inr (.inr (.inr ⟨rfl, _, by rw [EK.out, ET.out, List.append_nil]; exact HO.out.key2 n2⟩))
        case measure => decide
      · have EK : Hid (K2 = 0) := Lib.hid (by rw [HK2.out]; rfl)
        simp at e1
        have CB2 := Lib.hid (CB.out n2 wo HO.out.t.kept)
        obtain ⟨ua, un, uc, rfl⟩ : ∃ a n c, u = .slice a n c := by obtain ⟨x, y, e, _⟩ := HO.out.g.shape; exact ⟨x, _, y, e⟩
        cases hfp : fpL chl n2 0 with
        | some q =>
          obtain ⟨bk, g⟩ := q
          rw [hfp] at CB2
          have ET : Hid (T2 = [(2, (bk : Int), g)]) := Lib.hid (by rw [HT2.out]; simp [tst2, hfp])
          replace CB2 : Hid (Calls Try.prog 27 #[.slice ac n1' cc, .int .i64 n2] wo fun e w' => e = .returned (.tuple #[.agg #[.int .i64 n2, .int .i64 (bk : Int), .int .i64 g], .bool true]) ∧ Kept Nil wo w') := CB2
          clear hfp
          go_wp2_with fail
          refine CB2.out.mono ?_
          rintro e w2 ⟨rfl, k2⟩
          have H3 := HO.out.step (k2.alloc (.cells #[.int .i64 n2, .int .i64 (bk : Int), .int .i64 g] 81))
          obtain ⟨a3, n3, c3, w3, r3, y4, f4, hX3, R3⟩ := H3.test (by have := HL0.out; have := HL1.out; simp <;> omega) (2, (bk : Int), g)
          have x4 := H3.b.cell 4
          simp at x4
          have hX2 := H3.b.lt
          have hs2 : (w2.alloc (.cells #[.int .i64 n2, .int .i64 (bk : Int), .int .i64 g] 81)).heap.size = w2.heap.size + 1 := by simp
          rw [hs2] at r3 hX2
          clear hs2
          have RR := Lib.hid r3
          have RF := Lib.hid R3
          clear r3 R3 H3 k2 HO e1 e2 y1 fy
          go_wp2_with (at_builtin; refine wpList_append_run rfl (.tmp 76) (.tmp 83) 55 rfl _ _ rfl rfl RR.out ?_)
          go_roundw
          case rel => exact .inr (.inr (.inr ⟨rfl, _, by rw [EK.out, ET.out]; exact RF.out⟩))
          case measure => decide
        | none =>
          rw [hfp] at CB2
          have HTN : Hid (T2 = if x0 = true ∧ n2 = n0 then [(2, -1, 0)] else if x1 = true ∧ n2 = n1 then [(2, -1, 1)] else []) := Lib.hid (by rw [HT2.out]; simp [tst2, hfp])
          replace CB2 : Hid (Calls Try.prog 27 #[.slice ac n1' cc, .int .i64 n2] wo fun e w' => e = .returned (.tuple #[.agg #[.int .i64 0, .int .i64 0, .int .i64 0], .bool false]) ∧ Kept Nil wo w') := CB2
          clear hfp
          obtain ⟨z0, hz0⟩ : ∃ z, isV x0 = z := ⟨_, rfl⟩
          obtain ⟨q0, hq0⟩ : ∃ q, decide (z0 = 1 ∧ n0 = n2) = q := ⟨_, rfl⟩
          have EQ0 := Lib.hid (fun W => eqlTmR z0 1 n0 n2 q0 hq0 W)
          have DQ0 : Hid (q0 = decide (x0 = true ∧ n2 = n0)) := Lib.hid (by rw [← hq0, ← hz0]; exact decide_eq_decide.2 ⟨fun ⟨a, c⟩ => ⟨isV_one.1 a, c.symm⟩, fun ⟨a, c⟩ => ⟨isV_one.2 a, c.symm⟩⟩)
          have HZ0 := Lib.hid hz0
          clear hq0 hz0
          obtain ⟨z1, hz1⟩ : ∃ z, isV x1 = z := ⟨_, rfl⟩
          obtain ⟨q1, hq1⟩ : ∃ q, decide (z1 = 1 ∧ n1 = n2) = q := ⟨_, rfl⟩
          have EQ1 := Lib.hid (fun W => eqlTmR z1 1 n1 n2 q1 hq1 W)
          have DQ1 : Hid (q1 = decide (x1 = true ∧ n2 = n1)) := Lib.hid (by rw [← hq1, ← hz1]; exact decide_eq_decide.2 ⟨fun ⟨a, c⟩ => ⟨isV_one.1 a, c.symm⟩, fun ⟨a, c⟩ => ⟨isV_one.2 a, c.symm⟩⟩)
          have HZ1 := Lib.hid hz1
          clear hq1 hz1
          go_wp2_with fail
          refine CB2.out.mono ?_
          rintro e w2 ⟨rfl, k2⟩
          have H3 := Lib.hid (HO.out.step (k2.alloc (.cells #[.int .i64 0, .int .i64 0, .int .i64 0] 81)))
          clear k2 HO e1 e2 y1 fy
          go_wp2_with fail
          cases q0
          · have D0 : Hid (¬ (x0 = true ∧ n2 = n0)) := Lib.hid (by simpa using DQ0.out)
            cases q1
            · have D1 : Hid (¬ (x1 = true ∧ n2 = n1)) := Lib.hid (by simpa using DQ1.out)
              have ET : Hid (T2 = []) := Lib.hid (by rw [HTN.out]; rw [if_neg D0.out]; rw [if_neg D1.out])
              go_loopw [12] (fun i wr => (i = .int .i64 0 ∨ i = .int .i64 1 ∨ i = .int .i64 2) ∧ OfR w (arrR ⟨k, x0, x1, true, n0, n1, n2⟩ (.slice va vn vc)) k K0 K1 0 (.slice ua un uc) (T0 ++ T1) wr) (fun i _ => (3 - intOf i).toNat)
              case atStart => exact ⟨.inl rfl, H3.out⟩
              case round =>
                obtain ⟨hi, h⟩ := hrel
                have H4 := Lib.hid h
                have ce1 := h.t.b0.cell 1
                have ce2 := h.t.b0.cell 2
                have ce3 := h.t.b0.cell 3
                have ce4 := h.t.b0.cell 4
                have ce5 := h.t.b0.cell 5
                have ce6 := h.t.b0.cell 6
                simp at ce1 ce2 ce3 ce4 ce5 ce6
                rw [HZ0.out] at ce1
                rw [HZ1.out] at ce3
                simp [isV] at ce5
                clear h H3
                rcases hi with rfl | rfl | rfl
                · have eq := EQ0.out
                  go_wp2_with fail
                  go_quiet (fail)
                  go_wp2_with fail
                  go_roundw
                  case rel => exact ⟨.inr (.inl rfl), H4.out.step ((Kept.refl Nil _).drewN _)⟩
                  case measure => decide
                · have eq := EQ1.out
                  go_wp2_with fail
                  go_quiet (fail)
                  go_wp2_with fail
                  go_roundw
                  case rel => exact ⟨.inr (.inr rfl), H4.out.step ((Kept.refl Nil _).drewN _)⟩
                  case measure => decide
                · go_wp2_with fail
                  go_roundw
                  case rel => exact .inr (.inr (.inr ⟨rfl, _, by rw [EK.out, ET.out, List.append_nil]; exact H4.out⟩))
                  case measure => decide
            · have D1 : Hid (x1 = true ∧ n2 = n1) := Lib.hid (by simpa using DQ1.out)
              have ET : Hid (T2 = [(2, -1, 1)]) := Lib.hid (by rw [HTN.out]; rw [if_neg D0.out]; rw [if_pos D1.out])
              go_loopw [12] (fun i wr => (i = .int .i64 0 ∨ i = .int .i64 1) ∧ OfR w (arrR ⟨k, x0, x1, true, n0, n1, n2⟩ (.slice va vn vc)) k K0 K1 0 (.slice ua un uc) (T0 ++ T1) wr) (fun i _ => (3 - intOf i).toNat)
              case atStart => exact ⟨.inl rfl, H3.out⟩
              case round =>
                obtain ⟨hi, h⟩ := hrel
                have H4 := Lib.hid h
                have ce1 := h.t.b0.cell 1
                have ce2 := h.t.b0.cell 2
                have ce3 := h.t.b0.cell 3
                have ce4 := h.t.b0.cell 4
                have ce5 := h.t.b0.cell 5
                have ce6 := h.t.b0.cell 6
                simp at ce1 ce2 ce3 ce4 ce5 ce6
                rw [HZ0.out] at ce1
                rw [HZ1.out] at ce3
                simp [isV] at ce5
                clear h H3
                rcases hi with rfl | rfl
                · have eq := EQ0.out
                  go_wp2_with fail
                  go_quiet (fail)
                  go_wp2_with fail
                  go_roundw
                  case rel => exact ⟨.inr rfl, H4.out.step ((Kept.refl Nil _).drewN _)⟩
                  case measure => decide
                · have eq := EQ1.out
                  go_wp2_with fail
                  go_quiet (fail)
                  generalize hwd : World.drewN wr _ = wd
                  have H5 := H4.out.step (show Kept Nil wr wd by rw [← hwd]; exact (Kept.refl Nil wr).drewN _)
                  obtain ⟨a3, n3, c3, w3, r3, y4, f4, hX3, R3⟩ := H5.test (by have := HL0.out; have := HL1.out; simp <;> omega) (2, -1, 1)
                  have x4 := H5.b.cell 4
                  simp at x4
                  have hX2 := H5.b.lt
                  have RR := Lib.hid r3
                  have RF := Lib.hid R3
                  clear r3 R3 H5 H4 eq hwd ce1 ce2 ce3 ce4 ce5 ce6
                  go_wp2_with (at_builtin; refine wpList_append_run rfl (.tmp 101) (.tmp 105) 55 rfl _ _ rfl rfl RR.out ?_)
                  go_roundw
                  case rel => exact .inr (.inr (.inr ⟨rfl, _, by rw [EK.out, ET.out]; exact RF.out⟩))
                  case measure => decide
          · have D0 : Hid (x0 = true ∧ n2 = n0) := Lib.hid (by simpa using DQ0.out)
            have ET : Hid (T2 = [(2, -1, 0)]) := Lib.hid (by rw [HTN.out]; rw [if_pos D0.out])
            go_loopw [12] (fun i wr => (i = .int .i64 0) ∧ OfR w (arrR ⟨k, x0, x1, true, n0, n1, n2⟩ (.slice va vn vc)) k K0 K1 0 (.slice ua un uc) (T0 ++ T1) wr) (fun i _ => (3 - intOf i).toNat)
            case atStart => exact ⟨rfl, H3.out⟩
            case round =>
              obtain ⟨hi, h⟩ := hrel
              have H4 := Lib.hid h
              have ce1 := h.t.b0.cell 1
              have ce2 := h.t.b0.cell 2
              have ce3 := h.t.b0.cell 3
              have ce4 := h.t.b0.cell 4
              have ce5 := h.t.b0.cell 5
              have ce6 := h.t.b0.cell 6
              simp at ce1 ce2 ce3 ce4 ce5 ce6
              rw [HZ0.out] at ce1
              rw [HZ1.out] at ce3
              simp [isV] at ce5
              clear h H3
              subst hi
              · have eq := EQ0.out
                go_wp2_with fail
                go_quiet (fail)
                generalize hwd : World.drewN wr _ = wd
                have H5 := H4.out.step (show Kept Nil wr wd by rw [← hwd]; exact (Kept.refl Nil wr).drewN _)
                obtain ⟨a3, n3, c3, w3, r3, y4, f4, hX3, R3⟩ := H5.test (by have := HL0.out; have := HL1.out; simp <;> omega) (2, -1, 0)
                have x4 := H5.b.cell 4
                simp at x4
                have hX2 := H5.b.lt
                have RR := Lib.hid r3
                have RF := Lib.hid R3
                clear r3 R3 H5 H4 eq hwd ce1 ce2 ce3 ce4 ce5 ce6
                go_wp2_with (at_builtin; refine wpList_append_run rfl (.tmp 101) (.tmp 105) 55 rfl _ _ rfl rfl RR.out ?_)
                go_roundw
                case rel => exact .inr (.inr (.inr ⟨rfl, _, by rw [EK.out, ET.out]; exact RF.out⟩))
                case measure => decide
    · have HO := Lib.hid h
      obtain ⟨ua, uc, rfl, huc⟩ := HO.out.g.shape
      have HTs : Hid (tstL chl ⟨k, x0, x1, x2, n0, n1, n2⟩ = T0 ++ T1 ++ T2) := Lib.hid HTL.out
      generalize T0 ++ T1 ++ T2 = TS at HO HTs huc
      obtain ⟨un, hun⟩ : ∃ n, TS.length = n := ⟨_, rfl⟩
      rw [hun] at HO huc
      have HUN := Lib.hid hun
      clear h R0 hun
      go_wp2_with (first
        | ((with_reducible refine wpList_load_Q rfl (.tmp 5) rfl _ _ rfl ⟨k, K0, K1, K2, []⟩ (.slice ua un uc) (.slice none 0 0) ?_ ?_)
           · exact World.rangeAt_of_block HO.out.b 0 6)
        | ((with_reducible refine wpList_store_Q rfl (.tmp 4) _ rfl _ ⟨k, K0, K1, K2, []⟩ _ _ _ _ _ _ rfl rfl zS rfl ?_ ?_)
           · exact HO.out.t.b1
           intro W kW bW
           have KW := Lib.hid kW
           have BW := Lib.hid bW
           clear kW bW))
      refine bodyPost_ret (results_cell_row Try.results16 _ _ _ _ _ _ _ rfl BW.out Try.underlying57 rfl (by kernel_rfl)) rfl ?_
      have htt := HO.out.g.tsAt
      rw [HTs.out]
      refine ⟨ua, uc, none, 0, by show _ = Ending.returned (vS ⟨k, K0, K1, K2, TS⟩ (.slice ua TS.length uc) (.slice none 0 0)); rw [HUN.out], ?_, .nil none 0, HO.out.t.kept.trans KW.out (fun i hi e => by omega)⟩
      show TsAt _ _ (.slice ua TS.length uc) TS
      rw [HUN.out]
      exact (htt.kept KW.out (fun b o hb e => by have := hb.1; omega)).mono (fun b o hb => (hb.kept KW.out (fun e => by have := hb.1; omega)).less (by omega))
/-- The reference's Of of any condition. -/
theorem of_all : ∀ s : Sh, OfS s := Sh.ind fun hd subs ih => by
  intro chl ok1 ok2 ac cc a cap w h1 h2 hc hk
  obtain ⟨d, hd'⟩ := hk
  obtain ⟨k, x0, x1, x2, n0, n1, n2⟩ := hd
  rw [Sh.count] at hc
  by_cases hk3 : k = 3
  · subst hk3
    rcases chk_zero hd' with ⟨_, _, hs⟩ | ⟨h12, _⟩
    · rw [st_mk, if_pos rfl]
      exact ofNcc_any x0 x1 x2 n0 n1 n2 subs (Lib.hid ih) ok1 ok2 chl ac cc a cap w h1 h2 (by omega) ⟨d + 1, hs⟩
    · have : (3 : Int) = 1 ∨ (3 : Int) = 2 := h12
      omega
  · rw [st_mk, if_neg hk3]
    exact ofTerms_any k hk3 x0 x1 x2 n0 n1 n2 chl (by omega) ok1 ac cc _ ⟨_, _, _, rfl⟩ w h1
end Go.Proofs.Ytefojaeinhgeiaa
