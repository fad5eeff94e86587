/- The reference's Sort and Without. -/
import Derived.Test.YtkffcpjaciomjaaDoorXRefS
namespace Go.Proofs.YtkffcpjaciomjaaDoor
open Go.RowKit Go.Shelf Go.Sort
set_option maxRecDepth 100000

/-- The state of the inner loop, behind k elements. -/
def stM (m : M) (l : List M) (k : Nat) : List M × Bool := (l.take k).foldl (putM m) ([], false)
theorem stM_next {m : M} {l : List M} {k : Nat} {y : M} (h : l[k]? = some y) : stM m l (k + 1) = putM m (stM m l k) y := by
  unfold stM
  rw [List.take_add_one, h]
  show (l.take k ++ [y]).foldl (putM m) ([], false) = _
  rw [List.foldl_append]; rfl
theorem stM_len (m : M) (l : List M) : ∀ k, k ≤ l.length → (stM m l k).1.length ≤ k + 1 ∧ ((stM m l k).2 = false → (stM m l k).1.length ≤ k)
  | 0, _ => by simp [stM]
  | k + 1, h => by
    obtain ⟨y, hy⟩ : ∃ y, l[k]? = some y := ⟨_, List.getElem?_eq_getElem h⟩
    obtain ⟨h1, h2⟩ := stM_len m l k (by omega)
    rw [stM_next hy]
    unfold putM
    by_cases hc : (stM m l k).2 = false ∧ ltM m y = true
    · rw [if_pos hc]
      have := h2 hc.1
      simp; omega
    · rw [if_neg hc]
      refine ⟨by simp; omega, fun h => ?_⟩
      have := h2 h
      simp; omega

set_option maxHeartbeats 8000000 in
theorem rSort_any {w : World} {a : Option Addr} {n c : Nat} {l : List MC} (h : Ms w a n l) (hn : n ≤ 2000) :
    Calls Tryd.prog 15 #[.slice a n c] w fun e w' => ∃ a' n' c' l', e = .returned (.slice a' n' c') ∧ Ms w' a' n' l' ∧ l'.map MC.val = sortM (l.map MC.val) ∧ Kept Nil w w' := by
  have HH := Lib.hid h
  have HL := Lib.hid h.row.1
  clear h
  go_enter Tryd.func15, Tryd.ntmps15
  go_wp2_with fail
  go_loopw [3, 5, 6, 7, 9, 12, 19, 21] (fun r _ _ _ _ i _ _ wr => ∃ (j : Nat) (a2 : Option Addr) (n2 c2 : Nat) (l2 : List MC), j ≤ n ∧ i = .int .i64 j ∧ r = .slice a2 n2 c2 ∧ n2 ≤ j ∧ Hid (Row cM 39 2 wr w.heap.size (.slice a2 n2 c2) l2) ∧ Hid (∀ x ∈ l2, x ∈ l) ∧ Hid (l2.map MC.val = sortM ((l.take j).map MC.val)) ∧ Hid (Kept Nil w wr)) (fun _ _ _ _ _ i _ _ _ => n - (intOf i).toNat)
  case atStart => exact ⟨0, none, 0, 0, [], Nat.zero_le _, rfl, rfl, Nat.le_refl _, Row.nil _ _, fun m hm => (by cases hm), rfl, Kept.refl _ _⟩
  case round =>
    obtain ⟨j, a2, n2, c2, l2, hj, rfl, rfl, hn2, HR, HO, HV, HK⟩ := hrel
    by_cases hlt : j < n
    · obtain ⟨m, hm⟩ : ∃ m, l[j]? = some m := ⟨_, List.getElem?_eq_getElem (by have := HL.out; omega)⟩
      obtain ⟨b0, o0, rfl, hb0, hc0⟩ := (HH.out.row.kept HK.out).at_ hm
      have q0 := hc0 0 _ rfl
      have q1 := hc0 1 _ rfl
      rw [Nat.add_zero] at q0
      have hml := List.mem_of_getElem? hm
      have HVT : Hid (sortM ((l.take (j + 1)).map MC.val) = insM m.val (l2.map MC.val)) := Lib.hid (by rw [take_succ' hm, List.map_append, HV.out]; exact sortM_snoc _ _)
      have hl2 : l2.length = n2 := by
        obtain ⟨_, _, e⟩ := HR.out.shape
        exact ((Value.slice.inj e).2.1).symm
      have HL2 := Lib.hid hl2
      have KA := Lib.hid (HK.out.alloc (.cells #[.string m.r, .slice m.a m.n m.c] 39))
      have HM2 : Hid (Ms (wr.alloc (.cells #[.string m.r, .slice m.a m.n m.c] 39)) a2 n2 l2) := Lib.hid ⟨(HR.out.toIn cM_len (by decide)).kept ((Kept.refl Nil wr).alloc _), fun x hx => (HH.out.ok x (HO.out x hx)).kept KA.out⟩
      have CH : Hid (∀ W, Kept Nil (wr.alloc (.cells #[.string m.r, .slice m.a m.n m.c] 39)) W → Calls Tryd.prog 29 #[.slice a2 n2 c2, .agg #[.string m.r, .slice m.a m.n m.c]] W fun e w' => e = .returned (.bool (decide (m.val ∈ l2.map MC.val))) ∧ Kept Nil W w') := Lib.hid fun W kW => has_any (HM2.out.kept kW) (by omega) ((HH.out.ok m hml).kept (KA.out.trans kW (fun _ _ e => e)))
      have CL : Hid (∀ x ∈ l, ∀ W, Kept Nil w W → Calls Tryd.prog 19 #[.agg #[.string m.r, .slice m.a m.n m.c], .agg #[.string x.r, .slice x.a x.n x.c]] W fun e w' => e = .returned (.bool (ltM m.val x.val)) ∧ Kept Nil W w') := Lib.hid fun x hx W kW => less_any ((HH.out.ok m hml).kept kW) ((HH.out.ok x hx).kept kW)
      have HML := Lib.hid hml
      have hbm := Blk.new wr 39 #[.string m.r, .slice m.a m.n m.c]
      have HB : Hid (∀ W, Kept Nil (wr.alloc (.cells #[.string m.r, .slice m.a m.n m.c] 39)) W → W.cell? ⟨wr.heap.size, 0, none⟩ = some (.string m.r) ∧ W.cell? ⟨wr.heap.size, 1, none⟩ = some (.slice m.a m.n m.c)) := Lib.hid fun W k => ⟨(hbm.kept k (fun e => e)).cell 0, (hbm.kept k (fun e => e)).cell 1⟩
      have HRA : Hid (∀ W, Kept Nil (wr.alloc (.cells #[.string m.r, .slice m.a m.n m.c] 39)) W → Row cM 39 2 W w.heap.size (.slice a2 n2 c2) l2) := Lib.hid fun W k => HR.out.keptN (((Kept.refl Nil wr).alloc _).trans k (fun _ _ e => e))
      clear hc0 hm hml hbm hl2
      by_cases hin : m.val ∈ l2.map MC.val
      · have HV2 : Hid (l2.map MC.val = sortM ((l.take (j + 1)).map MC.val)) := Lib.hid (by rw [HVT.out, insM, if_pos hin])
        rw [decide_eq_true hin] at CH
        clear hin
        go_wp2_with fail
        refine (CH.out _ (Kept.refl _ _)).mono ?_
        rintro e w1 ⟨rfl, k1⟩
        have K1 := Lib.hid (KA.out.trans k1 (fun _ _ e => e))
        have HR1 := Lib.hid (HRA.out _ k1)
        clear k1 q0 q1
        go_wp2_with fail
        go_roundw
        case rel => exact ⟨j + 1, a2, n2, c2, l2, hlt, by go_num, rfl, by omega, HR1, HO, HV2, K1⟩
        case measure => simp [intOf]; omega
      · have HV2 : Hid (endM m.val (stM m.val (l2.map MC.val) n2) = sortM ((l.take (j + 1)).map MC.val)) := Lib.hid (by rw [HVT.out, insM, if_neg hin, stM, List.take_of_length_le (by rw [List.length_map, HL2.out]; exact Nat.le_refl _)])
        rw [decide_eq_false hin] at CH
        clear hin
        go_wp2_with fail
        refine (CH.out _ (Kept.refl _ _)).mono ?_
        rintro e w1 ⟨rfl, k1⟩
        have K1 := Lib.hid (KA.out.trans k1 (fun _ _ e => e))
        have HR1 := Lib.hid (HRA.out _ k1)
        have HB1 : Hid (∀ W, Kept Nil w1 W → W.cell? ⟨wr.heap.size, 0, none⟩ = some (.string m.r) ∧ W.cell? ⟨wr.heap.size, 1, none⟩ = some (.slice m.a m.n m.c)) := Lib.hid fun W k => HB.out W (k1.trans k (fun _ _ e => e))
        generalize wr.heap.size = bm at *
        clear k1 q0 q1 HRA HB CH HM2 KA
        go_wp2_with fail
        go_loopw [6, 7, 9, 21] (fun nx pt _ i2 wt => ∃ (k : Nat) (a3 : Option Addr) (n3 c3 : Nat) (l3 : List MC), k ≤ n2 ∧ i2 = .int .i64 k ∧ nx = .slice a3 n3 c3 ∧ n3 ≤ k + 1 ∧ pt = .bool (stM m.val (l2.map MC.val) k).2 ∧ Hid (Row cM 39 2 wt w1.heap.size (.slice a3 n3 c3) l3) ∧ Hid (∀ x ∈ l3, x ∈ l) ∧ Hid (l3.map MC.val = (stM m.val (l2.map MC.val) k).1) ∧ Hid (Kept Nil w1 wt)) (fun _ _ _ i2 _ => n2 - (intOf i2).toNat)
        case atStart => exact ⟨0, none, 0, 0, [], Nat.zero_le _, rfl, rfl, Nat.zero_le _, rfl, Row.nil _ _, fun m hm => (by cases hm), rfl, Kept.refl _ _⟩
        case round =>
          obtain ⟨k, a3, n3, c3, l3, hk, rfl, rfl, hn3, rfl, HR3, HO3, HV3, HK3⟩ := hrel
          have hl3 : n3 = l3.length := by
            obtain ⟨_, _, e⟩ := HR3.out.shape
            exact (Value.slice.inj e).2.1
          have HL3 := Lib.hid hl3
          obtain ⟨y0, y1⟩ := HB1.out _ HK3.out
          by_cases hlt2 : k < n2
          · obtain ⟨x, hx⟩ : ∃ x, l2[k]? = some x := ⟨_, List.getElem?_eq_getElem (by have := HL2.out; omega)⟩
            obtain ⟨b4, o4, rfl, hb4, hc4⟩ := ((HR1.out.toIn cM_len (by decide)).kept HK3.out).at_ hx
            have p0 := hc4 0 _ rfl
            have p1 := hc4 1 _ rfl
            rw [Nat.add_zero] at p0
            have hxl := HO.out x (List.mem_of_getElem? hx)
            have HST : Hid (stM m.val (l2.map MC.val) (k + 1) = putM m.val (stM m.val (l2.map MC.val) k) x.val) := Lib.hid (stM_next (by rw [List.getElem?_map, hx]; rfl))
            have KX := Lib.hid ((Kept.refl Nil wr).alloc (.cells #[.string x.r, .slice x.a x.n x.c] 39))
            have KX1 := Lib.hid (HK3.out.trans KX.out (fun _ _ e => e))
            obtain ⟨z0, z1⟩ := HB1.out _ KX1.out
            have CLX : Hid (∀ W, Kept Nil w W → Calls Tryd.prog 19 #[.agg #[.string m.r, .slice m.a m.n m.c], .agg #[.string x.r, .slice x.a x.n x.c]] W fun e w' => e = .returned (.bool (ltM m.val x.val)) ∧ Kept Nil W w') := Lib.hid (CL.out x hxl)
            have HBX : Hid (∀ W, Kept Nil (wr.alloc (.cells #[.string x.r, .slice x.a x.n x.c] 39)) W → W.cell? ⟨wr.heap.size, 0, none⟩ = some (.string x.r) ∧ W.cell? ⟨wr.heap.size, 1, none⟩ = some (.slice x.a x.n x.c)) := Lib.hid fun W k => ⟨((Blk.new wr 39 #[.string x.r, .slice x.a x.n x.c]).kept k (fun e => e)).cell 0, ((Blk.new wr 39 #[.string x.r, .slice x.a x.n x.c]).kept k (fun e => e)).cell 1⟩
            have HXL := Lib.hid hxl
            have P1 : Hid (∀ W, Kept Nil w1 W → Kept Nil wr W → ∃ a4 c4 w', (Builtin.append_ #[25, 25] 25 #[.slice a3 n3 c3, .slice (some ⟨W.heap.size, 0, none⟩) 1 1]).run Tryd.prog (W.alloc (.cells #[.string x.r, .slice x.a x.n x.c] 39)) = .ok (.slice a4 (n3 + 1) c4) w' ∧ Row cM 39 2 w' w1.heap.size (.slice a4 (n3 + 1) c4) (l3 ++ [x]) ∧ Kept Nil w1 w') := Lib.hid fun W kW kR => by
              obtain ⟨a4, c4, w', r4, h4, k4, _⟩ := Row.push elsR cM_len cM_one 25 kW (HR3.out.keptN kR) HL3.out (by rw [← HL3.out]; omega) x #[.string x.r, .slice x.a x.n x.c] rfl
              exact ⟨a4, c4, w', r4, h4, k4⟩
            have P2 : Hid (∀ W, Kept Nil w1 W → Kept Nil wr W → ∃ a4 c4 w', (Builtin.append_ #[25, 25] 25 #[.slice a3 n3 c3, .slice (some ⟨W.heap.size, 0, none⟩) 1 1]).run Tryd.prog (W.alloc (.cells #[.string m.r, .slice m.a m.n m.c] 39)) = .ok (.slice a4 (n3 + 1) c4) w' ∧ Row cM 39 2 w' w1.heap.size (.slice a4 (n3 + 1) c4) (l3 ++ [m]) ∧ Kept Nil w1 w' ∧ Kept (fun k => (Value.slice a3 n3 c3).ownBlock = some k) W w') := Lib.hid fun W kW kR => by
              obtain ⟨a4, c4, w', r4, h4, k4, k5⟩ := Row.push elsR cM_len cM_one 25 kW (HR3.out.keptN kR) HL3.out (by rw [← HL3.out]; omega) m #[.string m.r, .slice m.a m.n m.c] rfl
              exact ⟨a4, c4, w', r4, h4, k4, k5⟩
            have hbl : ∀ b, (Value.slice a3 n3 c3).ownBlock = some b → b < wr.heap.size := fun b hb => (HR3.out.lt b hb).2
            have HBL := Lib.hid hbl
            clear hc4 hx hbl hl3
            cases hpt : (stM m.val (l2.map MC.val) k).2 with
            | true =>
              have HS1 : Hid ((stM m.val (l2.map MC.val) (k + 1)).2 = true ∧ (l3 ++ [x]).map MC.val = (stM m.val (l2.map MC.val) (k + 1)).1) := Lib.hid (by
                rw [HST.out, putM, hpt, if_neg (by simp), List.map_append, HV3.out]
                exact ⟨hpt, rfl⟩)
              clear hpt
              obtain ⟨a4, c4, w4, r4, h4, k4⟩ := P1.out _ KX1.out KX.out
              have hsx : (wr.alloc (.cells #[.string x.r, .slice x.a x.n x.c] 39)).heap.size = wr.heap.size + 1 := by simp
              rw [hsx] at r4
              clear hsx
              have R4 := Lib.hid r4
              have HR4 := Lib.hid h4
              have K4 := Lib.hid k4
              clear r4 h4 k4
              obtain ⟨v0, v1⟩ := HBX.out _ (Kept.refl Nil _)
              go_wp2_with (at_builtin; refine wpList_append_run rfl (.tmp 36) (.tmp 38) 25 rfl _ _ rfl rfl R4.out ?_)
              go_roundw
              case rel => exact ⟨k + 1, a4, n3 + 1, c4, l3 ++ [x], hlt2, by go_num, rfl, by omega, by rw [HS1.out.1], HR4, fun z hz => (List.mem_append.1 hz).elim (HO3.out z) (fun h => by rw [List.mem_singleton.1 h]; exact HXL.out), HS1.out.2, K4⟩
              case measure => simp [intOf]; omega
            | false =>
              cases hlx : ltM m.val x.val with
              | true =>
                have HS1 : Hid ((stM m.val (l2.map MC.val) (k + 1)).2 = true ∧ ((l3 ++ [m]) ++ [x]).map MC.val = (stM m.val (l2.map MC.val) (k + 1)).1) := Lib.hid (by
                  rw [HST.out, putM, if_pos ⟨hpt, hlx⟩, List.map_append, List.map_append, HV3.out]
                  exact ⟨rfl, rfl⟩)
                have hlen3 := (stM_len m.val (l2.map MC.val) k (by rw [List.length_map, HL2.out]; omega)).2 hpt
                rw [← HV3.out, List.length_map, ← HL3.out] at hlen3
                rw [hlx] at CLX
                clear hpt hlx
                go_wp2_with fail
                refine (CLX.out _ (K1.out.trans KX1.out (fun _ _ e => e))).mono ?_
                rintro e w4 ⟨rfl, k4⟩
                have KW4 := Lib.hid (KX1.out.trans k4 (fun _ _ e => e))
                have KR4 := Lib.hid (KX.out.trans k4 (fun _ _ e => e))
                obtain ⟨v0, v1⟩ := HBX.out _ k4
                obtain ⟨s0, s1⟩ := HB1.out _ KW4.out
                obtain ⟨a5, c5, w5, r5, h5, k5, k5'⟩ := P2.out _ KW4.out KR4.out
                have R5 := Lib.hid r5
                have HR5 := Lib.hid h5
                have K5 := Lib.hid k5
                have hx5 : wr.heap.size < w4.heap.size := World.block_lt_of_cell? w4 _ v0
                have t0 : w5.cell? ⟨wr.heap.size, 0, none⟩ = some (.string x.r) := by
                  rw [k5'.cell (p := ⟨wr.heap.size, 0, none⟩) hx5 (fun e => Nat.lt_irrefl _ (HBL.out _ e))]; exact v0
                have t1 : w5.cell? ⟨wr.heap.size, 1, none⟩ = some (.slice x.a x.n x.c) := by
                  rw [k5'.cell (p := ⟨wr.heap.size, 1, none⟩) hx5 (fun e => Nat.lt_irrefl _ (HBL.out _ e))]; exact v1
                obtain ⟨a6, c6, w6, r6, h6, k6, _⟩ := Row.push elsR cM_len cM_one 25 K5.out HR5.out (by rw [List.length_append, ← HL3.out]; rfl) (by rw [List.length_append, ← HL3.out]; simp; omega) x #[.string x.r, .slice x.a x.n x.c] rfl
                have R6 := Lib.hid r6
                have HR6 := Lib.hid h6
                have K6 := Lib.hid k6
                clear r5 h5 k5 k5' r6 h6 k6 k4
                go_wp2_with (at_builtin; first | refine wpList_append_run rfl (.tmp 32) (.tmp 34) 25 rfl _ _ rfl rfl R5.out ?_ | refine wpList_append_run rfl (.tmp 36) (.tmp 38) 25 rfl _ _ rfl rfl R6.out ?_)
                go_roundw
                case rel => exact ⟨k + 1, a6, n3 + 1 + 1, c6, l3 ++ [m] ++ [x], hlt2, by go_num, rfl, by omega, by rw [HS1.out.1], HR6, fun z hz => (List.mem_append.1 hz).elim (fun h => (List.mem_append.1 h).elim (HO3.out z) (fun h => by rw [List.mem_singleton.1 h]; exact HML.out)) (fun h => by rw [List.mem_singleton.1 h]; exact HXL.out), HS1.out.2, K6⟩
                case measure => simp [intOf]; omega
              | false =>
                have HS1 : Hid ((stM m.val (l2.map MC.val) (k + 1)).2 = false ∧ (l3 ++ [x]).map MC.val = (stM m.val (l2.map MC.val) (k + 1)).1) := Lib.hid (by
                  rw [HST.out, putM, hpt, if_neg (by rw [hlx]; simp), List.map_append, HV3.out]
                  exact ⟨hpt, rfl⟩)
                rw [hlx] at CLX
                clear hpt hlx
                go_wp2_with fail
                refine (CLX.out _ (K1.out.trans KX1.out (fun _ _ e => e))).mono ?_
                rintro e w4 ⟨rfl, k4⟩
                have KW4 := Lib.hid (KX1.out.trans k4 (fun _ _ e => e))
                have KR4 := Lib.hid (KX.out.trans k4 (fun _ _ e => e))
                obtain ⟨v0, v1⟩ := HBX.out _ k4
                obtain ⟨a5, c5, w5, r5, h5, k5⟩ := P1.out _ KW4.out KR4.out
                have R5 := Lib.hid r5
                have HR5 := Lib.hid h5
                have K5 := Lib.hid k5
                clear r5 h5 k5 k4
                go_wp2_with (at_builtin; refine wpList_append_run rfl (.tmp 36) (.tmp 38) 25 rfl _ _ rfl rfl R5.out ?_)
                go_roundw
                case rel => exact ⟨k + 1, a5, n3 + 1, c5, l3 ++ [x], hlt2, by go_num, rfl, by omega, by rw [HS1.out.1], HR5, fun z hz => (List.mem_append.1 hz).elim (HO3.out z) (fun h => by rw [List.mem_singleton.1 h]; exact HXL.out), HS1.out.2, K5⟩
                case measure => simp [intOf]; omega
          · have e2 : k = n2 := by omega
            subst e2
            have HW1 : Hid (w.heap.size ≤ w1.heap.size) := Lib.hid K1.out.size
            have KT := Lib.hid (K1.out.trans HK3.out (fun _ _ e => e))
            cases hpt : (stM m.val (l2.map MC.val) k).2 with
            | true =>
              have HV4 : Hid (l3.map MC.val = sortM ((l.take (j + 1)).map MC.val)) := Lib.hid (by rw [← HV2.out, endM, if_pos hpt, HV3.out])
              have HR4 : Hid (Row cM 39 2 wr w.heap.size (.slice a3 n3 c3) l3) := Lib.hid (HR3.out.down HW1.out)
              clear hpt hl3
              go_wp2_with fail
              go_roundw
              case rel => exact ⟨j + 1, a3, n3, c3, l3, hlt, by go_num, rfl, by omega, HR4, HO3, HV4, KT⟩
              case measure => simp [intOf]; omega
            | false =>
              have hlen3 := (stM_len m.val (l2.map MC.val) k (by rw [List.length_map, HL2.out]; omega)).2 hpt
              rw [← HV3.out, List.length_map, ← HL3.out] at hlen3
              have HV4 : Hid ((l3 ++ [m]).map MC.val = sortM ((l.take (j + 1)).map MC.val)) := Lib.hid (by rw [← HV2.out, endM, if_neg (by rw [hpt]; simp), List.map_append, HV3.out]; rfl)
              obtain ⟨a5, c5, w5, r5, h5, k5, _⟩ := Row.push elsR cM_len cM_one 25 HK3.out HR3.out HL3.out (by rw [← HL3.out]; omega) m #[.string m.r, .slice m.a m.n m.c] rfl
              have R5 := Lib.hid r5
              have HR5 : Hid (Row cM 39 2 w5 w.heap.size (.slice a5 (n3 + 1) c5) (l3 ++ [m])) := Lib.hid (h5.down HW1.out)
              have K5 := Lib.hid (K1.out.trans k5 (fun _ _ e => e))
              clear hpt hl3 r5 h5 k5
              go_wp2_with (at_builtin; refine wpList_append_run rfl (.tmp 43) (.tmp 45) 25 rfl _ _ rfl rfl R5.out ?_)
              go_roundw
              case rel => exact ⟨j + 1, a5, n3 + 1, c5, l3 ++ [m], hlt, by go_num, rfl, by omega, HR5, fun z hz => (List.mem_append.1 hz).elim (HO3.out z) (fun h => by rw [List.mem_singleton.1 h]; exact HML.out), HV4, K5⟩
              case measure => simp [intOf]; omega
    · have e : j = n := by omega
      subst e
      have HV2 : Hid (l2.map MC.val = sortM (l.map MC.val)) := Lib.hid (by have := HV.out; rwa [List.take_of_length_le (by have := HL.out; omega)] at this)
      go_wp2_with fail
      go_ret
      exact ⟨a2, n2, c2, l2, rfl, ⟨HR.out.toIn cM_len (by decide), fun m hm => (HH.out.ok m (HO.out m hm)).kept HK.out⟩, HV2.out, HK.out⟩
end Go.Proofs.YtkffcpjaciomjaaDoor
