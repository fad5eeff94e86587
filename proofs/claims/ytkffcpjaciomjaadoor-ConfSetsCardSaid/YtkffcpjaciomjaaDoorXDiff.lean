/- Contracts of Diff, slices.EqualFunc, Same. -/
import Derived.Test.YtkffcpjaciomjaaDoorXRise
namespace Go.Proofs.YtkffcpjaciomjaaDoor
open Go.RowKit Go.Shelf Go.Sort
set_option maxRecDepth 100000

theorem filter_vals (l : List MC) (p : M → Bool) : (l.filter fun m => p m.val).map MC.val = (l.map MC.val).filter p := by
  rw [List.filter_map]; rfl
/-- Two answers beside each other. -/
def DiffEnd (x y : List M) (w : World) (e : Ending) (w' : World) : Prop := ∃ a1 n1 c1 l1 a2 n2 c2 l2, e = .returned (.tuple #[.slice a1 n1 c1, .slice a2 n2 c2]) ∧ n1 = x.length ∧ n2 = y.length ∧
  Row cM 37 2 w' w.heap.size (.slice a1 n1 c1) l1 ∧ l1.map MC.val = x ∧ Own w' w.heap.size a1 l1 ∧ Row cM 37 2 w' w.heap.size (.slice a2 n2 c2) l2 ∧ l2.map MC.val = y ∧ Own w' w.heap.size a2 l2 ∧ Kept Nil w w'
theorem Own.kept {w w' : World} {B : Nat} {a : Option Addr} {l : List MC} (h : Own w B a l) (k : Kept Nil w w') : Own w' B a l := fun m hm => ⟨(h m hm).1.kept k, (h m hm).2.1.keptN k, (h m hm).2.2⟩
theorem Own.down {w : World} {B B' : Nat} {a : Option Addr} {l : List MC} (h : Own w B a l) (hB : B' ≤ B) : Own w B' a l := fun m hm => ⟨(h m hm).1, (h m hm).2.1.down hB, (h m hm).2.2⟩
theorem mem_sortM {x : M} {l : List M} : decide (x ∈ sortM l) = decide (x ∈ l) := by
  rw [Bool.eq_iff_iff, decide_eq_true_eq, decide_eq_true_eq, sortM_mem]
theorem withoutM_eq (x y : List M) : (sortM x).filter (fun m => !decide (m ∈ sortM y)) = withoutM x y := by
  unfold withoutM
  congr 1
  funext m
  rw [mem_sortM]
  cases h : decide (m ∈ y) with
  | true => have := of_decide_eq_true h; simp [this]
  | false => have := of_decide_eq_false h; simp [this]
theorem withoutM_len (x y : List M) : (withoutM x y).length ≤ x.length := Nat.le_trans (List.length_filter_le ..) (sortM_len x)
set_option maxHeartbeats 4000000 in
theorem diff_any {w : World} {a b : Option Addr} {n m c d : Nat} {l k : List MC} (hl : Ms w a n l) (hk : Ms w b m k) (hn : n ≤ 5000) (hm : m ≤ 5000) :
    Calls Tryd.prog 13 #[.slice a n c, .slice b m d] w (DiffEnd (withoutM (l.map MC.val) (k.map MC.val)) (withoutM (k.map MC.val) (l.map MC.val)) w) := by
  have CR : Hid (∀ W, Kept Nil w W → Calls Tryd.prog 26 #[.slice a n c] W (RiseEnd l W)) := Lib.hid fun W kW => rising_any (hl.kept kW) hn
  have CS : Hid (∀ W, Kept Nil w W → Calls Tryd.prog 26 #[.slice b m d] W (RiseEnd k W)) := Lib.hid fun W kW => rising_any (hk.kept kW) hm
  have HX := Lib.hid (show (sortM (l.map MC.val)).length ≤ 5000 by have := sortM_len (l.map MC.val); rw [List.length_map, hl.row.1] at this; omega)
  have HY := Lib.hid (show (sortM (k.map MC.val)).length ≤ 5000 by have := sortM_len (k.map MC.val); rw [List.length_map, hk.row.1] at this; omega)
  clear hl hk
  generalize hx : l.map MC.val = x at *
  generalize hy : k.map MC.val = y at *
  have HXE := Lib.hid hx
  have HYE := Lib.hid hy
  clear hx hy
  have hsub : ∀ (u : List M) (v : List MC) (n : Nat) (A : Option Addr) (W : World), Ms W A n v → v.map MC.val = u → u.length ≤ 5000 → n ≤ 5000 := fun u v n A W h e hu => by rw [← h.row.1, ← List.length_map (f := MC.val), e]; exact hu
  have HSUB := Lib.hid hsub
  clear hsub
  go_enter Tryd.func13, Tryd.ntmps13
  go_wp2_with fail
  refine (CR.out _ (Kept.refl _ _)).mono ?_
  rintro e w1 ⟨a1, n1, c1, l1, rfl, hm1, hv1, k1⟩
  rw [HXE.out] at hv1
  have HM1 := Lib.hid hm1
  have HV1 := Lib.hid hv1
  have K1 := Lib.hid k1
  clear hm1 hv1 k1
  go_wp2_with fail
  refine (CS.out _ K1.out).mono ?_
  rintro e w2 ⟨a2, n2, c2, l2, rfl, hm2, hv2, k2⟩
  rw [HYE.out] at hv2
  have HM2 := Lib.hid hm2
  have HV2 := Lib.hid hv2
  have K2 := Lib.hid (K1.out.trans k2 (fun _ _ e => e))
  have HM1' := Lib.hid (HM1.out.kept k2)
  have hn1 : n1 ≤ 5000 := HSUB.out _ _ _ _ _ HM1.out HV1.out HX.out
  have hn2 : n2 ≤ 5000 := HSUB.out _ _ _ _ _ hm2 HV2.out HY.out
  have S1 : Srt (l1.map MC.val) := by rw [HV1.out]; exact sortM_srt _
  have S2 : Srt (l2.map MC.val) := by rw [HV2.out]; exact sortM_srt _
  have HS1 := Lib.hid S1
  have HS2 := Lib.hid S2
  have CI := Lib.hid (fun (A : Option Addr) (N C : Nat) (W : World) => isIn_any (w := W) (a := A) (n := N) (c := C))
  have CW1 : Hid (∀ W q, Kept Nil w2 W → W.cell? ⟨q, 0, none⟩ = some (.slice a2 n2 c2) → Calls Tryd.prog 27 #[.slice a1 n1 c1, .func (.func 49) #[] #[.pointer (some ⟨q, 0, none⟩)]] W fun e w' => ∃ a' n' c', e = .returned (.slice a' n' c') ∧ Ms w' a' n' (l1.filter fun m => !decide (m.val ∈ sortM y)) ∧ Kept Nil W w') := Lib.hid fun W q kW hq =>
    without_any (HM1'.out.kept kW) hn1 (fun v => decide (v ∈ sortM y)) rfl (fun z hz W2 kW2 => by
      have := isIn1_any (c := c2) ((HM2.out.kept kW).kept kW2) hn2 HS2.out (by rw [kW2.cell (World.block_lt_of_cell? W _ hq) (fun e => e)]; exact hq) ((HM1'.out.kept kW).kept kW2 |>.ok z hz)
      rw [HV2.out] at this
      exact this)
  have CW2 : Hid (∀ W q, Kept Nil w2 W → W.cell? ⟨q, 0, none⟩ = some (.slice a1 n1 c1) → Calls Tryd.prog 27 #[.slice a2 n2 c2, .func (.func 49) #[] #[.pointer (some ⟨q, 0, none⟩)]] W fun e w' => ∃ a' n' c', e = .returned (.slice a' n' c') ∧ Ms w' a' n' (l2.filter fun m => !decide (m.val ∈ sortM x)) ∧ Kept Nil W w') := Lib.hid fun W q kW hq =>
    without_any (HM2.out.kept kW) hn2 (fun v => decide (v ∈ sortM x)) rfl (fun z hz W2 kW2 => by
      have := isIn1_any (c := c1) ((HM1'.out.kept kW).kept kW2) hn1 HS1.out (by rw [kW2.cell (World.block_lt_of_cell? W _ hq) (fun e => e)]; exact hq) ((HM2.out.kept kW).kept kW2 |>.ok z hz)
      rw [HV1.out] at this
      exact this)
  have E1 : Hid ((l1.filter fun m => !decide (m.val ∈ sortM y)).map MC.val = withoutM x y) := Lib.hid (by rw [filter_vals l1 (fun v => !decide (v ∈ sortM y)), HV1.out, withoutM_eq])
  have E2 : Hid ((l2.filter fun m => !decide (m.val ∈ sortM x)).map MC.val = withoutM y x) := Lib.hid (by rw [filter_vals l2 (fun v => !decide (v ∈ sortM x)), HV2.out, withoutM_eq])
  have HL1 : Hid ((l1.filter fun m => !decide (m.val ∈ sortM y)).length ≤ 5000) := Lib.hid (Nat.le_trans (List.length_filter_le ..) (by rw [HM1.out.row.1]; exact hn1))
  have HL2 : Hid ((l2.filter fun m => !decide (m.val ∈ sortM x)).length ≤ 5000) := Lib.hid (Nat.le_trans (List.length_filter_le ..) (by rw [HM2.out.row.1]; exact hn2))
  generalize (l1.filter fun m => !decide (m.val ∈ sortM y)) = f1 at CW1 E1 HL1
  generalize (l2.filter fun m => !decide (m.val ∈ sortM x)) = f2 at CW2 E2 HL2
  clear hm2 hv2 k2 S1 S2 CR CS
  go_wp2_with fail
  refine (CI.out _ _ _ _).mono ?_
  rintro e w3 ⟨rfl, hq3, k3⟩
  go_wp2_with fail
  refine (CW1.out _ _ k3 hq3).mono ?_
  rintro e w4 ⟨a4, n4, c4, rfl, hm4, k4⟩
  have K4 := Lib.hid (k3.trans k4 (fun _ _ e => e))
  have hn4 : n4 ≤ 5000 := by rw [← hm4.row.1]; exact HL1.out
  have CC := Lib.hid (copy2_any (c := c4) hm4 hn4)
  rw [E1.out] at CC
  clear hq3 k3 k4 hm4
  go_wp2_with fail
  refine CC.out.mono ?_
  rintro e w5 ⟨a5, n5, c5, l5, rfl, hn5, hr5, hv5, ho5, k5⟩
  have HB4 : Hid (w.heap.size ≤ w4.heap.size) := Lib.hid (Nat.le_trans K2.out.size K4.out.size)
  have H5 := Lib.hid (show n5 = (withoutM x y).length ∧ Row cM 37 2 w5 w.heap.size (.slice a5 n5 c5) l5 ∧ l5.map MC.val = withoutM x y ∧ Own w5 w.heap.size a5 l5 from ⟨hn5, hr5.down HB4.out, hv5, ho5.down HB4.out⟩)
  have K5 := Lib.hid (K4.out.trans k5 (fun _ _ e => e))
  clear hn5 hr5 hv5 ho5 k5 CC
  go_wp2_with fail
  refine (CI.out _ _ _ _).mono ?_
  rintro e w6 ⟨rfl, hq6, k6⟩
  go_wp2_with fail
  refine (CW2.out _ _ (K5.out.trans k6 (fun _ _ e => e)) hq6).mono ?_
  rintro e w7 ⟨a7, n7, c7, rfl, hm7, k7⟩
  have K7 := Lib.hid (k6.trans k7 (fun _ _ e => e))
  have hn7 : n7 ≤ 5000 := by rw [← hm7.row.1]; exact HL2.out
  have CC := Lib.hid (copy2_any (c := c7) hm7 hn7)
  rw [E2.out] at CC
  clear hq6 k6 k7 hm7
  go_wp2_with fail
  refine CC.out.mono ?_
  rintro e w8 ⟨a8, n8, c8, l8, rfl, hn8, hr8, hv8, ho8, k8⟩
  have K8 := Lib.hid (K7.out.trans k8 (fun _ _ e => e))
  have KA := Lib.hid (K2.out.trans (K5.out.trans K8.out (fun _ _ e => e)) (fun _ _ e => e))
  have HB7 : Hid (w.heap.size ≤ w7.heap.size) := Lib.hid (Nat.le_trans (Nat.le_trans K2.out.size K5.out.size) K7.out.size)
  have H8 := Lib.hid (show DiffEnd (withoutM x y) (withoutM y x) w (.returned (.tuple #[.slice a5 n5 c5, .slice a8 n8 c8])) w8 from
    ⟨a5, n5, c5, l5, a8, n8, c8, l8, rfl, H5.out.1, hn8, H5.out.2.1.keptN K8.out, H5.out.2.2.1, H5.out.2.2.2.kept K8.out, hr8.down HB7.out, hv8, ho8.down HB7.out, KA.out⟩)
  clear hn8 hr8 hv8 ho8 k8 CC
  go_wp2_with fail
  go_ret2
  exact H8.out

/-! ### Same -/
set_option maxHeartbeats 2000000 in
theorem equal_any {w : World} {a b : Option Addr} {n m c d : Nat} {l k : List MC} (hl : Ms w a n l) (hk : Ms w b m k) (hn : n ≤ 5000) :
    Calls Tryd.prog 30 #[.slice a n c, .slice b m d, .func (.func 31) #[] #[]] w fun e w' => e = .returned (.bool (decide (l.map MC.val = k.map MC.val))) ∧ Kept Nil w w' := by
  have HL := Lib.hid hl
  have HK := Lib.hid hk
  have HNL := Lib.hid hl.row.1
  have HMK := Lib.hid hk.row.1
  have CA : Hid (∀ x y, x ∈ l → y ∈ k → ∀ W, Kept Nil w W → Calls Tryd.prog 31 #[vM x, vM y] W fun e w' => e = .returned (.bool (decide (x.val = y.val))) ∧ Kept Nil W w') := Lib.hid fun x y hx hy W kW => (alike_any ((hl.ok x hx).kept kW) ((hk.ok y hy).kept kW)).mono fun e w' ⟨he, hg⟩ => ⟨he, hg.kept⟩
  clear hl hk
  by_cases hnm : n = m
  · subst hnm
    go_enter Tryd.func30, Tryd.ntmps30
    go_wp2_with fail
    go_loopw [7, 8, 9, 17] (fun _ _ _ i wr => ∃ j : Nat, j ≤ n ∧ i = .int .i64 j ∧ Hid ((l.take j).map MC.val = (k.take j).map MC.val) ∧ Hid (Kept Nil w wr)) (fun _ _ _ i _ => n - (intOf i).toNat)
    case atStart => exact ⟨0, Nat.zero_le _, rfl, rfl, Kept.refl _ _⟩
    case round =>
      obtain ⟨j, hj, rfl, HT, HKW⟩ := hrel
      by_cases hlt : j < n
      · obtain ⟨x, hx⟩ : ∃ x, l[j]? = some x := ⟨_, List.getElem?_eq_getElem (by have := HNL.out; omega)⟩
        obtain ⟨y, hy⟩ : ∃ y, k[j]? = some y := ⟨_, List.getElem?_eq_getElem (by have := HMK.out; omega)⟩
        obtain ⟨g1, o1, rfl, _, hc1⟩ := (HL.out.row.kept HKW.out).at_ hx
        have hK1 := HK.out.row.kept (HKW.out.alloc (.cells #[.string x.r, .slice x.a x.n x.c] 37))
        obtain ⟨g2, o2, rfl, _, hc2⟩ := hK1.at_ hy
        have q0 := hc1 0 _ rfl
        have q1 := hc1 1 _ rfl
        have q2 := hc2 0 _ rfl
        have q3 := hc2 1 _ rfl
        rw [Nat.add_zero] at q0 q2
        have CC : Hid (∀ W, Kept Nil w W → Calls Tryd.prog 31 #[.agg #[.string x.r, .slice x.a x.n x.c], .agg #[.string y.r, .slice y.a y.n y.c]] W fun e w' => e = .returned (.bool (decide (x.val = y.val))) ∧ Kept Nil W w') := Lib.hid (CA.out x y (List.mem_of_getElem? hx) (List.mem_of_getElem? hy))
        have HX := Lib.hid hx
        have HY := Lib.hid hy
        have KA := Lib.hid ((HKW.out.alloc (.cells #[.string x.r, .slice x.a x.n x.c] 37)).alloc (.cells #[.string y.r, .slice y.a y.n y.c] 37))
        clear hc1 hc2 hx hy hK1
        by_cases e : x.val = y.val
        · have HT2 : Hid ((l.take (j + 1)).map MC.val = (k.take (j + 1)).map MC.val) := Lib.hid (by rw [take_succ' HX.out, take_succ' HY.out, List.map_append, List.map_append, HT.out, List.map_singleton, List.map_singleton, e])
          rw [decide_eq_true e] at CC
          clear e
          go_wp2_with fail
          refine (CC.out _ KA.out).mono ?_
          rintro e w2 ⟨rfl, k2⟩
          have K2 := Lib.hid (KA.out.trans k2 (fun _ _ e => e))
          clear k2 q0 q1 q2 q3
          go_wp2_with fail
          go_roundw
          case rel => exact ⟨j + 1, hlt, by go_num, HT2, K2⟩
          case measure => simp [intOf]; omega
        · have HE : Hid (decide (l.map MC.val = k.map MC.val) = false) := Lib.hid (decide_eq_false fun h => e (by
            have := congrArg (fun z : List M => z[j]?) h
            simp only [List.getElem?_map, HX.out, HY.out] at this
            exact Option.some.inj this))
          rw [decide_eq_false e] at CC
          clear e
          go_wp2_with fail
          refine (CC.out _ KA.out).mono ?_
          rintro e w2 ⟨rfl, k2⟩
          have K2 := Lib.hid (KA.out.trans k2 (fun _ _ e => e))
          clear k2 q0 q1 q2 q3
          go_wp2_with fail
          go_ret
          exact ⟨ret_bool HE.out.symm, K2.out⟩
      · have e : j = n := by omega
        subst e
        have HE : Hid (decide (l.map MC.val = k.map MC.val) = true) := Lib.hid (decide_eq_true (by
          have := HT.out
          rwa [List.take_of_length_le (by have := HNL.out; omega), List.take_of_length_le (by have := HMK.out; omega)] at this))
        go_wp2_with fail
        go_ret
        exact ⟨ret_bool HE.out.symm, HKW.out⟩
  · have HE : Hid (decide (l.map MC.val = k.map MC.val) = false) := Lib.hid (decide_eq_false fun h => hnm (by
      have := congrArg List.length h
      rw [List.length_map, List.length_map, HNL.out, HMK.out] at this; exact this))
    go_enter Tryd.func30, Tryd.ntmps30
    go_wp2_with fail
    go_ret
    exact ⟨ret_bool HE.out.symm, Kept.refl _ _⟩
theorem same_any {w : World} {a b : Option Addr} {n m c d : Nat} {l k : List MC} (hl : Ms w a n l) (hk : Ms w b m k) (hn : n ≤ 5000) :
    Calls Tryd.prog 17 #[.slice a n c, .slice b m d] w fun e w' => e = .returned (.bool (decide (l.map MC.val = k.map MC.val))) ∧ Kept Nil w w' := by
  have CE := Lib.hid (equal_any (c := c) (d := d) hl hk hn)
  clear hl hk
  go_enter Tryd.func17, Tryd.ntmps17
  go_wp2_with fail
  refine CE.out.mono ?_
  rintro e w1 ⟨rfl, k1⟩
  go_wp2_with fail
  go_ret
  exact ⟨rfl, k1⟩
end Go.Proofs.YtkffcpjaciomjaaDoor
