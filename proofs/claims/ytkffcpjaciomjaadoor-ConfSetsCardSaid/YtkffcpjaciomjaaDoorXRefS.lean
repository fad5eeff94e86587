/- The reference's Less, One, Has, Same; the law's Same. -/
import Derived.Test.YtkffcpjaciomjaaDoorXRef
namespace Go.Proofs.YtkffcpjaciomjaaDoor
open Go.RowKit Go.Shelf Go.Sort
set_option maxRecDepth 100000

set_option maxHeartbeats 4000000 in
theorem less_any {w : World} {x y : MC} (hx : Mok w x) (hy : Mok w y) :
    Calls Tryd.prog 19 #[vM x, vM y] w fun e w' => e = .returned (.bool (ltM x.val y.val)) ∧ Kept Nil w w' := by
  obtain ⟨r, ids, n, a, c⟩ := x
  obtain ⟨s, jds, m, b, d⟩ := y
  have HNX := Lib.hid hx.ids.1
  have HMY := Lib.hid hy.ids.1
  have hn := hx.few
  have hm := hy.few
  simp only at hn hm
  have GA := Lib.hid (((Kept.refl Nil w).alloc (.cells #[.string r, .slice a n c] 39)).alloc (.cells #[.string s, .slice b m d] 39))
  have HX : Hid (In cN 1 ((w.alloc (.cells #[.string r, .slice a n c] 39)).alloc (.cells #[.string s, .slice b m d] 39)) a n ids) := Lib.hid (hx.ids.kept GA.out)
  have HY : Hid (In cN 1 ((w.alloc (.cells #[.string r, .slice a n c] 39)).alloc (.cells #[.string s, .slice b m d] 39)) b m jds) := Lib.hid (hy.ids.kept GA.out)
  have hB := (Blk.new w 39 #[.string r, .slice a n c]).alloc (.cells #[.string s, .slice b m d] 39)
  have hB2 := Blk.new (w.alloc (.cells #[.string r, .slice a n c] 39)) 39 #[.string s, .slice b m d]
  have hs2 : (w.alloc (.cells #[.string r, .slice a n c] 39)).heap.size = w.heap.size + 1 := by simp
  rw [hs2] at hB2
  clear hx hy
  show Calls Tryd.prog 19 #[.agg #[.string r, .slice a n c], .agg #[.string s, .slice b m d]] w _
  by_cases h : r = s
  · subst h
    have HE : Hid (ltM (r, ids) (r, jds) = ltI ids jds) := Lib.hid (by unfold ltM; rw [if_pos rfl])
    go_enter Tryd.func19, Tryd.ntmps19
    go_wp2_with fail
    generalize hW : (w.alloc (.cells #[.string r, .slice a n c] 39)).alloc (.cells #[.string r, .slice b m d] 39) = W at *
    have HC : Hid (∀ V, Kept Nil W V → V.cell? ⟨w.heap.size, 1, none⟩ = some (.slice a n c) ∧ V.cell? ⟨w.heap.size + 1, 1, none⟩ = some (.slice b m d)) := Lib.hid fun V kV => ⟨(hB.kept kV (fun e => e)).cell 1, (hB2.kept kV (fun e => e)).cell 1⟩
    clear hB hB2 hs2 hW
    go_loopw [5] (fun i wr => ∃ k : Nat, k ≤ n ∧ k ≤ m ∧ i = .int .i64 k ∧ Hid (ids.take k = jds.take k) ∧ Hid (Kept Nil W wr)) (fun i _ => n - (intOf i).toNat)
    case atStart => exact ⟨0, Nat.zero_le _, Nat.zero_le _, rfl, rfl, Kept.refl _ _⟩
    case round =>
      obtain ⟨k, hk, hkm, rfl, HT, HK⟩ := hrel
      obtain ⟨x0, x1⟩ := HC.out _ HK.out
      have HKA := Lib.hid (GA.out.trans HK.out (fun _ _ e => e))
      by_cases hlt : k < n
      · by_cases hlm : k < m
        · obtain ⟨u, hu⟩ : ∃ u, ids[k]? = some u := ⟨_, List.getElem?_eq_getElem (by have := HNX.out; omega)⟩
          obtain ⟨v, hv⟩ : ∃ v, jds[k]? = some v := ⟨_, List.getElem?_eq_getElem (by have := HMY.out; omega)⟩
          obtain ⟨b1, o1, rfl, _, hc1⟩ := (HX.out.kept HK.out).at_ hu
          obtain ⟨b2, o2, rfl, _, hc2⟩ := (HY.out.kept HK.out).at_ hv
          have q1 := hc1 0 _ rfl
          have q2 := hc2 0 _ rfl
          rw [Nat.mul_one, Nat.add_zero] at q1 q2
          have HU := Lib.hid hu
          have HV := Lib.hid hv
          clear hc1 hc2 hu hv
          by_cases e : u = v
          · subst e
            have HT2 := Lib.hid (take_more HT.out HU.out HV.out)
            go_wp2_with fail
            go_quiet (fail)
            go_wp2_with fail
            go_roundw
            case rel => exact ⟨k + 1, hlt, hlm, by go_num, HT2, HK.out.drewN _⟩
            case measure => simp [intOf]; omega
          · have HL : Hid (ltI ids jds = decide (u < v)) := Lib.hid (ltI_diff HT.out HU.out HV.out e)
            have hne : (u == v) = false := beq_eq_false_iff_ne.2 e
            clear e
            go_wp2_with fail
            go_quiet (fail)
            go_wp2_with fail
            go_quiet (fail)
            go_wp2_with fail
            go_ret
            exact ⟨ret_bool (HE.out.trans HL.out).symm, (HKA.out.drewN _).drewN _⟩
        · have e : k = m := by omega
          subst e
          have HL : Hid (ltI ids jds = false) := Lib.hid (ltI_right (by have := HMY.out; rw [this]; exact HT.out))
          go_wp2_with fail
          go_ret
          exact ⟨ret_bool (by rw [decide_eq_false (by omega)]; exact (HE.out.trans HL.out).symm), HKA.out⟩
      · have e : k = n := by omega
        subst e
        have h1 : ids.take ids.length = jds.take ids.length := by have := HNX.out; rw [this]; exact HT.out
        by_cases hl : k < m
        · have HL : Hid (ltI ids jds = true) := Lib.hid (ltI_left h1 (by have := HMY.out; have := HNX.out; omega))
          clear h1
          go_wp2_with fail
          go_ret
          exact ⟨ret_bool (HE.out.trans HL.out).symm, HKA.out⟩
        · have HL : Hid (ltI ids jds = false) := Lib.hid (by rw [eq_of_take h1 (by have := HMY.out; have := HNX.out; omega)]; exact ltI_irrefl _)
          have hkm2 : k = m := by omega
          clear h1
          go_wp2_with fail
          go_ret
          exact ⟨ret_bool (HE.out.trans HL.out).symm, HKA.out⟩
  · have HE : Hid (ltM (r, ids) (s, jds) = Op.bytesLess r.toList s.toList) := Lib.hid (by unfold ltM; rw [if_neg h])
    have hne : (r.toList == s.toList) = false := beq_eq_false_iff_ne.2 (fun e => h (toList_inj e))
    clear hB hB2 hs2 h
    go_enter Tryd.func19, Tryd.ntmps19
    go_wp2_with fail
    go_ret
    exact ⟨ret_bool HE.out.symm, GA.out⟩

theorem one_any {w : World} {x y : MC} (hx : Mok w x) (hy : Mok w y) :
    Calls Tryd.prog 32 #[vM x, vM y] w fun e w' => e = .returned (.bool (decide (x.val = y.val))) ∧ Kept Nil w w' := by
  have C1 : Hid (∀ W, Kept Nil w W → Calls Tryd.prog 19 #[vM x, vM y] W fun e w' => e = .returned (.bool (ltM x.val y.val)) ∧ Kept Nil W w') := Lib.hid fun W k => less_any (hx.kept k) (hy.kept k)
  have C2 : Hid (∀ W, Kept Nil w W → Calls Tryd.prog 19 #[vM y, vM x] W fun e w' => e = .returned (.bool (ltM y.val x.val)) ∧ Kept Nil W w') := Lib.hid fun W k => less_any (hy.kept k) (hx.kept k)
  have HE : Hid (decide (x.val = y.val) = (!ltM x.val y.val && !ltM y.val x.val)) := Lib.hid (by
    by_cases e : x.val = y.val
    · rw [decide_eq_true e, e, ltM_irrefl]; rfl
    · rw [decide_eq_false e]
      rcases ltM_total _ _ e with h | h
      · rw [h]; rfl
      · rw [h]; simp)
  generalize decide (x.val = y.val) = z at HE ⊢
  generalize ltM x.val y.val = u at HE C1
  generalize ltM y.val x.val = v at HE C2
  clear hx hy
  obtain ⟨r, ids, n, a, c⟩ := x
  obtain ⟨s, jds, m, b, d⟩ := y
  unfold vM at C1 C2
  have GA := Lib.hid (((Kept.refl Nil w).alloc (.cells #[.string r, .slice a n c] 39)).alloc (.cells #[.string s, .slice b m d] 39))
  have hB := (Blk.new w 39 #[.string r, .slice a n c]).alloc (.cells #[.string s, .slice b m d] 39)
  have hB2 := Blk.new (w.alloc (.cells #[.string r, .slice a n c] 39)) 39 #[.string s, .slice b m d]
  have hs2 : (w.alloc (.cells #[.string r, .slice a n c] 39)).heap.size = w.heap.size + 1 := by simp
  rw [hs2] at hB2
  have HB : Hid (∀ W, Kept Nil ((w.alloc (.cells #[.string r, .slice a n c] 39)).alloc (.cells #[.string s, .slice b m d] 39)) W → W.cell? ⟨w.heap.size, 0, none⟩ = some (.string r) ∧ W.cell? ⟨w.heap.size, 1, none⟩ = some (.slice a n c) ∧ W.cell? ⟨w.heap.size + 1, 0, none⟩ = some (.string s) ∧ W.cell? ⟨w.heap.size + 1, 1, none⟩ = some (.slice b m d)) := Lib.hid fun W k => ⟨(hB.kept k (fun e => e)).cell 0, (hB.kept k (fun e => e)).cell 1, (hB2.kept k (fun e => e)).cell 0, (hB2.kept k (fun e => e)).cell 1⟩
  clear hB hB2 hs2
  show Calls Tryd.prog 32 #[.agg #[.string r, .slice a n c], .agg #[.string s, .slice b m d]] w _
  go_enter Tryd.func32, Tryd.ntmps32
  go_wp2_with fail
  refine (C1.out _ GA.out).mono ?_
  rintro e w1 ⟨rfl, k1⟩
  obtain ⟨x0, x1, x2, x3⟩ := HB.out _ k1
  have K1 := Lib.hid (GA.out.trans k1 (fun _ _ e => e))
  clear k1
  cases u with
  | true =>
    go_wp2_with fail
    go_ret
    exact ⟨ret_bool HE.out.symm, K1.out⟩
  | false =>
    go_wp2_with fail
    refine (C2.out _ K1.out).mono ?_
    rintro e w2 ⟨rfl, k2⟩
    have K2 := Lib.hid (K1.out.trans k2 (fun _ _ e => e))
    clear k2
    go_wp2_with fail
    go_ret
    exact ⟨ret_bool HE.out.symm, K2.out⟩
theorem has_any {w : World} {a : Option Addr} {n c : Nat} {l : List MC} (h : Ms w a n l) (hn : n ≤ 5000) {m : MC} (hm : Mok w m) :
    Calls Tryd.prog 29 #[.slice a n c, vM m] w fun e w' => e = .returned (.bool (decide (m.val ∈ l.map MC.val))) ∧ Kept Nil w w' := by
  have HH := Lib.hid h
  have HL := Lib.hid h.row.1
  have CO : Hid (∀ x ∈ l, ∀ W, Kept Nil w W → Calls Tryd.prog 32 #[vM x, vM m] W fun e w' => e = .returned (.bool (decide (x.val = m.val))) ∧ Kept Nil W w') := Lib.hid fun x hx W k => one_any ((h.ok x hx).kept k) (hm.kept k)
  clear h hm
  generalize hv : m.val = v at CO ⊢
  clear hv
  obtain ⟨s, jds, mm, b, d⟩ := m
  unfold vM at CO
  have GA := Lib.hid ((Kept.refl Nil w).alloc (.cells #[.string s, .slice b mm d] 39))
  have HB : Hid (∀ W, Kept Nil (w.alloc (.cells #[.string s, .slice b mm d] 39)) W → W.cell? ⟨w.heap.size, 0, none⟩ = some (.string s) ∧ W.cell? ⟨w.heap.size, 1, none⟩ = some (.slice b mm d)) := Lib.hid fun W k => ⟨((Blk.new w 39 #[.string s, .slice b mm d]).kept k (fun e => e)).cell 0, ((Blk.new w 39 #[.string s, .slice b mm d]).kept k (fun e => e)).cell 1⟩
  show Calls Tryd.prog 29 #[.slice a n c, .agg #[.string s, .slice b mm d]] w _
  go_enter Tryd.func29, Tryd.ntmps29
  go_wp2_with fail
  generalize hW : w.alloc (.cells #[.string s, .slice b mm d] 39) = W at *
  clear hW
  go_loopw [6, 9] (fun _ i wr => ∃ j : Nat, j ≤ n ∧ i = .int .i64 j ∧ Hid (v ∉ (l.take j).map MC.val) ∧ Hid (Kept Nil W wr)) (fun _ i _ => n - (intOf i).toNat)
  case atStart => exact ⟨0, Nat.zero_le _, rfl, by show v ∉ _; simp, Kept.refl _ _⟩
  case round =>
    obtain ⟨j, hj, rfl, HT, HK⟩ := hrel
    by_cases hlt : j < n
    · obtain ⟨x, hx⟩ : ∃ x, l[j]? = some x := ⟨_, List.getElem?_eq_getElem (by have := HL.out; omega)⟩
      have HKG := Lib.hid (GA.out.trans HK.out (fun _ _ e => e))
      obtain ⟨g1, o1, rfl, _, hc1⟩ := (HH.out.row.kept HKG.out).at_ hx
      have q0 := hc1 0 _ rfl
      have q1 := hc1 1 _ rfl
      rw [Nat.add_zero] at q0
      have HX := Lib.hid hx
      have KA := Lib.hid (HK.out.alloc (.cells #[.string x.r, .slice x.a x.n x.c] 39))
      have KGA := Lib.hid (GA.out.trans KA.out (fun _ _ e => e))
      obtain ⟨y0, y1⟩ := HB.out _ KA.out
      have CC : Hid (∀ W, Kept Nil w W → Calls Tryd.prog 32 #[.agg #[.string x.r, .slice x.a x.n x.c], .agg #[.string s, .slice b mm d]] W fun e w' => e = .returned (.bool (decide (x.val = v))) ∧ Kept Nil W w') := Lib.hid (CO.out x (List.mem_of_getElem? hx))
      clear hc1 hx
      by_cases e : x.val = v
      · have HE : Hid (decide (v ∈ l.map MC.val) = true) := Lib.hid (decide_eq_true (List.mem_map.2 ⟨x, List.mem_of_getElem? HX.out, e⟩))
        rw [decide_eq_true e] at CC
        clear e
        go_wp2_with fail
        refine (CC.out _ KGA.out).mono ?_
        rintro e w2 ⟨rfl, k2⟩
        have K2 := Lib.hid (KGA.out.trans k2 (fun _ _ e => e))
        clear k2 q0 q1 y0 y1
        go_wp2_with fail
        go_ret
        exact ⟨ret_bool HE.out.symm, K2.out⟩
      · have HT2 : Hid (v ∉ (l.take (j + 1)).map MC.val) := Lib.hid (by
          rw [take_succ' HX.out, List.map_append, List.mem_append]
          rintro (h | h)
          · exact HT.out h
          · simp at h; exact e h.symm)
        rw [decide_eq_false e] at CC
        clear e
        go_wp2_with fail
        refine (CC.out _ KGA.out).mono ?_
        rintro e w2 ⟨rfl, k2⟩
        have K2 := Lib.hid (KA.out.trans k2 (fun _ _ e => e))
        clear k2 q0 q1 y0 y1
        go_wp2_with fail
        go_roundw
        case rel => exact ⟨j + 1, hlt, by go_num, HT2, K2⟩
        case measure => simp [intOf]; omega
    · have e : j = n := by omega
      subst e
      have HE : Hid (decide (v ∈ l.map MC.val) = false) := Lib.hid (decide_eq_false (by have := HT.out; rwa [List.take_of_length_le (by have := HL.out; omega)] at this))
      go_wp2_with fail
      go_ret
      exact ⟨ret_bool HE.out.symm, GA.out.trans HK.out (fun _ _ e => e)⟩
set_option maxHeartbeats 2000000 in
theorem refSame_any {w : World} {a b : Option Addr} {n m c d : Nat} {l k : List MC} (hl : Ms w a n l) (hk : Ms w b m k) (hn : n ≤ 5000) :
    Calls Tryd.prog 18 #[.slice a n c, .slice b m d] w fun e w' => e = .returned (.bool (decide (l.map MC.val = k.map MC.val))) ∧ Kept Nil w w' := by
  have HL := Lib.hid hl
  have HK := Lib.hid hk
  have HNL := Lib.hid hl.row.1
  have HMK := Lib.hid hk.row.1
  have CA : Hid (∀ x y, x ∈ l → y ∈ k → ∀ W, Kept Nil w W → Calls Tryd.prog 32 #[vM x, vM y] W fun e w' => e = .returned (.bool (decide (x.val = y.val))) ∧ Kept Nil W w') := Lib.hid fun x y hx hy W kW => one_any ((hl.ok x hx).kept kW) ((hk.ok y hy).kept kW)
  clear hl hk
  by_cases hnm : n = m
  · subst hnm
    go_enter Tryd.func18, Tryd.ntmps18
    go_wp2_with fail
    go_loopw [5, 13] (fun _ i wr => ∃ j : Nat, j ≤ n ∧ i = .int .i64 j ∧ Hid ((l.take j).map MC.val = (k.take j).map MC.val) ∧ Hid (Kept Nil w wr)) (fun _ i _ => n - (intOf i).toNat)
    case atStart => exact ⟨0, Nat.zero_le _, rfl, rfl, Kept.refl _ _⟩
    case round =>
      obtain ⟨j, hj, rfl, HT, HKW⟩ := hrel
      by_cases hlt : j < n
      · obtain ⟨x, hx⟩ : ∃ x, l[j]? = some x := ⟨_, List.getElem?_eq_getElem (by have := HNL.out; omega)⟩
        obtain ⟨y, hy⟩ : ∃ y, k[j]? = some y := ⟨_, List.getElem?_eq_getElem (by have := HMK.out; omega)⟩
        obtain ⟨g1, o1, rfl, _, hc1⟩ := (HL.out.row.kept HKW.out).at_ hx
        obtain ⟨g2, o2, rfl, _, hc2⟩ := (HK.out.row.kept HKW.out).at_ hy
        have HS' : Hid (∀ W, Kept Nil wr W → W.cell? ⟨g1, o1 + j * 2, none⟩ = some (.string x.r) ∧ W.cell? ⟨g1, o1 + j * 2 + 1, none⟩ = some (.slice x.a x.n x.c) ∧ W.cell? ⟨g2, o2 + j * 2, none⟩ = some (.string y.r) ∧ W.cell? ⟨g2, o2 + j * 2 + 1, none⟩ = some (.slice y.a y.n y.c)) := Lib.hid fun W kW => by
          obtain ⟨b1, p1, e1, _, d1⟩ := (HL.out.row.kept (HKW.out.trans kW (fun _ _ e => e))).at_ hx
          obtain ⟨b2, p2, e2, _, d2⟩ := (HK.out.row.kept (HKW.out.trans kW (fun _ _ e => e))).at_ hy
          cases e1; cases e2
          exact ⟨d1 0 _ rfl, d1 1 _ rfl, d2 0 _ rfl, d2 1 _ rfl⟩
        have CC : Hid (∀ W, Kept Nil wr W → Calls Tryd.prog 32 #[.agg #[.string x.r, .slice x.a x.n x.c], .agg #[.string y.r, .slice y.a y.n y.c]] W fun e w' => e = .returned (.bool (decide (x.val = y.val))) ∧ Kept Nil W w') := Lib.hid (fun W kW => CA.out x y (List.mem_of_getElem? hx) (List.mem_of_getElem? hy) W (HKW.out.trans kW (fun _ _ e => e)))
        have HX := Lib.hid hx
        have HY := Lib.hid hy
        obtain ⟨eb, heb⟩ : ∃ eb, decide (x.val = y.val) = eb := ⟨_, rfl⟩
        have HEB := Lib.hid heb
        rw [heb] at CC
        clear hc1 hc2 hx hy heb
        have inst : Nonempty (CW (Kept Nil wr)) := ⟨⟨_, Kept.refl Nil wr⟩⟩
        have hc0 : ∀ n : CW (Kept Nil wr), n.w.cell? ⟨g1, o1 + j * 2, none⟩ = some (.string x.r) := fun n => (HS'.out _ n.of).1
        have hc1 : ∀ n : CW (Kept Nil wr), n.w.cell? ⟨g1, o1 + j * 2 + 1, none⟩ = some (.slice x.a x.n x.c) := fun n => (HS'.out _ n.of).2.1
        have hc2 : ∀ n : CW (Kept Nil wr), n.w.cell? ⟨g2, o2 + j * 2, none⟩ = some (.string y.r) := fun n => (HS'.out _ n.of).2.2.1
        have hc3 : ∀ n : CW (Kept Nil wr), n.w.cell? ⟨g2, o2 + j * 2 + 1, none⟩ = some (.slice y.a y.n y.c) := fun n => (HS'.out _ n.of).2.2.2
        go_wp2_with fail
        refine wp_region_in (Kept Nil wr) (by kernel_rfl) (by kernel_rfl) ((Kept.refl Nil wr).drew) ?_
        repeat (go_big_quiet_step ((go_at_call 32; exact call_in (fun W W' h k => h.trans k (fun _ _ e => e)) (CC.out _ (CW.of _)))))
        refine wpQuiet_nil ?_
        rintro _ ⟨nn, rfl⟩
        have K2 := Lib.hid (HKW.out.trans nn.of (fun _ _ e => e))
        clear hc0 hc1 hc2 hc3
        cases eb with
        | true =>
          have HT2 : Hid ((l.take (j + 1)).map MC.val = (k.take (j + 1)).map MC.val) := Lib.hid (by rw [take_succ' HX.out, take_succ' HY.out, List.map_append, List.map_append, HT.out, List.map_singleton, List.map_singleton, of_decide_eq_true HEB.out])
          go_wp2_with fail
          go_roundw
          case rel => exact ⟨j + 1, hlt, by go_num, HT2, K2⟩
          case measure => simp [intOf]; omega
        | false =>
          have HE : Hid (decide (l.map MC.val = k.map MC.val) = false) := Lib.hid (decide_eq_false fun h => (of_decide_eq_false HEB.out) (by
            have := congrArg (fun z : List M => z[j]?) h
            simp only [List.getElem?_map, HX.out, HY.out] at this
            exact Option.some.inj this))
          go_wp2_with fail
          go_ret
          exact ⟨ret_bool HE.out.symm, K2.out⟩
      · have e : j = n := by omega
        subst e
        have HE : Hid (decide (l.map MC.val = k.map MC.val) = true) := Lib.hid (decide_eq_true (by
          have := HT.out
          rwa [List.take_of_length_le (by have := HNL.out; omega), List.take_of_length_le (by have := HMK.out; omega)] at this))
        go_wp2_with fail
        go_ret
        exact ⟨ret_bool HE.out.symm, HKW.out⟩
  · have HE : Hid (decide (l.map MC.val = k.map MC.val) = false) := Lib.hid (decide_eq_false fun h => hnm (by
      have := congrArg List.length h
      rw [List.length_map, List.length_map, HNL.out, HMK.out] at this; exact this))
    go_enter Tryd.func18, Tryd.ntmps18
    go_wp2_with fail
    go_ret
    exact ⟨ret_bool HE.out.symm, Kept.refl _ _⟩
theorem lawSame_any {w : World} {a b : Option Addr} {n m c d : Nat} {l k : List MC} (hl : Ms w a n l) (hk : Ms w b m k) (hn : n ≤ 4000) :
    Calls Tryd.prog 14 #[.slice a n c, .slice b m d] w fun e w' => e = .returned (.bool (decide (l.map MC.val = k.map MC.val))) ∧ Kept Nil w w' := by
  have CR := Lib.hid (refL_any (c := c) hl hn)
  have CE : Hid (∀ (W : World) a' c' l', Ms W a' n l' → Kept Nil w W → l'.map MC.val = l.map MC.val → Calls Tryd.prog 18 #[.slice a' n c', .slice b m d] W fun e w' => e = .returned (.bool (decide (l.map MC.val = k.map MC.val))) ∧ Kept Nil W w') := Lib.hid fun W a' c' l' h kW hv => by
    have := refSame_any (c := c') (d := d) h (hk.kept kW) (by omega)
    rw [hv] at this
    exact this
  clear hl hk
  go_enter Tryd.func14, Tryd.ntmps14
  go_wp2_with fail
  refine CR.out.mono ?_
  rintro e w1 ⟨a', c', l', rfl, h1, hv, k1⟩
  have C2 := Lib.hid (CE.out w1 a' c' l' h1 k1 hv)
  clear h1 hv
  go_wp2_with fail
  refine C2.out.mono ?_
  rintro e w2 ⟨rfl, k2⟩
  go_wp2_with fail
  go_ret
  exact ⟨rfl, k1.trans k2 (fun _ _ e => e)⟩
end Go.Proofs.YtkffcpjaciomjaaDoor
