/- Layer block: the law BlockSums, whatever it is called with. -/
import Derived.Test.YtodghgeghpbdlaaBAwake
import Derived.Test.YtodghgeghpbdlaaBpR
import Derived.Test.YtodghgeghpbdlaaBOpen
import Derived.Deep.CutBlock
import Derived.Deep.DeepCutAuto
namespace Go.Proofs.Ytodghgeghpbdlaa
open Go.RowKit Go.Maps Go.WideMaps
set_option maxRecDepth 100000

/-- All owners' blockers together. -/
def sumB (R : List ByteArray) (Ps : List (ByteArray × Int)) : Nat := (R.map (fun k => (bls Ps k).length)).sum
theorem sumB_all : ∀ {R : List ByteArray} {Ps : List (ByteArray × Int)}, R.Nodup → (∀ x ∈ Ps, x.1 ∈ R) → sumB R Ps = Ps.length
  | [], Ps, _, hs => by
    have : Ps = [] := List.eq_nil_iff_forall_not_mem.2 (fun x hx => by have := hs x hx; simp at this)
    subst this; rfl
  | k :: r, Ps, hn, hs => by
    obtain ⟨h1, h2⟩ := List.nodup_cons.1 hn
    have ih := sumB_all (R := r) (Ps := outP k Ps) h2 (fun x hx => by
      have := mem_outP.1 hx
      exact (List.mem_cons.1 (hs x this.1)).resolve_left this.2)
    have hl := outP_length k Ps
    have e : sumB r (outP k Ps) = sumB r Ps := by
      unfold sumB
      congr 1
      exact List.map_congr_left (fun y hy => by
        have hne : y ≠ k := fun e => h1 (by rw [← e]; exact hy)
        rw [bls_out _ _ _ hne])
    have e2 : sumB (k :: r) Ps = (bls Ps k).length + sumB r Ps := by simp [sumB]
    rw [e2, ← e, ih]
    omega
theorem sumB_snoc {R : List ByteArray} {Ps : List (ByteArray × Int)} {j : Nat} {k : ByteArray} (h : R[j]? = some k) : sumB (R.take (j + 1)) Ps = sumB (R.take j) Ps + (bls Ps k).length := by
  unfold sumB
  rw [List.take_add_one, h, List.map_append, List.sum_append]
  simp
theorem sumB_le {R : List ByteArray} {Ps : List (ByteArray × Int)} {B pb n : Nat} {w : World} {s : SP} (h : BSP w B pb R Ps n s) (j : Nat) : sumB (R.take j) Ps ≤ Ps.length := by
  have h1 := sumB_all h.nodup h.sub
  have h2 : sumB R Ps = sumB (R.take j) Ps + sumB (R.drop j) Ps := by
    unfold sumB
    rw [← List.sum_append, ← List.map_append, List.take_append_drop]
  omega
/-- The law's calls' state. -/
structure LB (w W : World) (pb : Nat) (R : List ByteArray) (Ps : List (ByteArray × Int)) (n : Nat) : Prop where
  bt : BTP W w.heap.size pb R Ps n
  k : Kept Nil w W
theorem LB.keptN {w W W' : World} {pb n : Nat} {R : List ByteArray} {Ps : List (ByteArray × Int)} (h : LB w W pb R Ps n) (k : Kept Nil W W') : LB w W' pb R Ps n := ⟨h.bt.keptN k, h.k.trans k (fun _ _ e => e)⟩
theorem LB.call {w W W' : World} {pb n n' : Nat} {R R' : List ByteArray} {Ps Ps' : List (ByteArray × Int)} (h : LB w W pb R Ps n) (g : GBP W W' w.heap.size pb R' Ps' n') : LB w W' pb R' Ps' n' := ⟨g.1, FBP.fresh h.k g.2⟩
theorem LB.more {w W : World} {pb n n' : Nat} {R : List ByteArray} {Ps : List (ByteArray × Int)} (h : LB w W pb R Ps n) (hn : n ≤ n') : LB w W pb R Ps n' := ⟨h.bt.more hn, h.k⟩
theorem R_le {w : World} {B pb n : Nat} {R : List ByteArray} {Ps : List (ByteArray × Int)} (h : BTP w B pb R Ps n) : R.length ≤ n ∧ Ps.length ≤ n := by
  obtain ⟨s, h⟩ := h
  have h1 := congrArg List.length h.rowR
  have h2 := row_le_p h.lst
  have := h.lv
  simp at h1
  exact ⟨by omega, h.lp⟩
def cOa (kd : Int) (k : ByteArray) (v : Int) : Array Value := #[.int .i64 kd, .string k, .int .i64 v]
set_option maxHeartbeats 8000000 in
theorem blockSums_any (a : Option Addr) (n cap : Nat) (l : List (Int × ByteArray × Int)) (w : World) (hl : In cO 3 w a n l) (hok : ∀ x ∈ l, KS.ok x.2.1 ∧ KI.ok x.2.2) (hmx : n ≤ maxLen) :
    Calls Try.prog 8 #[.slice a n cap] w fun e w' => e = .returned (.bool true) ∧ Kept Nil w w' := by
  have HL := Lib.hid hl
  have HOK := Lib.hid hok
  have HA := Lib.hid awake_any
  have hmx' : n ≤ 9223372036854775807 := Nat.le_trans hmx (by unfold maxLen; decide)
  clear hl hok hmx
  go_enter Try.func8, Try.ntmps8
  go_wp2_with fail
  refine (newB_p w).mono ?_
  rintro e w1 ⟨pb, rfl, h1, k1, _⟩
  have H1 := Lib.hid (show LB w w1 pb [] [] 0 from ⟨h1, k1⟩)
  clear h1 k1
  by_cases hn : n ≤ 100
  rotate_left
  · have e1 : decide ((100 : Int) < (n : Int)) = true := by simp; omega
    clear hn
    go_wp2_with fail
    refine (HA.out _).mono ?_
    rintro e w3 ⟨rfl, k3⟩
    go_wp2_with fail
    go_ret
    exact ⟨rfl, H1.out.k.trans k3 (fun _ _ e => e)⟩
  have e1 : decide ((100 : Int) < (n : Int)) = false := by simp; omega
  go_wp2_with fail
  go_loopw [26] (fun i wr => ∃ (j : Nat) (R : List ByteArray) (Ps : List (ByteArray × Int)), j ≤ n ∧ i = .int .i64 j ∧ LB w wr pb R Ps j) (fun i _ => n - (intOf i).toNat)
  case atStart => exact ⟨0, [], [], Nat.zero_le _, rfl, H1.out⟩
  case round =>
    obtain ⟨j, R, Ps, hj, rfl, hI⟩ := hrel
    have HI := Lib.hid hI
    clear hI
    by_cases hlt : j < n
    · obtain ⟨⟨kd, k, v⟩, hx⟩ : ∃ x, l[j]? = some x := ⟨_, List.getElem?_eq_getElem (by have := HL.out.1; omega)⟩
      obtain ⟨b, off, rfl, hb, hc⟩ := (HL.out.kept HI.out.k).at_ hx
      have HO := Lib.hid (HOK.out _ (List.mem_of_getElem? hx))
      have p0 := hc 0 _ rfl
      have p1 := hc 1 _ rfl
      have p2 := hc 2 _ rfl
      rw [Nat.add_zero] at p0
      simp only at p0 p1 p2
      clear hx hc
      have HKa := Lib.hid ((Kept.refl Nil wr).alloc (.cells (cOa kd k v) 67))
      have HBx := Lib.hid (Blk.new wr 67 (cOa kd k v))
      have HI5 := Lib.hid (HI.out.keptN HKa.out)
      go_upto_region 7 with fail
      show Code.wp _ _ _ _ (wr.alloc (.cells (cOa kd k v) 67))
      generalize wr.alloc (.cells (cOa kd k v) 67) = w5 at *
      generalize wr.heap.size = b5 at *
      have c0 := HBx.out.cell 0
      have c1 := HBx.out.cell 1
      have c2 := HBx.out.cell 2
      simp only [cOa, List.getElem?_toArray, List.getElem?_cons_zero, List.getElem?_cons_succ] at c0 c1 c2
      clear p0 p1 p2 hb
      obtain ⟨okk, okv⟩ := HO.out
      simp only at okk okv
      go_upto_block 2 with fail
      go_cut [] from 32 to 59 (fun wx => ∃ (R' : List ByteArray) (Ps' : List (ByteArray × Int)), LB w wx pb R' Ps' (j + 1) ∧ Blk wx b5 67 (cOa kd k v))
      case first =>
        have away : ∀ {W W' : World}, Blk W b5 67 (cOa kd k v) → Kept (FBP W w.heap.size) W W' → Blk W' b5 67 (cOa kd k v) := fun hb kk => hb.kept kk (FBP.other hb (by decide) (by decide) (by decide))
        have HAw := Lib.hid (fun W W' => @away W W')
        clear away
        by_cases q1 : kd = 1
        · subst q1
          have C1 := Lib.hid (open_p HI5.out.bt (by omega) HI5.out.k.size okk)
          clear okk okv
          go_wp2_with fail
          refine C1.out.mono ?_
          rintro e w6 ⟨rfl, g⟩
          have HG := Lib.hid (And.intro (HI5.out.call g) (HAw.out _ _ HBx.out g.2))
          clear g C1
          go_wp2_with fail
          go_meet
          exact ⟨_, _, HG.out⟩
        have n1 : (kd == 1) = false := beq_eq_false_iff_ne.2 q1
        by_cases q2 : kd = 2
        · subst q2
          have C1 := Lib.hid (close_p HI5.out.bt (by omega) okk)
          clear okk okv
          go_wp2_with fail
          refine C1.out.mono ?_
          rintro e w6 ⟨rfl, g⟩
          have HG := Lib.hid (And.intro ((HI5.out.call g).more (Nat.le_succ j)) (HAw.out _ _ HBx.out g.2))
          clear g C1
          go_wp2_with fail
          go_meet
          exact ⟨_, _, HG.out⟩
        have n2 : (kd == 2) = false := beq_eq_false_iff_ne.2 q2
        by_cases q3 : kd = 3
        · subst q3
          have C1 := Lib.hid (block_p HI5.out.bt (by omega) okk okv)
          clear okk okv
          go_wp2_with fail
          refine C1.out.mono ?_
          rintro e w6 ⟨rfl, g⟩
          have HG := Lib.hid (And.intro (HI5.out.call g) (HAw.out _ _ HBx.out g.2))
          clear g C1
          go_wp2_with fail
          go_meet
          exact ⟨_, _, HG.out⟩
        have n3 : (kd == 3) = false := beq_eq_false_iff_ne.2 q3
        by_cases q4 : kd = 4
        · subst q4
          have C1 := Lib.hid (free_p HI5.out.bt (by omega) okk okv)
          clear okk okv
          go_wp2_with fail
          refine C1.out.mono ?_
          rintro e w6 ⟨rfl, g⟩
          have HG := Lib.hid (And.intro ((HI5.out.call g).more (Nat.le_succ j)) (HAw.out _ _ HBx.out g.2))
          clear g C1
          go_wp2_with fail
          go_meet
          exact ⟨_, _, HG.out⟩
        have n4 : (kd == 4) = false := beq_eq_false_iff_ne.2 q4
        clear okk okv
        go_wp2_with fail
        go_meet
        exact ⟨_, _, HI5.out.more (Nat.le_succ j), HBx.out⟩
      case rest =>
        obtain ⟨R', Ps', hI6, hB6⟩ := hcut
        have HI6 := Lib.hid hI6
        have HB6 := Lib.hid hB6
        clear hI6 hB6 HI5 HBx c0 c1 c2 HI HKa
        have CO := Lib.hid (owners_p HI6.out.bt (by omega))
        have HRL := Lib.hid (R_le HI6.out.bt)
        obtain ⟨m, hm⟩ : ∃ m, R'.length = m := ⟨_, rfl⟩
        have HM := Lib.hid hm
        simp only [hm] at CO
        clear hm
        go_wp2_with fail
        refine CO.out.mono ?_
        rintro e w7 ⟨a7, cp7, rfl, h7, k7, hc7, _⟩
        have HIn := Lib.hid h7
        have HI7 := Lib.hid (HI6.out.keptN k7)
        have HB7 := Lib.hid (HB6.out.kept k7 (fun e => e))
        have hm101 : m ≤ 101 := by have := HRL.out; have := HM.out; omega
        clear h7 k7 hc7 CO
        go_wp2_with fail
        go_loopw [6, 63] (fun sm i wr => ∃ i' : Nat, i' ≤ m ∧ i = .int .i64 i' ∧ sm = .int .i64 (sumB (R'.take i') Ps' : Nat) ∧ Kept Nil w7 wr) (fun _ i _ => m - (intOf i).toNat)
        case atStart => exact ⟨0, Nat.zero_le _, rfl, rfl, Kept.refl _ _⟩
        case round =>
          rename World => wo
          obtain ⟨i', hi', rfl, rfl, hk⟩ := hrel
          have HK := Lib.hid hk
          obtain ⟨s, hs⟩ := HI7.out.bt
          have HSl := Lib.hid (sumB_le hs i')
          have HS := Lib.hid hs
          clear hk hs
          by_cases hil : i' < m
          · obtain ⟨x, hx⟩ : ∃ x, R'[i']? = some x := ⟨_, List.getElem?_eq_getElem (by have := HM.out; omega)⟩
            obtain ⟨b, off, rfl, hb, hc⟩ := (HIn.out.kept HK.out).at_ hx
            have p0 := hc 0 _ rfl
            rw [Nat.add_zero] at p0
            simp only [Nat.mul_one] at p0
            have CC := Lib.hid (count_p ((HI7.out.keptN HK.out).bt) (by omega) (HS.out.okK (List.mem_of_getElem? hx)))
            have HSn := Lib.hid (sumB_snoc (Ps := Ps') hx)
            have HSl2 := Lib.hid (sumB_le HS.out (i' + 1))
            have hpl : Ps'.length ≤ j + 1 := HRL.out.2
            obtain ⟨L, hL⟩ : ∃ L, (bls Ps' x).length = L := ⟨_, rfl⟩
            simp only [hL] at CC HSn
            have hb1 := HSl.out
            have hb2 := HSl2.out
            rw [HSn.out] at hb2
            generalize sumB (R'.take i') Ps' = S0 at *
            generalize Ps'.length = PL at *
            clear hx hc hL HSl HSl2
            go_wp2_with fail
            refine CC.out.mono ?_
            rintro e w8 ⟨rfl, k8⟩
            have K8 := Lib.hid (HK.out.trans k8 (fun _ _ e => e))
            clear k8 CC p0
            go_wp2_with fail
            go_roundw
            case rel => exact ⟨i' + 1, by omega, by go_num, by rw [HSn.out]; go_num, K8.out⟩
            case measure => simp [intOf]; omega
          · obtain rfl : i' = m := by omega
            have hsum : sumB (R'.take i') Ps' = Ps'.length := by
              rw [List.take_of_length_le (by have := HM.out; omega)]
              exact sumB_all HS.out.nodup HS.out.sub
            rw [hsum]
            have HI8 := Lib.hid (HI7.out.keptN HK.out)
            have HB8 := Lib.hid (HB7.out.kept HK.out (fun e => e))
            have CP := Lib.hid (pairs_p HI8.out.bt)
            have CO := Lib.hid (owners_p HI8.out.bt (by omega))
            have CN := Lib.hid (len_p HI8.out.bt)
            have hPL := HRL.out.2
            simp only [HM.out] at CO CN
            obtain ⟨PL, hpl⟩ : ∃ PL, Ps'.length = PL := ⟨_, rfl⟩
            simp only [hpl] at CP hPL ⊢
            clear hsum hil HSl hpl
            go_wp2_with fail
            refine CP.out.mono ?_
            rintro e w8 ⟨rfl, rfl⟩
            go_wp2_with fail
            refine CO.out.mono ?_
            rintro e w9 ⟨a9, cp9, rfl, _, k9, _, _⟩
            have HI9 := Lib.hid (HI8.out.keptN k9)
            have HB9 := Lib.hid (HB8.out.kept k9 (fun e => e))
            have CN9 := Lib.hid (len_p HI9.out.bt)
            simp only [HM.out] at CN9
            clear k9 CN CO CP
            go_wp2_with fail
            refine CN9.out.mono ?_
            rintro e w10 ⟨rfl, rfl⟩
            have d2 := HB9.out.cell 2
            simp only [cOa, List.getElem?_toArray, List.getElem?_cons_zero, List.getElem?_cons_succ] at d2
            have CB := Lib.hid (by_p HI9.out.bt (by omega) okv)
            have HBm := Lib.hid (fun x (hx : x ∈ byP R' Ps' v) => List.mem_filter.1 hx)
            obtain ⟨q, hq⟩ : ∃ q, (byP R' Ps' v).length = q := ⟨_, rfl⟩
            have HQ := Lib.hid hq
            simp only [hq] at CB
            have hq101 : q ≤ 101 := by
              have h1 : (byP R' Ps' v).length ≤ R'.length := List.length_filter_le _ _
              have := HM.out
              omega
            clear hq CN9
            go_wp2_with fail
            refine CB.out.mono ?_
            rintro e w11 ⟨a11, cp11, rfl, h11, k11, _, _⟩
            have HIn11 := Lib.hid h11
            have HI11 := Lib.hid (HI9.out.keptN k11)
            clear h11 k11 CB d2 HB9 HB8
            go_wp2_with fail
            go_loopw [90] (fun i wr => ∃ i2 : Nat, i2 ≤ q ∧ i = .int .i64 i2 ∧ Kept Nil w11 wr) (fun i _ => q - (intOf i).toNat)
            case atStart => exact ⟨0, Nat.zero_le _, rfl, Kept.refl _ _⟩
            case round =>
              obtain ⟨i2, hi2, rfl, hk2⟩ := hrel
              have HK2 := Lib.hid hk2
              clear hk2
              by_cases hil2 : i2 < q
              · obtain ⟨x, hx⟩ : ∃ x, (byP R' Ps' v)[i2]? = some x := ⟨_, List.getElem?_eq_getElem (by have := HQ.out; omega)⟩
                obtain ⟨b, off, rfl, hb, hc⟩ := (HIn11.out.kept HK2.out).at_ hx
                have p0 := hc 0 _ rfl
                rw [Nat.add_zero] at p0
                simp only [Nat.mul_one] at p0
                obtain ⟨hxR, hxv⟩ := HBm.out x (List.mem_of_getElem? hx)
                have hxv := isIn_iff.1 hxv
                have okx := HS.out.okK hxR
                have CI := Lib.hid (is_p ((HI11.out.keptN HK2.out).bt) (by omega) okx)
                rw [isIn_t hxR] at CI
                have CC := Lib.hid (fun W (kW : Kept Nil w11 W) => count_p ((HI11.out.keptN kW).bt) (by omega) okx)
                have hL1 : 1 ≤ (bls Ps' x).length := List.length_pos_of_mem (mem_bls.2 hxv)
                have hL2 : (bls Ps' x).length ≤ 101 := by have := bls_le Ps' x; have := HRL.out.2; omega
                obtain ⟨L, hL⟩ : ∃ L, (bls Ps' x).length = L := ⟨_, rfl⟩
                simp only [hL] at CC hL1 hL2
                have hlt1 : decide ((L : Int) < 1) = false := decide_eq_false (by omega)
                clear hx hc hxR hxv okx hL
                go_wp2_with fail
                refine CI.out.mono ?_
                rintro e w12 ⟨rfl, k12⟩
                have K12 := Lib.hid (HK2.out.trans k12 (fun _ _ e => e))
                clear k12 p0
                go_wp2_with fail
                refine (CC.out _ K12.out).mono ?_
                rintro e w13 ⟨rfl, k13⟩
                have K13 := Lib.hid (K12.out.trans k13 (fun _ _ e => e))
                clear k13
                go_wp2_with fail
                go_roundw
                case rel => exact ⟨i2 + 1, by omega, by go_num, K13.out⟩
                case measure => simp [intOf]; omega
              · obtain rfl : i2 = q := by omega
                have HI12 := Lib.hid (HI11.out.keptN HK2.out)
                go_wp2_with fail
                go_roundw
                case rel => exact ⟨j + 1, R', Ps', by omega, by go_num, HI12.out⟩
                case measure => simp [intOf]; omega
    · obtain rfl : j = n := by omega
      go_wp2_with fail
      refine (HA.out _).mono ?_
      rintro e w3 ⟨rfl, k3⟩
      go_wp2_with fail
      go_ret
      exact ⟨rfl, HI.out.k.trans k3 (fun _ _ e => e)⟩
end Go.Proofs.Ytodghgeghpbdlaa
