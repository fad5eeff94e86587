/- Whatever the triples, WmIds returns true, and writes nothing that was there. -/
import Derived.Test.YtgnpclcoinndpaaWHad
import Derived.Test.YtgnpclcoinndpaaWOpen
namespace Go.Proofs.Ytgnpclcoinndpaa
open Go.RowKit Go.Maps
set_option maxRecDepth 100000

/-- What stands at the head of each round. -/
structure Ids (w wr : World) (p bm bh j last : Nat) (l : List F4) : Prop where
  mem : Mem wr w.heap.size p bm l last 60
  had : Had wr w.heap.size bh l last
  kept : Kept Nil w wr
  few : last ≤ j
theorem Ids.len {w wr : World} {p bm bh j last : Nat} {l : List F4} (h : Ids w wr p bm bh j last l) : l.length ≤ j := Nat.le_trans h.mem.len_le h.few

set_option maxHeartbeats 8000000 in
theorem wmIds_any (a : Option Addr) (n c : Nat) (l : List T3) (a2 : Option Addr) (n2 c2 : Nat) (gone : List Int) (w : World) (h : In cT 3 w a n l) (_ : ∀ x ∈ l, True) (hm : n ≤ maxLen) (h2 : In cB 1 w a2 n2 gone) (ho2 : ∀ x ∈ gone, 0 ≤ x ∧ x ≤ 255) (hm2 : n2 ≤ maxLen) :
    Calls Try.prog 5 #[.slice a n c, .slice a2 n2 c2] w fun e w' => e = .returned (.bool true) ∧ Kept Nil w w' := by
  have H := Lib.hid h
  have H2 := Lib.hid h2
  have HO2 := Lib.hid ho2
  have HA := Lib.hid (fun W => awake_any W)
  have hmm := @run_makeMap Try.prog
  unfold maxLen at hm hm2
  clear h h2 ho2
  by_cases hbig : 60 < n
  · have hd : decide (60 < (n : Int)) = true := decide_eq_true (by omega)
    go_enter Try.func5, Try.ntmps5
    go_wp2_with fail
    refine (new_good 60 (by decide) (by decide) w).mono ?_
    rintro e w1 ⟨p, bm, rfl, _, k1⟩
    have K1 := Lib.hid k1
    clear k1
    go_wp2_with fail
    refine (HA.out _).mono ?_
    rintro e w2 ⟨rfl, k2⟩
    have K2 := Lib.hid (K1.out.trans k2 (fun _ _ e => e))
    clear k2
    go_wp2_with fail
    go_ret
    exact ⟨rfl, K2.out⟩
  have hd : decide (60 < (n : Int)) = false := decide_eq_false (by omega)
  have hn : n ≤ 60 := by omega
  clear hbig hm
  go_enter Try.func5, Try.ntmps5
  go_wp2_with fail
  refine (new_good 60 (by decide) (by decide) w).mono ?_
  rintro e w1 ⟨p, bm, rfl, h1, k1⟩
  have HM1 := Lib.hid (h1.keptN ((Kept.refl Nil w1).alloc (.map #[] 0)))
  have HH1 := Lib.hid ((Had.new w1).down k1.size)
  have HK1 := Lib.hid (k1.alloc (.map #[] 0))
  have hnp : w1.heap.size ≠ p := by have := h1.lt; omega
  have hnb : w1.heap.size ≠ bm := by have := (h1.foot (.inr rfl)).2; omega
  clear h1 k1
  go_wp2_with fail
  generalize w1.alloc (.map #[] 0) = w2 at *
  generalize w1.heap.size = bh at *
  go_loopw [7, 49] (fun v i wr => ∃ (j last : Nat) (x : List F4), j ≤ n ∧ i = .int .i64 j ∧ v = .int .i64 last ∧ Ids w wr p bm bh j last x) (fun _ i _ => n - (intOf i).toNat)
  case atStart => exact ⟨0, 0, [], Nat.zero_le _, rfl, rfl, ⟨HM1.out, HH1.out, HK1.out, Nat.le_refl _⟩⟩
  case round =>
    clear HM1 HH1 HK1
    obtain ⟨j, last, x, hj, rfl, rfl, hI⟩ := hrel
    have HI := Lib.hid hI
    have hlast : last ≤ j := hI.few
    have hxl : x.length ≤ j := hI.len
    clear hI
    by_cases hlt : j < n
    · obtain ⟨t, ht⟩ : ∃ t, l[j]? = some t := ⟨l[j]'(by have := H.out.1; omega), by simp⟩
      obtain ⟨b, off, rfl, hb, hc⟩ := (H.out.kept HI.out.kept).at_ ht
      have x0 : wr.cell? ⟨b, off + j * 3, none⟩ = some (.int .i64 t.1) := by have := hc 0 _ rfl; simpa using this
      have x1 : wr.cell? ⟨b, off + j * 3 + 1, none⟩ = some (.int .i64 t.2.1) := by have := hc 1 _ rfl; simpa using this
      have x2 : wr.cell? ⟨b, off + j * 3 + 2, none⟩ = some (.int .i64 t.2.2) := by have := hc 2 _ rfl; simpa using this
      have k3 : Kept Nil wr (wr.alloc (.cells #[.int .i64 t.1, .int .i64 t.2.1, .int .i64 t.2.2] 33)) := (Kept.refl _ _).alloc _
      have HB3 := Lib.hid (Blk.new wr 33 #[.int .i64 t.1, .int .i64 t.2.1, .int .i64 t.2.2])
      have HM3 := Lib.hid (HI.out.mem.keptN k3)
      have HH3 := Lib.hid (HI.out.had.keptN k3)
      have HK3 := Lib.hid (HI.out.kept.trans k3 (fun _ _ e => e))
      have hbt : wr.heap.size ≠ bh := by have := HI.out.had.lt; omega
      clear hc hb ht k3 HI
      go_wp2_with fail
      clear x0 x1 x2
      generalize wr.alloc (.cells #[.int .i64 t.1, .int .i64 t.2.1, .int .i64 t.2.2] 33) = w3 at *
      generalize wr.heap.size = bt at *
      cases hok : okT t with
      | false =>
        refine (add_wrong hok _ _).mono ?_
        rintro e w4 ⟨rfl, k4⟩
        have HI4 : Hid (Ids w w4 p bm bh (j + 1) last x) := ⟨HM3.out.keptN k4, HH3.out.keptN k4, HK3.out.trans k4 (fun _ _ e => e), by omega⟩
        clear k4 HM3 HH3 HK3 HB3
        go_wp2_with fail
        go_roundw
        case rel => exact ⟨j + 1, last, x, hlt, by go_num, rfl, HI4.out⟩
        case measure => simp [intOf]; omega
      | true =>
        obtain ⟨L, hL⟩ : ∃ L, L = last + 1 := ⟨_, rfl⟩
        have hLi : (last : Int) + 1 = (L : Int) := by omega
        refine (add_good HM3.out (by omega) (by omega) hok).mono ?_
        rintro e w4 ⟨rfl, h4, k4⟩
        rw [hLi, ← hL] at h4
        rw [hLi]
        have hids := h4.ids
        have HM4 := Lib.hid h4
        have HH4 := Lib.hid (HH3.out.kept k4 (by rintro (e | e); exact hnp e; exact hnb e))
        have HK4 := Lib.hid (HM3.out.outer HK3.out k4)
        have B4 := HM3.out.stays HB3.out (by decide) k4
        obtain ⟨w5, r5, h5, k5⟩ := HH4.out.put (by omega) (k := (L : Int)) (wf_i64 (by omega)) (fun y hy => by have := (HM3.out.ids y hy).2; omega) t
        rw [← hL] at h5
        have HM5 := Lib.hid (HM4.out.kept k5 (by rintro k (rfl | rfl) e; exact hnp e.symm; exact hnb e.symm))
        have HH5 := Lib.hid h5
        have HK5 := Lib.hid (HK4.out.trans k5 (fun i hi e => by have := HH4.out.base; omega))
        have y0 := B4.cell 0
        have y1 := B4.cell 1
        have y2 := B4.cell 2
        have hll : last < L := by omega
        have hL1 : 1 ≤ L := by omega
        have hLj : L ≤ j + 1 := by omega
        have HNE : Hid (bh ≠ p ∧ bh ≠ bm) := ⟨hnp, hnb⟩
        clear h4 k4 h5 k5 B4 HM3 HH3 HK3 HB3 HM4 HH4 HK4 hids hLi hL hok hbt hlast hxl
        by_cases hg : j < n2
        · obtain ⟨q0, hq0⟩ : ∃ q, gone[j]? = some q := ⟨gone[j]'(by have := H2.out.1; omega), by simp⟩
          obtain ⟨b2, off2, rfl, hb2, hc2⟩ := (H2.out.kept HK5.out).at_ hq0
          obtain ⟨hq1, hq2⟩ := HO2.out q0 (List.mem_of_getElem? hq0)
          obtain ⟨q, rfl⟩ : ∃ q : Nat, q0 = (q : Int) := ⟨q0.toNat, by omega⟩
          have z0 : w5.cell? ⟨b2, off2 + j, none⟩ = some (.int .u8 q) := by have := hc2 0 _ rfl; simpa using this
          have hqw : IntKind.i64.wrap (q : Int) = (q : Int) := IntWalk.i64_in _ (by omega)
          clear hc2 hb2 hq0 hq1
          by_cases hev : q % 2 = 0
          · have hev1 : ((q : Int) % 2 == 0) = true := by rw [beq_iff_eq]; omega
            obtain ⟨k, hk⟩ : ∃ k, k = 1 + q % L := ⟨_, rfl⟩
            have hkL : k ≤ L := by have := Nat.mod_lt q hL1; omega
            have hk1 : 1 ≤ k := by omega
            have e4 : (1 : Int) + (q : Int) % (L : Int) = (k : Int) := by omega
            have hL0 : (L : Int) ≠ 0 := by omega
            clear hk
            obtain ⟨x5, hx5⟩ : ∃ x5, x5 = x ++ [((L : Int), t)] := ⟨_, rfl⟩
            rw [← hx5] at HM5 HH5
            clear hx5
            cases hs : look x5 (k : Int) with
            | none =>
              have hlook := HH5.out.miss (wf_i64 (a := (k : Int)) (by omega)) hs
              have k6 : Kept Nil w5 (w5.alloc (.cells #[.int .i64 0, .int .i64 0, .int .i64 0] 33)) := (Kept.refl _ _).alloc _
              have HM6 := Lib.hid (HM5.out.keptN k6)
              have HH6 := Lib.hid (HH5.out.keptN k6)
              have HK6 := Lib.hid (HK5.out.trans k6 (fun _ _ e => e))
              have HS := Lib.hid hs
              clear HM5 HH5 HK5 k6 hs
              go_wp2_with fail
              generalize w5.alloc (.cells #[.int .i64 0, .int .i64 0, .int .i64 0] 33) = w6 at *
              refine (remove_miss HM6.out (wf_i64 (a := (k : Int)) (by omega)) HS.out).mono ?_
              rintro e w7 ⟨rfl, k7⟩
              have HM7 := Lib.hid (show Mem w7 w.heap.size p bm (rid x5 (k : Int)) L 60 from by rw [rid_not HS.out]; exact HM6.out.keptN k7)
              have HH7 := Lib.hid (HH6.out.keptN k7)
              have HK7 := Lib.hid (HK6.out.trans k7 (fun _ _ e => e))
              have k8 : Kept Nil w7 (w7.alloc (.cells #[.int .i64 0, .int .i64 0, .int .i64 0] 33)) := (Kept.refl _ _).alloc _
              obtain ⟨w9, r9, h9, k9⟩ := (HH7.out.keptN k8).drop (wf_i64 (a := (k : Int)) (by omega))
              have HI9 : Hid (Ids w w9 p bm bh (j + 1) L (rid x5 (k : Int))) := ⟨(HM7.out.keptN k8).kept k9 (by rintro k (rfl | rfl) e; exact HNE.out.1 e.symm; exact HNE.out.2 e.symm), h9, (HK7.out.trans k8 (fun _ _ e => e)).trans k9 (fun i hi e => by have := HH7.out.base; omega), hLj⟩
              clear k7 k8 h9 k9 HM7 HH7 HK7 HM6 HH6 HK6 hlook
              go_wp2_with fail
              go_roundw
              case rel => exact ⟨j + 1, L, _, hlt, by go_num, rfl, HI9.out⟩
              case measure => simp [intOf]; omega
            | some s =>
              have hlook := HH5.out.hit (wf_i64 (a := (k : Int)) (by omega)) hs
              have k6 : Kept Nil w5 (w5.alloc (.cells #[.int .i64 s.1, .int .i64 s.2.1, .int .i64 s.2.2] 33)) := (Kept.refl _ _).alloc _
              have HM6 := Lib.hid (HM5.out.keptN k6)
              have HH6 := Lib.hid (HH5.out.keptN k6)
              have HK6 := Lib.hid (HK5.out.trans k6 (fun _ _ e => e))
              have HS := Lib.hid hs
              clear HM5 HH5 HK5 k6 hs
              go_wp2_with fail
              generalize w5.alloc (.cells #[.int .i64 s.1, .int .i64 s.2.1, .int .i64 s.2.2] 33) = w6 at *
              refine (remove_hit HM6.out (wf_i64 (a := (k : Int)) (by omega)) HS.out).mono ?_
              rintro e w7 ⟨rfl, h7, k7⟩
              have HM7 := Lib.hid h7
              have HH7 := Lib.hid (HH6.out.kept k7 (by rintro (e | e); exact HNE.out.1 e; exact HNE.out.2 e))
              have HK7 := Lib.hid (HM6.out.outer HK6.out k7)
              clear h7
              have k8 : Kept Nil w7 (w7.alloc (.cells #[.int .i64 s.1, .int .i64 s.2.1, .int .i64 s.2.2] 33)) := (Kept.refl _ _).alloc _
              obtain ⟨w9, r9, h9, k9⟩ := (HH7.out.keptN k8).drop (wf_i64 (a := (k : Int)) (by omega))
              have HI9 : Hid (Ids w w9 p bm bh (j + 1) L (rid x5 (k : Int))) := ⟨(HM7.out.keptN k8).kept k9 (by rintro k (rfl | rfl) e; exact HNE.out.1 e.symm; exact HNE.out.2 e.symm), h9, (HK7.out.trans k8 (fun _ _ e => e)).trans k9 (fun i hi e => by have := HH7.out.base; omega), hLj⟩
              clear k7 k8 h9 k9 HM7 HH7 HK7 HM6 HH6 HK6 hlook
              go_wp2_with fail
              go_roundw
              case rel => exact ⟨j + 1, L, _, hlt, by go_num, rfl, HI9.out⟩
              case measure => simp [intOf]; omega
          · have hev1 : ((q : Int) % 2 == 0) = false := by rw [beq_eq_false_iff_ne]; omega
            have HI5 : Hid (Ids w w5 p bm bh (j + 1) L (x ++ [((L : Int), t)])) := ⟨HM5.out, HH5.out, HK5.out, hLj⟩
            clear HM5 HH5 HK5
            go_wp2_with fail
            go_roundw
            case rel => exact ⟨j + 1, L, _, hlt, by go_num, rfl, HI5.out⟩
            case measure => simp [intOf]; omega
        · have HI5 : Hid (Ids w w5 p bm bh (j + 1) L (x ++ [((L : Int), t)])) := ⟨HM5.out, HH5.out, HK5.out, hLj⟩
          clear HM5 HH5 HK5
          go_wp2_with fail
          go_roundw
          case rel => exact ⟨j + 1, L, _, hlt, by go_num, rfl, HI5.out⟩
          case measure => simp [intOf]; omega
    · have hwf : ∀ y ∈ x, (Lit.int .i64 y.1).wf = true := fun y hy => by
        have := HI.out.mem.ids y hy
        exact wf_i64 (by omega)
      have HW := Lib.hid hwf
      have HR := Lib.hid HI.out.mem.rise
      clear hwf
      go_wp2_with fail
      refine (all_any HI.out.mem).mono ?_
      rintro e w2 ⟨a3, c3, rfl, hin, k2⟩
      have HIn := Lib.hid hin
      have HM2 := Lib.hid (HI.out.mem.keptN k2)
      have HH2 := Lib.hid (HI.out.had.keptN k2)
      have HK2 := Lib.hid (HI.out.kept.trans k2 (fun _ _ e => e))
      obtain ⟨q, hq⟩ : ∃ q, q = x.length := ⟨_, rfl⟩
      have HQ := Lib.hid hq
      rw [← hq] at HIn hxl ⊢
      clear hin k2 HI hq
      go_wp2_with fail
      go_loopw [111] (fun i wr' => ∃ t : Nat, t ≤ q ∧ i = .int .i64 t ∧ Kept Nil w2 wr') (fun i _ => q - (intOf i).toNat)
      case atStart => exact ⟨0, Nat.zero_le _, rfl, Kept.refl _ _⟩
      case round =>
        obtain ⟨t, ht, rfl, hk⟩ := hrel
        rename World => w3
        have HK3 := Lib.hid hk
        clear hk
        by_cases htq : t < q
        · obtain ⟨y, hy⟩ : ∃ y, x[t]? = some y := ⟨x[t]'(by have := HQ.out; omega), by simp⟩
          obtain ⟨b, off, rfl, hb, hc⟩ := (HIn.out.kept HK3.out).at_ hy
          have x0 : w3.cell? ⟨b, off + t * 4, none⟩ = some (.int .i64 y.1) := by have := hc 0 _ rfl; simpa using this
          have x1 : w3.cell? ⟨b, off + t * 4 + 1, none⟩ = some (.int .i64 y.2.1) := by have := hc 1 _ rfl; simpa using this
          have x2 : w3.cell? ⟨b, off + t * 4 + 2, none⟩ = some (.int .i64 y.2.2.1) := by have := hc 2 _ rfl; simpa using this
          have x3 : w3.cell? ⟨b, off + t * 4 + 3, none⟩ = some (.int .i64 y.2.2.2) := by have := hc 3 _ rfl; simpa using this
          have hym := List.mem_of_getElem? hy
          have k4 : Kept Nil w3 (w3.alloc (.cells #[.int .i64 y.1, .int .i64 y.2.1, .int .i64 y.2.2.1, .int .i64 y.2.2.2] 60)) := (Kept.refl _ _).alloc _
          have hlook := ((HH2.out.keptN HK3.out).keptN k4).hit (HW.out y hym) (look_of_mem HR.out hym)
          have K4 := Lib.hid ((HK3.out.trans k4 (fun _ _ e => e)).trans ((Kept.refl Nil _).alloc (.cells #[.int .i64 y.2.1, .int .i64 y.2.2.1, .int .i64 y.2.2.2] 33)) (fun _ _ e => e))
          have heq := fun W : World => eqT_at Try.underlying33 y.2 y.2 W
          simp only [decide_true] at heq
          clear hc hb hy hym k4
          go_wp2_with fail
          go_roundw
          case rel => exact ⟨t + 1, htq, by go_num, K4.out⟩
          case measure => simp [intOf]; omega
        · have HM4 := Lib.hid (HM2.out.keptN HK3.out)
          have HH4 := Lib.hid (HH2.out.keptN HK3.out)
          have HK4 := Lib.hid (HK2.out.trans HK3.out (fun _ _ e => e))
          clear HM2 HH2 HK2 HK3
          go_wp2_with fail
          refine (all_any HM4.out).mono ?_
          rintro e w5 ⟨a5, c5, rfl, _, k5⟩
          rw [← HQ.out]
          have HM5 := Lib.hid (HM4.out.keptN k5)
          have HK5 := Lib.hid (HK4.out.trans k5 (fun _ _ e => e))
          have hl5 := fun ty => (HH4.out.keptN k5).count ty
          rw [← HQ.out] at hl5
          clear k5 HM4 HH4 HK4
          go_wp2_with fail
          refine (last_any HM5.out).mono ?_
          rintro e w6 ⟨rfl, rfl⟩
          go_wp2_with fail
          refine (HA.out _).mono ?_
          rintro e w7 ⟨rfl, k7⟩
          have K7 := Lib.hid (HK5.out.trans k7 (fun _ _ e => e))
          clear k7
          go_wp2_with fail
          go_ret
          exact ⟨rfl, K7.out⟩
end Go.Proofs.Ytgnpclcoinndpaa
