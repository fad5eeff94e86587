/- PlainMore: the walk over the law's own code. -/
import Derived.Test.YtmpoeibkndcnnaaA15
import Derived.Test.YtmpoeibkndcnnaaA16
import Derived.Test.YtmpoeibkndcnnaaBYJoinM
import Derived.Test.YtmpoeibkndcnnaaA8
import Derived.Test.YtmpoeibkndcnnaaA14
import Derived.Test.YtmpoeibkndcnnaaBYTake
import Derived.Deep.CutBlock
import Derived.Deep.DeepCutAuto
namespace Go.Proofs.Ytmpoeibkndcnnaa
open Go.RowKit
set_option maxRecDepth 100000

theorem factsM_idM {ts : List T3} {q : Nat} {f : F4} (h : (factsM 1 ts)[q]? = some f) : f.1 = 1 + (q : Int) := by
  have hlt := (List.getElem?_eq_some_iff.1 h).1
  rw [factsM_len] at hlt
  have := factsM_get (d := 1) (List.getElem?_eq_getElem hlt)
  rw [h] at this
  injection this with this
  rw [this]; simp
theorem In_takeM {w : World} {fa : Option Addr} {n m : Nat} {fs : List F4} (h : In cF 4 w fa n fs) (hm : m ≤ n) : In cF 4 w fa m (fs.take m) := by
  refine ⟨by rw [List.length_take, h.1]; omega, ?_⟩
  rcases h.2 with e | ⟨b, off, e, hb, hc⟩
  · exact .inl (by omega)
  · refine .inr ⟨b, off, e, hb, fun j x i v hj => hc j x i v ?_⟩
    rw [List.getElem?_take] at hj
    split at hj
    · exact hj
    · cases hj
theorem filter_walk {α : Type} (p : α → Bool) (M1 M2 : List α) (h : M1.filter p = M2) : ∃ cnt : Nat → Nat, cnt 0 = 0 ∧ (∀ q y, M1[q]? = some y → p y = false → cnt (q + 1) = cnt q) ∧ (∀ q y, M1[q]? = some y → p y = true → cnt (q + 1) = cnt q + 1 ∧ M2[cnt q]? = some y) ∧ cnt M1.length = M2.length := by
  refine ⟨fun q => ((M1.take q).filter p).length, by simp, fun q y hy hp => ?_, fun q y hy hp => ?_, by show ((M1.take M1.length).filter p).length = _; rw [List.take_length, h]⟩
  · show ((M1.take (q + 1)).filter p).length = _
    rw [List.take_add_one, hy, List.filter_append]
    simp [hp]
  · refine ⟨?_, ?_⟩
    · show ((M1.take (q + 1)).filter p).length = _
      rw [List.take_add_one, hy, List.filter_append]
      simp [hp]
    · have hlt := (List.getElem?_eq_some_iff.1 hy).1
      have e : M2 = (M1.take q).filter p ++ (y :: (M1.drop (q + 1)).filter p) := by
        rw [← h]
        have e1 : M1.drop q = y :: M1.drop (q + 1) := by
          rw [List.drop_eq_getElem_cons hlt]
          congr 1
          exact (List.getElem?_eq_some_iff.1 hy).2
        conv => lhs; rw [← List.take_append_drop q M1, List.filter_append, e1, List.filter_cons_of_pos hp]
      rw [e, List.getElem?_append_right (Nat.le_refl _), Nat.sub_self]
      rfl
theorem contains_take {y : List Int} {r : Nat} {z v : Int} (hz : y[r]? = some z) : (y.take (r + 1)).contains v = ((y.take r).contains v || (z == v)) := by
  rw [List.take_add_one, hz, Bool.eq_iff_iff]
  rw [List.contains_iff_mem, Bool.or_eq_true, List.contains_iff_mem, List.mem_append, beq_iff_eq]
  show _ ∨ v ∈ [z] ↔ _
  rw [List.mem_singleton]
  exact or_congr Iff.rfl ⟨Eq.symm, Eq.symm⟩
theorem lin_oneM {w : World} {b n1 c1 : Nat} {a1 : Option Addr} {y : List Int} {t : TypeId} (B : Blk w b t #[.slice a1 n1 c1]) (h : In cN 1 w a1 n1 y) : LIn w (some ⟨b, 0, none⟩) 1 [y] := by
  refine ⟨rfl, .inr ⟨b, 0, rfl, B.lt, fun j l hj => ?_⟩⟩
  rcases j with _ | j
  · injection hj with hj
    subst hj
    have := B.cell 0
    simp at this
    exact ⟨a1, n1, c1, by simpa using this, h⟩
  · simp at hj
theorem same_oneM {w : World} {a1 a2 : Option Addr} {n1 n2 c1 c2 : Nat} {y : List Int} {t t' : TypeId} (h1 : In cN 1 w a1 n1 y) (h2 : In cN 1 w a2 n2 y) (hy : y.length ≤ 100000) :
    Calls Try.prog 16 #[.slice (some ⟨w.heap.size, 0, none⟩) 1 1, .slice (some ⟨w.heap.size + 1, 0, none⟩) 1 1] ((w.alloc (.cells #[.slice a1 n1 c1] t)).alloc (.cells #[.slice a2 n2 c2] t')) fun e w' => e = .returned (.bool true) ∧ Kept Nil w w' := by
  have kA : Kept Nil w (w.alloc (.cells #[.slice a1 n1 c1] t)) := (Kept.refl Nil w).alloc _
  have kB : Kept Nil (w.alloc (.cells #[.slice a1 n1 c1] t)) ((w.alloc (.cells #[.slice a1 n1 c1] t)).alloc (.cells #[.slice a2 n2 c2] t')) := (Kept.refl Nil _).alloc _
  have kW := kA.trans kB (fun _ _ g => g)
  have B1 := (Blk.new w t #[.slice a1 n1 c1]).kept kB (fun e => e)
  have B2 := Blk.new (w.alloc (.cells #[.slice a1 n1 c1] t)) t' #[.slice a2 n2 c2]
  rw [show (w.alloc (.cells #[.slice a1 n1 c1] t)).heap.size = w.heap.size + 1 from Array.size_push _] at B2
  refine (same_any (c := 1) (c' := 1) (lin_oneM B1 (h1.kept kW)) (lin_oneM B2 (h2.kept kW)) (by decide) (by decide) (by simpa using hy) (by simpa using hy)).mono ?_
  rintro e w' ⟨rfl, k⟩
  exact ⟨by simp, kW.trans k (fun _ _ g => g)⟩
theorem fieldKind (h : Hd) (s : Option Addr) (n c : Nat) (W : World) : (Instr.field 77 (vR h (.slice s n c)) 0).run Try.prog W = .ok (.int .i64 h.k) W := by
  simp [Instr.field, run_underlying Try.underlying77, part, isAgg, run_underlying Try.underlying3, asAgg]
set_option maxHeartbeats 8000000 in
theorem plainMore_any (l : List Sh) (a : Option Addr) (cap : Nat) (tA : Option Addr) (nt ct : Nat) (ts : List T3) (w : World) (h : Holds cA w (fun b _ => b < w.heap.size) (.slice a l.length cap) l) (ht : In cT3 3 w tA nt ts) (hm : nt ≤ maxLen) :
    Calls Try.prog 6 #[.slice a l.length cap, .slice tA nt ct] w fun e w' => e = .returned (.bool true) ∧ Kept Nil w w' := by
  have hm1 := hm
  unfold maxLen at hm1
  have HA := Lib.hid awakeOK
  have HP := Lib.hid partialOK
  have CF := Lib.hid (fineL_any l _ a cap w h (fun _ _ h => h))
  unfold YesEnd at CF
  have CR : Hid (∀ w', Kept Nil w w' → countL l ≤ 16 → Calls Try.prog 27 #[.slice a l.length cap] w' (ListEnd l w')) := Lib.hid fun w' k hc => refL_any l (by omega) _ a cap w' (h.keptN k)
  unfold ListEnd at CR
  have CC : Hid (∀ W ok a' cap', nt ≤ 12 → countL l ≤ 16 → Holds cR W ok (.slice a' l.length cap') l → Calls Try.prog 26 #[.int .i64 nt, .slice a' l.length cap', .int .i64 3000] W (Yes2 ((nt + 1) ^ posAL l ≤ 3000) W)) := Lib.hid fun W ok a' cap' hn hc hh => cost_any nt hn l (by omega) ok a' cap' W hh
  unfold Yes2 at CC
  have CFa := Lib.hid (fun W (kW : Kept Nil w W) (h12 : nt ≤ 12) => facts_any ts tA nt ct 1 (by decide) (by omega) W (ht.kept kW))
  unfold FactsEnd at CFa
  have hts := ht.1
  have HTS := Lib.hid hts
  have HO := Lib.hid h
  obtain ⟨len, hlen⟩ : ∃ len, l.length = len := ⟨_, rfl⟩
  rw [hlen] at CF CR CC HO ⊢
  have HL := Lib.hid hlen
  clear h ht hlen hts hm
  go_enter Try.func6, Try.ntmps6
  go_wp2_with fail
  refine CF.out.mono ?_
  rintro e w1 ⟨b, rfl, k1, hb⟩
  have K1 := Lib.hid k1
  have HB := Lib.hid hb
  clear k1 hb CF
  cases b
  · go_wp2_with fail
    refine (HA.out _).mono ?_
    rintro e w3 ⟨rfl, k3⟩
    go_wp2_with fail
    go_ret
    exact ⟨rfl, K1.out.trans k3 (fun _ _ g => g)⟩
  have HG := Lib.hid (HB.out rfl)
  clear HB
  have hl16 : len ≤ 16 := by have := length_countL l; have := HG.out.1; have := HL.out; omega
  by_cases hn1 : nt < 1
  · obtain rfl : nt = 0 := by omega
    go_wp2_with fail
    refine (HA.out _).mono ?_
    rintro e w3 ⟨rfl, k3⟩
    go_wp2_with fail
    go_ret
    exact ⟨rfl, K1.out.trans k3 (fun _ _ g => g)⟩
  have c1 : decide ((nt : Int) < 1) = false := decide_eq_false (by omega)
  by_cases hn2 : 12 < nt
  · have c2 : decide ((12 : Int) < nt) = true := decide_eq_true (by omega)
    go_wp2_with fail
    refine (HA.out _).mono ?_
    rintro e w3 ⟨rfl, k3⟩
    go_wp2_with fail
    go_ret
    exact ⟨rfl, K1.out.trans k3 (fun _ _ g => g)⟩
  have c2 : decide ((12 : Int) < nt) = false := decide_eq_false (by omega)
  go_wp2_with fail
  refine (CR.out _ K1.out HG.out.1).mono ?_
  rintro e w2 ⟨a2, p2, rfl, h2, k2⟩
  have K2 := Lib.hid (K1.out.trans k2 (fun _ _ g => g))
  have H2 := Lib.hid h2
  clear k2 h2 K1
  go_wp2_with fail
  refine (CC.out _ _ _ _ (by omega) HG.out.1 H2.out).mono ?_
  rintro e w3 ⟨b, rfl, k3, hb⟩
  have K3 := Lib.hid (K2.out.trans k3 (fun _ _ g => g))
  have HB := Lib.hid hb
  clear k3 hb CC K2 H2
  cases b
  · go_wp2_with fail
    refine (HA.out _).mono ?_
    rintro e w4 ⟨rfl, k4⟩
    go_wp2_with fail
    go_ret
    exact ⟨rfl, K3.out.trans k4 (fun _ _ g => g)⟩
  have HCo : Hid ((nt + 1) ^ posAL l ≤ 3000) := Lib.hid (HB.out rfl)
  clear HB
  go_wp2_with fail
  go_loopw [42] (fun i wr => ∃ j : Nat, j ≤ len ∧ i = .int .i64 j ∧ (∀ c ∈ l.take j, c.hd.k = 1) ∧ Kept Nil w wr) (fun i _ => len - (intOf i).toNat)
  case atStart => exact ⟨0, by omega, rfl, fun c hc => by simp at hc, K3.out⟩
  case round =>
    obtain ⟨j, hj, rfl, hk1, hK⟩ := hrel
    have HK := Lib.hid hK
    have HK1 := Lib.hid hk1
    clear hK hk1
    by_cases hlt : j < len
    · obtain ⟨⟨⟨k, x0, x1, x2, n0, n1, n2⟩, sb⟩, hx⟩ : ∃ x, l[j]? = some x := ⟨_, List.getElem?_eq_getElem (by have := HL.out; omega)⟩
      obtain ⟨b, o, a', cap', rfl, hb, hr, hs⟩ := (HO.out.keptN HK.out).at_ hx
      have p0 := hr 0 _ rfl
      have p1 := hr 1 _ rfl
      have p2 := hr 2 _ rfl
      have p3 := hr 3 _ rfl
      have p4 := hr 4 _ rfl
      have p5 := hr 5 _ rfl
      have p6 := hr 6 _ rfl
      have p7 := hr 7 _ rfl
      simp only [Nat.add_zero] at p0 p1 p2 p3 p4 p5 p6 p7
      have HT : Hid (l.take (j + 1) = l.take j ++ [.mk ⟨k, x0, x1, x2, n0, n1, n2⟩ sb]) := Lib.hid (by rw [List.take_add_one, hx]; rfl)
      have hbr : b < wr.heap.size := Nat.lt_of_lt_of_le hb HK.out.size
      have hal := (Kept.refl Nil wr).alloc (.cells #[.int .i64 k, .bool x0, .int .i64 n0, .bool x1, .int .i64 n1, .bool x2, .int .i64 n2, .slice a' sb.length cap'] 72)
      have KA := Lib.hid (HK.out.trans hal (fun _ _ e => e))
      have BA := Lib.hid (Blk.new wr 72 #[.int .i64 k, .bool x0, .int .i64 n0, .bool x1, .int .i64 n1, .bool x2, .int .i64 n2, .slice a' sb.length cap'])
      have CT : Hid (Calls Try.prog 28 #[.agg #[.int .i64 k, .bool x0, .int .i64 n0, .bool x1, .int .i64 n1, .bool x2, .int .i64 n2, .slice a' sb.length cap']] (wr.alloc (.cells #[.int .i64 k, .bool x0, .int .i64 n0, .bool x1, .int .i64 n1, .bool x2, .int .i64 n2, .slice a' sb.length cap'] 72)) fun e w' => ∃ a4 p4, e = .returned (.agg #[.int .i64 k, .int .i64 (isV x0), .int .i64 n0, .int .i64 (isV x1), .int .i64 n1, .int .i64 (isV x2), .int .i64 n2, .slice a4 sb.length p4]) ∧ Kept Nil (wr.alloc (.cells #[.int .i64 k, .bool x0, .int .i64 n0, .bool x1, .int .i64 n1, .bool x2, .int .i64 n2, .slice a' sb.length cap'] 72)) w') := Lib.hid ((refT_any (.mk ⟨k, x0, x1, x2, n0, n1, n2⟩ sb) (by have := count_mem (List.mem_of_getElem? hx); have := HG.out.1; omega) _ a' cap' _ (hs.keptN hal)).mono fun e w' ⟨a4, p4, h1, _, h3⟩ => ⟨a4, p4, h1, h3⟩)
      clear hx hr hs hal
      go_wp2_with fail
      refine CT.out.mono ?_
      rintro e w4 ⟨a4, p4', rfl, k4⟩
      have K4 := Lib.hid (KA.out.trans k4 (fun _ _ g => g))
      have hf : ∀ W, (Instr.field 77 (.agg #[.int .i64 k, .int .i64 (isV x0), .int .i64 n0, .int .i64 (isV x1), .int .i64 n1, .int .i64 (isV x2), .int .i64 n2, .slice a4 sb.length p4']) 0).run Try.prog W = .ok (.int .i64 k) W := fun W => fieldKind ⟨k, x0, x1, x2, n0, n1, n2⟩ a4 sb.length p4' W
      clear k4 CT KA BA
      by_cases hk : k = 1
      · have hk1 : (k != 1) = false := by simpa using hk
        have HKk := Lib.hid hk
        clear hk
        go_wp2_with fail
        go_roundw
        case rel => exact ⟨j + 1, by omega, by go_num, fun c hc => by
          rw [HT.out] at hc
          rcases List.mem_append.1 hc with hc | hc
          · exact HK1.out c hc
          · rw [List.mem_singleton.1 hc]; exact HKk.out, K4.out⟩
        case measure => simp [intOf]; omega
      · have hk1 : (k != 1) = true := bne_iff_ne.2 hk
        clear hk
        go_wp2_with fail
        refine (HA.out _).mono ?_
        rintro e w5 ⟨rfl, k5⟩
        go_wp2_with fail
        go_ret
        exact ⟨rfl, K4.out.trans k5 (fun _ _ g => g)⟩
    · obtain rfl : j = len := by omega
      have HTk : Hid (l.take j = l) := Lib.hid (by rw [← HL.out]; exact List.take_length)
      have HK1 : Hid (∀ c ∈ l, c.hd.k = 1) := Lib.hid (by have := HK1.out; rw [HTk.out] at this; exact this)
      go_wp2_with fail
      refine (CFa.out _ HK.out (by omega)).mono ?_
      rintro e w4 ⟨k4, hfac⟩
      have K4 := Lib.hid (HK.out.trans k4 (fun _ _ g => g))
      clear k4 CFa
      rcases hfac with ⟨fa, fc, rfl, hrow, hok⟩ | rfl
      rotate_left
      · go_wp2_with fail
        refine (HA.out _).mono ?_
        rintro e w5 ⟨rfl, k5⟩
        go_wp2_with fail
        go_ret
        exact ⟨rfl, K4.out.trans k5 (fun _ _ g => g)⟩
      have HFs := Lib.hid (factsM_ok (d := 1) hok)
      have HFl := Lib.hid ((factsM_len 1 ts).trans HTS.out)
      rw [HTS.out] at hrow
      have hfc : nt ≤ fc := hrow.caps.2.1
      have HFi := Lib.hid (hrow.toIn cF_len (by decide))
      rw [show ((1 : Nat) : Int) = 1 from rfl] at HFi
      have htl := HTS.out
      obtain ⟨S, hS⟩ : ∃ S, stL l [] = S := ⟨_, rfl⟩
      have HGood : Hid (∀ x ∈ l, x.good) := Lib.hid fun x hx => chk_good x 1 (chkL_all.1 HG.out.2 x hx)
      have HSt := Lib.hid ((st_good.2 l HGood.out []))
      have CO : Hid (∀ W ok a cap, Holds cR W ok (.slice a j cap) l → Calls Try.prog 15 #[.slice a j cap] W fun e w' => ∃ a cap, e = .returned (.slice a j cap) ∧ SHolds w' (okM W.heap.size w') (.slice a j cap) (stL l []) ∧ Kept Nil W w') := Lib.hid fun W ok a cap hh => by
        have := refCompile_of of_all l ⟨HG.out.1, HG.out.2⟩ ok a cap W (by rw [HL.out]; exact hh)
        unfold StsEnd at this
        rw [stL_length, HL.out] at this
        exact this
      have HSL : Hid ((stL l []).length = j) := Lib.hid (by rw [stL_length]; exact HL.out)
      have CS : Hid (∀ W ok a cap, SHolds W ok (.slice a j cap) (stL l []) → Calls Try.prog 14 #[.slice a j cap] W fun e w' => ∃ a cap, e = .returned (.slice a j cap) ∧ SHolds w' (okM W.heap.size w') (.slice a j cap) (stL l []) ∧ Kept Nil W w') := Lib.hid fun W ok a cap hh => by
        have := steps_any (stL l []) (by have := st_mass.2 l []; have := HG.out.1; omega) ok a cap W (by rw [HSL.out]; exact hh)
        unfold StsEnd at this
        rw [HSL.out] at this
        exact this
      have HCo2 : Hid ((nt + 1) ^ posSL (stL l []) ≤ 3000) := Lib.hid (Nat.le_trans (pow_le_of _ HSt.out.2) HCo.out)
      have HOk := Lib.hid (stL_okS HG.out.1 HG.out.2)
      have HK1S : Hid (∀ c ∈ stL l [], c.hd.k = 1) := Lib.hid fun c hc => by
        obtain ⟨i, hi⟩ := List.getElem?_of_mem hc
        have hil := (List.getElem?_eq_some_iff.1 hi).1
        rw [stL_length] at hil
        have h1 := stL_get l [] i _ (List.getElem?_eq_getElem hil)
        rw [hi] at h1
        injection h1 with h1
        rw [h1, st_k]
        exact HK1.out _ (List.getElem_mem hil)
      rw [hS] at CO CS HSL HCo2 HOk HK1S
      rw [htl]
      clear hS hrow hok htl HGood HSt HK1
      go_wp2_with fail
      refine (CR.out _ K4.out HG.out.1).mono ?_
      rintro e w5 ⟨a5, p5, rfl, h5, k5⟩
      have K5 := Lib.hid (K4.out.trans k5 (fun _ _ g => g))
      have H5 := Lib.hid h5
      have F5 := Lib.hid (HFi.out.kept k5)
      clear k5 h5 CR HFi
      go_wp2_with fail
      refine (CO.out _ _ _ _ H5.out).mono ?_
      rintro e w6 ⟨a6, p6, rfl, h6, k6⟩
      have K6 := Lib.hid (K5.out.trans k6 (fun _ _ g => g))
      have H6 := Lib.hid h6
      have F6 := Lib.hid (F5.out.kept k6)
      clear k6 h6 CO H5 F5
      go_wp2_with fail
      refine (CS.out _ _ _ _ H6.out).mono ?_
      rintro e w7 ⟨a7, p7, rfl, h7, k7⟩
      have K7 := Lib.hid (K6.out.trans k7 (fun _ _ g => g))
      have H7 := Lib.hid (h7.mono (ok' := Any2) (fun _ _ _ => trivial))
      have F7 := Lib.hid (F6.out.kept k7)
      clear k7 h7 CS H6 F6
      have htf : (factsM 1 ts).take (nt - 1) ++ [(factsM 1 ts)[nt - 1]'(by rw [HFl.out]; omega)] = factsM 1 ts := by
        have := List.take_append_getElem (l := factsM 1 ts) (i := nt - 1) (by rw [HFl.out]; omega)
        rw [this]
        exact List.take_of_length_le (by rw [HFl.out]; omega)
      have CP1 : Hid (∀ W, Kept Nil w7 W → Calls Try.prog 13 #[.slice fa nt fc, .slice a7 j p7] W fun e w' => ∃ a' n' c', e = .returned (.slice a' n' c') ∧ LIn w' a' n' (smL (factsM 1 ts) S []) ∧ Kept Nil W w') := Lib.hid fun W kW => by
        have := HP.out (factsM 1 ts) HFs.out (by rw [HFl.out]; omega) S HOk.out (by rw [HSL.out]; exact hl16) (by rw [HFl.out]; exact HCo2.out) fa nt fc a7 p7 W (F7.out.kept kW) (by rw [HSL.out]; exact H7.out.keptN kW)
        rw [HSL.out] at this
        exact this.mono fun e w' ⟨a', n', c', h1, h2, h3⟩ => ⟨a', n', c', h1, h2.toLIn, h3⟩
      have CP2 : Hid (∀ W, Kept Nil w7 W → Calls Try.prog 13 #[.slice fa (nt - 1) fc, .slice a7 j p7] W fun e w' => ∃ a' n' c', e = .returned (.slice a' n' c') ∧ LIn w' a' n' (smL ((factsM 1 ts).take (nt - 1)) S []) ∧ Kept Nil W w') := Lib.hid fun W kW => by
        have hl1 : ((factsM 1 ts).take (nt - 1)).length = nt - 1 := by rw [List.length_take, HFl.out]; omega
        have := HP.out ((factsM 1 ts).take (nt - 1)) (fun f hf => HFs.out f (List.mem_of_mem_take hf)) (by rw [hl1]; omega) S HOk.out (by rw [HSL.out]; exact hl16) (by rw [hl1]; exact Nat.le_trans (Nat.pow_le_pow_left (by omega) _) HCo2.out) fa (nt - 1) fc a7 p7 W (In_takeM (F7.out.kept kW) (by omega)) (by rw [HSL.out]; exact H7.out.keptN kW)
        rw [HSL.out] at this
        exact this.mono fun e w' ⟨a', n', c', h1, h2, h3⟩ => ⟨a', n', c', h1, h2.toLIn, h3⟩
      obtain ⟨m, hm⟩ : ∃ m, nt - 1 = m := ⟨_, rfl⟩
      rw [hm] at CP2
      have s1 : IntKind.i64.wrap ((nt : Int) - 1) = (m : Int) := by rw [IntKind.wrap_i64]; omega
      have b1 : (0 : Int) ≤ (m : Int) := by omega
      have b2 : (m : Int) ≤ (fc : Int) := by omega
      have HM := Lib.hid hm
      clear hm
      have HFilt : Hid ((smL (factsM 1 ts) S []).filter (fun y => !(y.contains (nt : Int))) = smL ((factsM 1 ts).take (nt - 1)) S []) := Lib.hid (by
        have hnl : nt - 1 < (factsM 1 ts).length := by rw [HFl.out]; omega
        have hid := factsM_idM (List.getElem?_eq_getElem hnl)
        have hidn : ((factsM 1 ts)[nt - 1]'hnl).1 = (nt : Int) := by rw [hid]; omega
        have := smL_more ((factsM 1 ts).take (nt - 1)) ((factsM 1 ts)[nt - 1]'hnl) (fun g hg => by
          obtain ⟨q, hq⟩ := List.getElem?_of_mem hg
          rw [List.getElem?_take] at hq
          split at hq
          · have := factsM_idM hq
            rw [this, hidn]; omega
          · cases hq) S HK1S.out []
        rw [htf, hidn] at this
        rw [this]; simp)
      have HL1 : Hid ((smL (factsM 1 ts) S []).length ≤ 3000) := Lib.hid (Nat.le_trans ((sm_len (factsM 1 ts)).2 S []) (by rw [HFl.out]; exact HCo2.out))
      have HL2 : Hid (∀ y ∈ smL (factsM 1 ts) S [], y.length ≤ 16) := Lib.hid fun y hy => by
        have := (sm_ids (factsM 1 ts)).2 S [] y hy
        rw [HSL.out] at this
        simp at this
        omega
      have S0 := Lib.hid (Kept.refl Nil w7).drew
      clear htf
      generalize smL (factsM 1 ts) S [] = M1 at *
      rw [← HM.out] at CP2
      generalize smL ((factsM 1 ts).take (nt - 1)) S [] = M2 at *
      rw [HM.out] at CP2
      go_upto_region 13 with fail
      go_region_held3 (Kept Nil w7)
        (first | (with_reducible assumption) | (with_reducible exact S0.out) | (with_reducible exact k9) | (with_reducible exact k8))
        (first
          | (go_at_call 13; (with_reducible refine (CP1.out _ (by with_reducible assumption)).mono ?_); rintro e w8 ⟨a8, n8, c8, rfl, h8, k8'⟩; have k8 := Kept.trans (by with_reducible assumption : Kept Nil w7 _) k8' (fun _ _ g => g); first | (have h9 := h9.kept k8') | skip)
          | (go_at_call 13; (with_reducible refine (CP2.out _ (by with_reducible assumption)).mono ?_); rintro e w9 ⟨a9, n9, c9, rfl, h9, k9'⟩; have k9 := Kept.trans (by with_reducible assumption : Kept Nil w7 _) k9' (fun _ _ g => g); first | (have h8 := h8.kept k9') | skip))
      all_goals
        rename World => wz
        have KZ : Hid (Kept Nil w7 wz) := Lib.hid (by with_reducible assumption)
        have L1 : Hid (LIn wz a8 n8 M1) := Lib.hid h8
        have L2 : Hid (LIn wz a9 n9 M2) := Lib.hid h9
        have hn8 : n8 ≤ 3000 := by rw [← L1.out.1]; exact HL1.out
        obtain ⟨cnt, q0, q1, q2, q3⟩ := filter_walk _ _ _ HFilt.out
        rw [L1.out.1, L2.out.1] at q3
        have Q0 := Lib.hid q0
        have Q1 := Lib.hid q1
        have Q2 := Lib.hid q2
        have Q3 := Lib.hid q3
        clear q0 q1 q2 q3 h8 h9 CP1 CP2
        go_wp2_with fail
        go_loopw [12, 76] (fun kv i wr => ∃ q : Nat, q ≤ n8 ∧ i = .int .i64 q ∧ kv = .int .i64 (cnt q : Nat) ∧ cnt q ≤ q ∧ Kept Nil wz wr) (fun _ i _ => n8 - (intOf i).toNat)
        case atStart => exact ⟨0, by omega, rfl, by rw [Q0.out]; rfl, by rw [Q0.out]; exact Nat.le_refl _, Kept.refl _ _⟩
        case round =>
          obtain ⟨q, hq, rfl, rfl, hcq, hK⟩ := hrel
          have HK := Lib.hid hK
          clear hK
          by_cases hlt : q < n8
          · obtain ⟨y, hy⟩ : ∃ y, M1[q]? = some y := ⟨_, List.getElem?_eq_getElem (by rw [L1.out.1]; exact hlt)⟩
            obtain ⟨b1', o1, a', n', c', rfl, hb1, hc1, hi1⟩ := (L1.out.kept HK.out).at_ hy
            have HY := Lib.hid hi1
            have HMy := Lib.hid hy
            have hn16 : n' ≤ 16 := by rw [← hi1.1]; exact HL2.out y (List.mem_of_getElem? hy)
            rename World => wo
            clear hi1 hy
            go_wp2_with fail
            go_loopw [15, 82] (fun hv i wr => ∃ r : Nat, r ≤ n' ∧ i = .int .i64 r ∧ hv = .bool ((y.take r).contains (nt : Int)) ∧ wr = wo) (fun _ i _ => n' - (intOf i).toNat)
            case atStart => exact ⟨0, by omega, rfl, rfl, rfl⟩
            case round =>
              obtain ⟨r, hr, rfl, rfl, rfl⟩ := hrel
              by_cases hrl : r < n'
              · obtain ⟨z, hz⟩ : ∃ z, y[r]? = some z := ⟨_, List.getElem?_eq_getElem (by rw [HY.out.1]; exact hrl)⟩
                obtain ⟨bz, oz, rfl, hbz, hcz⟩ := HY.out.at_ hz
                have d0 := hcz 0 _ rfl
                simp only [Nat.add_zero, Nat.mul_one] at d0
                have HT : Hid ((y.take (r + 1)).contains (nt : Int) = ((y.take r).contains (nt : Int) || (z == (nt : Int)))) := Lib.hid (contains_take hz)
                generalize (y.take r).contains (nt : Int) = pp at *
                clear hz hcz
                cases pp
                · go_wp2_with fail
                  go_roundw
                  case rel => exact ⟨r + 1, by omega, by go_num, by rw [HT.out, Bool.false_or], trivial⟩
                  case measure => simp [intOf]; omega
                · go_wp2_with fail
                  go_roundw
                  case rel => exact ⟨r + 1, by omega, by go_num, by rw [HT.out, Bool.true_or], trivial⟩
                  case measure => simp [intOf]; omega
              · obtain rfl : r = n' := by omega
                have HTk : Hid (y.take r = y) := Lib.hid (List.take_of_length_le (by rw [HY.out.1]; exact Nat.le_refl _))
                rw [HTk.out]
                have QF := Q1.out q y HMy.out
                have QT := Q2.out q y HMy.out
                generalize y.contains (nt : Int) = hs at *
                cases hs
                · obtain ⟨e1, e2⟩ := QT rfl
                  have HE1 := Lib.hid e1
                  have hk9 : cnt q < n9 := by rw [← L2.out.1]; exact (List.getElem?_eq_some_iff.1 e2).1
                  obtain ⟨b2, o2, a2', n2', c2', rfl, hb2, hc2, hi2⟩ := (L2.out.kept HK.out).at_ e2
                  have HI2 := Lib.hid hi2
                  clear QF QT e1 e2 hi2
                  generalize cnt q = kq at *
                  go_wp2_with fail
                  refine (same_oneM HY.out HI2.out (by rw [HY.out.1]; omega)).mono ?_
                  rintro e w5 ⟨rfl, k5⟩
                  have K5 := Lib.hid (HK.out.trans k5 (fun _ _ g => g))
                  clear k5
                  go_wp2_with fail
                  go_roundw
                  case rel => exact ⟨q + 1, by omega, by go_num, by rw [HE1.out]; go_num, by rw [HE1.out]; omega, K5.out⟩
                  case measure => simp [intOf]; omega
                · have HE1 := Lib.hid (QF rfl)
                  clear QF QT
                  go_wp2_with fail
                  go_roundw
                  case rel => exact ⟨q + 1, by omega, by go_num, by rw [HE1.out], by rw [HE1.out]; omega, HK.out⟩
                  case measure => simp [intOf]; omega
          · obtain rfl : q = n8 := by omega
            rw [Q3.out]
            have hcc := hcq
            go_wp2_with fail
            refine (HA.out _).mono ?_
            rintro e w5 ⟨rfl, k5⟩
            go_wp2_with fail
            go_ret
            exact ⟨rfl, ((K7.out.trans KZ.out (fun _ _ g => g)).trans HK.out (fun _ _ g => g)).trans k5 (fun _ _ g => g)⟩
end Go.Proofs.Ytmpoeibkndcnnaa
