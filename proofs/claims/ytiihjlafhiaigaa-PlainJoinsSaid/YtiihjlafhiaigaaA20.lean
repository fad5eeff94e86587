/- PlainMore: the walk over the law's own code. – Layer plain: the program's Partial; each match has room for itself. – PlainJoins: the walk over the law's own code. – A uint8 that comes in, opened. – What comes into layer rule's laws, opened: a rule. -/
import Derived.Test.YtiihjlafhiaigaaA18
import Derived.Test.YtiihjlafhiaigaaA19
import Derived.Test.YtiihjlafhiaigaaA10
import Derived.Test.YtiihjlafhiaigaaA17
import Derived.Deep.CutBlock
import Derived.Deep.DeepCutAuto
import Derived.Test.YtiihjlafhiaigaaA16
import Derived.Deep.RegionHeld3
namespace Go.Proofs.Ytiihjlafhiaigaa
section
open Go.RowKit
set_option maxRecDepth 100000

theorem factsM_idM {ts : List T3} {q : Nat} {f : F4} (h : (factsM 1 ts)[q]? = some f) : f.1 = 1 + (q : Int) := by
  have hlt := (List.getElem?_eq_some_iff.1 h).1
  rw [factsM_len] at hlt
  have := factsM_get (d := 1) (List.getElem?_eq_getElem hlt)
  rw [h] at this
  injection this with this
  rw [this]; simp
theorem In_takeM {w : World} {fa : Option Addr} {n m : Nat} {fs : List F4} (h : In cF 4 w fa n fs) (hm : m ≤ n) : In cF 4 w fa m (fs.take m) := by
  refine ⟨by rw [List.length_take, h.1]; omega, ?_⟩
  rcases h.2 with e | ⟨b, off, e, hb, hc⟩
  · exact .inl (by omega)
  · refine .inr ⟨b, off, e, hb, fun j x i v hj => hc j x i v ?_⟩
    rw [List.getElem?_take] at hj
    split at hj
    · exact hj
    · cases hj
theorem filter_walk {α : Type} (p : α → Bool) (M1 M2 : List α) (h : M1.filter p = M2) : ∃ cnt : Nat → Nat, cnt 0 = 0 ∧ (∀ q y, M1[q]? = some y → p y = false → cnt (q + 1) = cnt q) ∧ (∀ q y, M1[q]? = some y → p y = true → cnt (q + 1) = cnt q + 1 ∧ M2[cnt q]? = some y) ∧ cnt M1.length = M2.length := by
  refine ⟨fun q => ((M1.take q).filter p).length, by simp, fun q y hy hp => ?_, fun q y hy hp => ?_, by show ((M1.take M1.length).filter p).length = _; rw [List.take_length, h]⟩
  · show ((M1.take (q + 1)).filter p).length = _
    rw [List.take_add_one, hy, List.filter_append]
    simp [hp]
  · refine ⟨?_, ?_⟩
    · show ((M1.take (q + 1)).filter p).length = _
      rw [List.take_add_one, hy, List.filter_append]
      simp [hp]
    · have hlt := (List.getElem?_eq_some_iff.1 hy).1
      have e : M2 = (M1.take q).filter p ++ (y :: (M1.drop (q + 1)).filter p) := by
        rw [← h]
        have e1 : M1.drop q = y :: M1.drop (q + 1) := by
          rw [List.drop_eq_getElem_cons hlt]
          congr 1
          exact (List.getElem?_eq_some_iff.1 hy).2
        conv => lhs; rw [← List.take_append_drop q M1, List.filter_append, e1, List.filter_cons_of_pos hp]
      rw [e, List.getElem?_append_right (Nat.le_refl _), Nat.sub_self]
      rfl
theorem contains_take {y : List Int} {r : Nat} {z v : Int} (hz : y[r]? = some z) : (y.take (r + 1)).contains v = ((y.take r).contains v || (z == v)) := by
  rw [List.take_add_one, hz, Bool.eq_iff_iff]
  rw [List.contains_iff_mem, Bool.or_eq_true, List.contains_iff_mem, List.mem_append, beq_iff_eq]
  show _ ∨ v ∈ [z] ↔ _
  rw [List.mem_singleton]
  exact or_congr Iff.rfl ⟨Eq.symm, Eq.symm⟩
theorem lin_oneM {w : World} {b n1 c1 : Nat} {a1 : Option Addr} {y : List Int} {t : TypeId} (B : Blk w b t #[.slice a1 n1 c1]) (h : In cN 1 w a1 n1 y) : LIn w (some ⟨b, 0, none⟩) 1 [y] := by
  refine ⟨rfl, .inr ⟨b, 0, rfl, B.lt, fun j l hj => ?_⟩⟩
  rcases j with _ | j
  · injection hj with hj
    subst hj
    have := B.cell 0
    simp at this
    exact ⟨a1, n1, c1, by simpa using this, h⟩
  · simp at hj
theorem same_oneM {w : World} {a1 a2 : Option Addr} {n1 n2 c1 c2 : Nat} {y : List Int} {t t' : TypeId} (h1 : In cN 1 w a1 n1 y) (h2 : In cN 1 w a2 n2 y) (hy : y.length ≤ 100000) :
    Calls Try.prog 16 #[.slice (some ⟨w.heap.size, 0, none⟩) 1 1, .slice (some ⟨w.heap.size + 1, 0, none⟩) 1 1] ((w.alloc (.cells #[.slice a1 n1 c1] t)).alloc (.cells #[.slice a2 n2 c2] t')) fun e w' => e = .returned (.bool true) ∧ Kept Nil w w' := by
  have kA : Kept Nil w (w.alloc (.cells #[.slice a1 n1 c1] t)) := (Kept.refl Nil w).alloc _
  have kB : Kept Nil (w.alloc (.cells #[.slice a1 n1 c1] t)) ((w.alloc (.cells #[.slice a1 n1 c1] t)).alloc (.cells #[.slice a2 n2 c2] t')) := (Kept.refl Nil _).alloc _
  have kW := kA.trans kB (fun _ _ g => g)
  have B1 := (Blk.new w t #[.slice a1 n1 c1]).kept kB (fun e => e)
  have B2 := Blk.new (w.alloc (.cells #[.slice a1 n1 c1] t)) t' #[.slice a2 n2 c2]
  rw [show (w.alloc (.cells #[.slice a1 n1 c1] t)).heap.size = w.heap.size + 1 from Array.size_push _] at B2
  refine (same_any (c := 1) (c' := 1) (lin_oneM B1 (h1.kept kW)) (lin_oneM B2 (h2.kept kW)) (by decide) (by decide) (by simpa using hy) (by simpa using hy)).mono ?_
  rintro e w' ⟨rfl, k⟩
  exact ⟨by simp, kW.trans k (fun _ _ g => g)⟩
theorem fieldKind (h : Hd) (s : Option Addr) (n c : Nat) (W : World) : (Instr.field 77 (vR h (.slice s n c)) 0).run Try.prog W = .ok (.int .i64 h.k) W := by
  simp [Instr.field, run_underlying Try.underlying77, part, isAgg, run_underlying Try.underlying3, asAgg]
set_option maxHeartbeats 8000000 in
theorem plainMore_any (l : List Sh) (a : Option Addr) (cap : Nat) (tA : Option Addr) (nt ct : Nat) (ts : List T3) (w : World) (h : Holds cA w (fun b _ => b < w.heap.size) (.slice a l.length cap) l) (ht : In cT3 3 w tA nt ts) (hm : nt ≤ maxLen) :
    Calls Try.prog 6 #[.slice a l.length cap, .slice tA nt ct] w fun e w' => e = .returned (.bool true) ∧ Kept Nil w w' := by
  have hm1 := hm
  unfold maxLen at hm1
  have HA := Lib.hid awakeOK
  have HP := Lib.hid partialOK
  have CF := Lib.hid (fineL_any l _ a cap w h (fun _ _ h => h))
  unfold YesEnd at CF
  have CR : Hid (∀ w', Kept Nil w w' → countL l ≤ 16 → Calls Try.prog 27 #[.slice a l.length cap] w' (ListEnd l w')) := Lib.hid fun w' k hc => refL_any l (by omega) _ a cap w' (h.keptN k)
  unfold ListEnd at CR
  have CC : Hid (∀ W ok a' cap', nt ≤ 12 → countL l ≤ 16 → Holds cR W ok (.slice a' l.length cap') l → Calls Try.prog 26 #[.int .i64 nt, .slice a' l.length cap', .int .i64 3000] W (Yes2 ((nt + 1) ^ posAL l ≤ 3000) W)) := Lib.hid fun W ok a' cap' hn hc hh => cost_any nt hn l (by omega) ok a' cap' W hh
  unfold Yes2 at CC
  have CFa := Lib.hid (fun W (kW : Kept Nil w W) (h12 : nt ≤ 12) => facts_any ts tA nt ct 1 (by decide) (by omega) W (ht.kept kW))
  unfold FactsEnd at CFa
  have hts := ht.1
  have HTS := Lib.hid hts
  have HO := Lib.hid h
  obtain ⟨len, hlen⟩ : ∃ len, l.length = len := ⟨_, rfl⟩
  rw [hlen] at CF CR CC HO ⊢
  have HL := Lib.hid hlen
  clear h ht hlen hts hm
  go_enter Try.func6, Try.ntmps6
  go_wp2_with fail
  refine CF.out.mono ?_
  rintro e w1 ⟨b, rfl, k1, hb⟩
  have K1 := Lib.hid k1
  have HB := Lib.hid hb
  clear k1 hb CF
  cases b
  · go_wp2_with fail
    refine (HA.out _).mono ?_
    rintro e w3 ⟨rfl, k3⟩
    go_wp2_with fail
    go_ret
    exact ⟨rfl, K1.out.trans k3 (fun _ _ g => g)⟩
  have HG := Lib.hid (HB.out rfl)
  clear HB
  have hl16 : len ≤ 16 := by have := length_countL l; have := HG.out.1; have := HL.out; omega
  by_cases hn1 : nt < 1
  · obtain rfl : nt = 0 := by omega
    go_wp2_with fail
    refine (HA.out _).mono ?_
    rintro e w3 ⟨rfl, k3⟩
    go_wp2_with fail
    go_ret
    exact ⟨rfl, K1.out.trans k3 (fun _ _ g => g)⟩
  have c1 : decide ((nt : Int) < 1) = false := decide_eq_false (by omega)
  by_cases hn2 : 12 < nt
  · have c2 : decide ((12 : Int) < nt) = true := decide_eq_true (by omega)
    go_wp2_with fail
    refine (HA.out _).mono ?_
    rintro e w3 ⟨rfl, k3⟩
    go_wp2_with fail
    go_ret
    exact ⟨rfl, K1.out.trans k3 (fun _ _ g => g)⟩
  have c2 : decide ((12 : Int) < nt) = false := decide_eq_false (by omega)
  go_wp2_with fail
  refine (CR.out _ K1.out HG.out.1).mono ?_
  rintro e w2 ⟨a2, p2, rfl, h2, k2⟩
  have K2 := Lib.hid (K1.out.trans k2 (fun _ _ g => g))
  have H2 := Lib.hid h2
  clear k2 h2 K1
  go_wp2_with fail
  refine (CC.out _ _ _ _ (by omega) HG.out.1 H2.out).mono ?_
  rintro e w3 ⟨b, rfl, k3, hb⟩
  have K3 := Lib.hid (K2.out.trans k3 (fun _ _ g => g))
  have HB := Lib.hid hb
  clear k3 hb CC K2 H2
  cases b
  · go_wp2_with fail
    refine (HA.out _).mono ?_
    rintro e w4 ⟨rfl, k4⟩
    go_wp2_with fail
    go_ret
    exact ⟨rfl, K3.out.trans k4 (fun _ _ g => g)⟩
  have HCo : Hid ((nt + 1) ^ posAL l ≤ 3000) := Lib.hid (HB.out rfl)
  clear HB
  go_wp2_with fail
  go_loopw [42] (fun i wr => ∃ j : Nat, j ≤ len ∧ i = .int .i64 j ∧ (∀ c ∈ l.take j, c.hd.k = 1) ∧ Kept Nil w wr) (fun i _ => len - (intOf i).toNat)
  case atStart => exact ⟨0, by omega, rfl, fun c hc => by simp at hc, K3.out⟩
  case round =>
    obtain ⟨j, hj, rfl, hk1, hK⟩ := hrel
    have HK := Lib.hid hK
    have HK1 := Lib.hid hk1
    clear hK hk1
    by_cases hlt : j < len
    · obtain ⟨⟨⟨k, x0, x1, x2, n0, n1, n2⟩, sb⟩, hx⟩ : ∃ x, l[j]? = some x := ⟨_, List.getElem?_eq_getElem (by have := HL.out; omega)⟩
      obtain ⟨b, o, a', cap', rfl, hb, hr, hs⟩ := (HO.out.keptN HK.out).at_ hx
      have p0 := hr 0 _ rfl
      have p1 := hr 1 _ rfl
      have p2 := hr 2 _ rfl
      have p3 := hr 3 _ rfl
      have p4 := hr 4 _ rfl
      have p5 := hr 5 _ rfl
      have p6 := hr 6 _ rfl
      have p7 := hr 7 _ rfl
      simp only [Nat.add_zero] at p0 p1 p2 p3 p4 p5 p6 p7
      have HT : Hid (l.take (j + 1) = l.take j ++ [.mk ⟨k, x0, x1, x2, n0, n1, n2⟩ sb]) := Lib.hid (by rw [List.take_add_one, hx]; rfl)
      have hbr : b < wr.heap.size := Nat.lt_of_lt_of_le hb HK.out.size
      have hal := (Kept.refl Nil wr).alloc (.cells #[.int .i64 k, .bool x0, .int .i64 n0, .bool x1, .int .i64 n1, .bool x2, .int .i64 n2, .slice a' sb.length cap'] 72)
      have KA := Lib.hid (HK.out.trans hal (fun _ _ e => e))
      have BA := Lib.hid (Blk.new wr 72 #[.int .i64 k, .bool x0, .int .i64 n0, .bool x1, .int .i64 n1, .bool x2, .int .i64 n2, .slice a' sb.length cap'])
      have CT : Hid (Calls Try.prog 28 #[.agg #[.int .i64 k, .bool x0, .int .i64 n0, .bool x1, .int .i64 n1, .bool x2, .int .i64 n2, .slice a' sb.length cap']] (wr.alloc (.cells #[.int .i64 k, .bool x0, .int .i64 n0, .bool x1, .int .i64 n1, .bool x2, .int .i64 n2, .slice a' sb.length cap'] 72)) fun e w' => ∃ a4 p4, e = .returned (.agg #[.int .i64 k, .int .i64 (isV x0), .int .i64 n0, .int .i64 (isV x1), .int .i64 n1, .int .i64 (isV x2), .int .i64 n2, .slice a4 sb.length p4]) ∧ Kept Nil (wr.alloc (.cells #[.int .i64 k, .bool x0, .int .i64 n0, .bool x1, .int .i64 n1, .bool x2, .int .i64 n2, .slice a' sb.length cap'] 72)) w') := Lib.hid ((refT_any (.mk ⟨k, x0, x1, x2, n0, n1, n2⟩ sb) (by have := count_mem (List.mem_of_getElem? hx); have := HG.out.1; omega) _ a' cap' _ (hs.keptN hal)).mono fun e w' ⟨a4, p4, h1, _, h3⟩ => ⟨a4, p4, h1, h3⟩)
      clear hx hr hs hal
      go_wp2_with fail
      refine CT.out.mono ?_
      rintro e w4 ⟨a4, p4', rfl, k4⟩
      have K4 := Lib.hid (KA.out.trans k4 (fun _ _ g => g))
      have hf : ∀ W, (Instr.field 77 (.agg #[.int .i64 k, .int .i64 (isV x0), .int .i64 n0, .int .i64 (isV x1), .int .i64 n1, .int .i64 (isV x2), .int .i64 n2, .slice a4 sb.length p4']) 0).run Try.prog W = .ok (.int .i64 k) W := fun W => fieldKind ⟨k, x0, x1, x2, n0, n1, n2⟩ a4 sb.length p4' W
      clear k4 CT KA BA
      by_cases hk : k = 1
      · have hk1 : (k != 1) = false := by simpa using hk
        have HKk := Lib.hid hk
        clear hk
        go_wp2_with fail
        go_roundw
        case rel => exact ⟨j + 1, by omega, by go_num, fun c hc => by
          rw [HT.out] at hc
          rcases List.mem_append.1 hc with hc | hc
          · exact HK1.out c hc
          · rw [List.mem_singleton.1 hc]; exact HKk.out, K4.out⟩
        case measure => simp [intOf]; omega
      · have hk1 : (k != 1) = true := bne_iff_ne.2 hk
        clear hk
        go_wp2_with fail
        refine (HA.out _).mono ?_
        rintro e w5 ⟨rfl, k5⟩
        go_wp2_with fail
        go_ret
        exact ⟨rfl, K4.out.trans k5 (fun _ _ g => g)⟩
    · obtain rfl : j = len := by omega
      have HTk : Hid (l.take j = l) := Lib.hid (by rw [← HL.out]; exact List.take_length)
      have HK1 : Hid (∀ c ∈ l, c.hd.k = 1) := Lib.hid (by have := HK1.out; rw [HTk.out] at this; exact this)
      go_wp2_with fail
      refine (CFa.out _ HK.out (by omega)).mono ?_
      rintro e w4 ⟨k4, hfac⟩
      have K4 := Lib.hid (HK.out.trans k4 (fun _ _ g => g))
      clear k4 CFa
      rcases hfac with ⟨fa, fc, rfl, hrow, hok⟩ | rfl
      rotate_left
      · go_wp2_with fail
        refine (HA.out _).mono ?_
        rintro e w5 ⟨rfl, k5⟩
        go_wp2_with fail
        go_ret
        exact ⟨rfl, K4.out.trans k5 (fun _ _ g => g)⟩
      have HFs := Lib.hid (factsM_ok (d := 1) hok)
      have HFl := Lib.hid ((factsM_len 1 ts).trans HTS.out)
      rw [HTS.out] at hrow
      have hfc : nt ≤ fc := hrow.caps.2.1
      have HFi := Lib.hid (hrow.toIn cF_len (by decide))
      rw [show ((1 : Nat) : Int) = 1 from rfl] at HFi
      have htl := HTS.out
      obtain ⟨S, hS⟩ : ∃ S, stL l [] = S := ⟨_, rfl⟩
      have HGood : Hid (∀ x ∈ l, x.good) := Lib.hid fun x hx => chk_good x 1 (chkL_all.1 HG.out.2 x hx)
      have HSt := Lib.hid ((st_good.2 l HGood.out []))
      have CO : Hid (∀ W ok a cap, Holds cR W ok (.slice a j cap) l → Calls Try.prog 15 #[.slice a j cap] W fun e w' => ∃ a cap, e = .returned (.slice a j cap) ∧ SHolds w' (okM W.heap.size w') (.slice a j cap) (stL l []) ∧ Kept Nil W w') := Lib.hid fun W ok a cap hh => by
        have := refCompile_of of_all l ⟨HG.out.1, HG.out.2⟩ ok a cap W (by rw [HL.out]; exact hh)
        unfold StsEnd at this
        rw [stL_length, HL.out] at this
        exact this
      have HSL : Hid ((stL l []).length = j) := Lib.hid (by rw [stL_length]; exact HL.out)
      have CS : Hid (∀ W ok a cap, SHolds W ok (.slice a j cap) (stL l []) → Calls Try.prog 14 #[.slice a j cap] W fun e w' => ∃ a cap, e = .returned (.slice a j cap) ∧ SHolds w' (okM W.heap.size w') (.slice a j cap) (stL l []) ∧ Kept Nil W w') := Lib.hid fun W ok a cap hh => by
        have := steps_any (stL l []) (by have := st_mass.2 l []; have := HG.out.1; omega) ok a cap W (by rw [HSL.out]; exact hh)
        unfold StsEnd at this
        rw [HSL.out] at this
        exact this
      have HCo2 : Hid ((nt + 1) ^ posSL (stL l []) ≤ 3000) := Lib.hid (Nat.le_trans (pow_le_of _ HSt.out.2) HCo.out)
      have HOk := Lib.hid (stL_okS HG.out.1 HG.out.2)
      have HK1S : Hid (∀ c ∈ stL l [], c.hd.k = 1) := Lib.hid fun c hc => by
        obtain ⟨i, hi⟩ := List.getElem?_of_mem hc
        have hil := (List.getElem?_eq_some_iff.1 hi).1
        rw [stL_length] at hil
        have h1 := stL_get l [] i _ (List.getElem?_eq_getElem hil)
        rw [hi] at h1
        injection h1 with h1
        rw [h1, st_k]
        exact HK1.out _ (List.getElem_mem hil)
      rw [hS] at CO CS HSL HCo2 HOk HK1S
      rw [htl]
      clear hS hrow hok htl HGood HSt HK1
      go_wp2_with fail
      refine (CR.out _ K4.out HG.out.1).mono ?_
      rintro e w5 ⟨a5, p5, rfl, h5, k5⟩
      have K5 := Lib.hid (K4.out.trans k5 (fun _ _ g => g))
      have H5 := Lib.hid h5
      have F5 := Lib.hid (HFi.out.kept k5)
      clear k5 h5 CR HFi
      go_wp2_with fail
      refine (CO.out _ _ _ _ H5.out).mono ?_
      rintro e w6 ⟨a6, p6, rfl, h6, k6⟩
      have K6 := Lib.hid (K5.out.trans k6 (fun _ _ g => g))
      have H6 := Lib.hid h6
      have F6 := Lib.hid (F5.out.kept k6)
      clear k6 h6 CO H5 F5
      go_wp2_with fail
      refine (CS.out _ _ _ _ H6.out).mono ?_
      rintro e w7 ⟨a7, p7, rfl, h7, k7⟩
      have K7 := Lib.hid (K6.out.trans k7 (fun _ _ g => g))
      have H7 := Lib.hid (h7.mono (ok' := Any2) (fun _ _ _ => trivial))
      have F7 := Lib.hid (F6.out.kept k7)
      clear k7 h7 CS H6 F6
      have htf : (factsM 1 ts).take (nt - 1) ++ [(factsM 1 ts)[nt - 1]'(by rw [HFl.out]; omega)] = factsM 1 ts := by
        have := List.take_append_getElem (l := factsM 1 ts) (i := nt - 1) (by rw [HFl.out]; omega)
        rw [this]
        exact List.take_of_length_le (by rw [HFl.out]; omega)
      have CP1 : Hid (∀ W, Kept Nil w7 W → Calls Try.prog 13 #[.slice fa nt fc, .slice a7 j p7] W fun e w' => ∃ a' n' c', e = .returned (.slice a' n' c') ∧ LIn w' a' n' (smL (factsM 1 ts) S []) ∧ Kept Nil W w') := Lib.hid fun W kW => by
        have := HP.out (factsM 1 ts) HFs.out (by rw [HFl.out]; omega) S HOk.out (by rw [HSL.out]; exact hl16) (by rw [HFl.out]; exact HCo2.out) fa nt fc a7 p7 W (F7.out.kept kW) (by rw [HSL.out]; exact H7.out.keptN kW)
        rw [HSL.out] at this
        exact this.mono fun e w' ⟨a', n', c', h1, h2, h3⟩ => ⟨a', n', c', h1, h2.toLIn, h3⟩
      have CP2 : Hid (∀ W, Kept Nil w7 W → Calls Try.prog 13 #[.slice fa (nt - 1) fc, .slice a7 j p7] W fun e w' => ∃ a' n' c', e = .returned (.slice a' n' c') ∧ LIn w' a' n' (smL ((factsM 1 ts).take (nt - 1)) S []) ∧ Kept Nil W w') := Lib.hid fun W kW => by
        have hl1 : ((factsM 1 ts).take (nt - 1)).length = nt - 1 := by rw [List.length_take, HFl.out]; omega
        have := HP.out ((factsM 1 ts).take (nt - 1)) (fun f hf => HFs.out f (List.mem_of_mem_take hf)) (by rw [hl1]; omega) S HOk.out (by rw [HSL.out]; exact hl16) (by rw [hl1]; exact Nat.le_trans (Nat.pow_le_pow_left (by omega) _) HCo2.out) fa (nt - 1) fc a7 p7 W (In_takeM (F7.out.kept kW) (by omega)) (by rw [HSL.out]; exact H7.out.keptN kW)
        rw [HSL.out] at this
        exact this.mono fun e w' ⟨a', n', c', h1, h2, h3⟩ => ⟨a', n', c', h1, h2.toLIn, h3⟩
      obtain ⟨m, hm⟩ : ∃ m, nt - 1 = m := ⟨_, rfl⟩
      rw [hm] at CP2
      have s1 : IntKind.i64.wrap ((nt : Int) - 1) = (m : Int) := by rw [IntKind.wrap_i64]; omega
      have b1 : (0 : Int) ≤ (m : Int) := by omega
      have b2 : (m : Int) ≤ (fc : Int) := by omega
      have HM := Lib.hid hm
      clear hm
      have HFilt : Hid ((smL (factsM 1 ts) S []).filter (fun y => !(y.contains (nt : Int))) = smL ((factsM 1 ts).take (nt - 1)) S []) := Lib.hid (by
        have hnl : nt - 1 < (factsM 1 ts).length := by rw [HFl.out]; omega
        have hid := factsM_idM (List.getElem?_eq_getElem hnl)
        have hidn : ((factsM 1 ts)[nt - 1]'hnl).1 = (nt : Int) := by rw [hid]; omega
        have := smL_more ((factsM 1 ts).take (nt - 1)) ((factsM 1 ts)[nt - 1]'hnl) (fun g hg => by
          obtain ⟨q, hq⟩ := List.getElem?_of_mem hg
          rw [List.getElem?_take] at hq
          split at hq
          · have := factsM_idM hq
            rw [this, hidn]; omega
          · cases hq) S HK1S.out []
        rw [htf, hidn] at this
        rw [this]; simp)
      have HL1 : Hid ((smL (factsM 1 ts) S []).length ≤ 3000) := Lib.hid (Nat.le_trans ((sm_len (factsM 1 ts)).2 S []) (by rw [HFl.out]; exact HCo2.out))
      have HL2 : Hid (∀ y ∈ smL (factsM 1 ts) S [], y.length ≤ 16) := Lib.hid fun y hy => by
        have := (sm_ids (factsM 1 ts)).2 S [] y hy
        rw [HSL.out] at this
        simp at this
        omega
      have S0 := Lib.hid (Kept.refl Nil w7).drew
      clear htf
      generalize smL (factsM 1 ts) S [] = M1 at *
      rw [← HM.out] at CP2
      generalize smL ((factsM 1 ts).take (nt - 1)) S [] = M2 at *
      rw [HM.out] at CP2
      go_upto_region 13 with fail
      go_region_held3 (Kept Nil w7)
        (first | (with_reducible assumption) | (with_reducible exact S0.out) | (with_reducible exact k9) | (with_reducible exact k8))
        (first
          | (go_at_call 13; (with_reducible refine (CP1.out _ (by with_reducible assumption)).mono ?_); rintro e w8 ⟨a8, n8, c8, rfl, h8, k8'⟩; have k8 := Kept.trans (by with_reducible assumption : Kept Nil w7 _) k8' (fun _ _ g => g); first | (have h9 := h9.kept k8') | skip)
          | (go_at_call 13; (with_reducible refine (CP2.out _ (by with_reducible assumption)).mono ?_); rintro e w9 ⟨a9, n9, c9, rfl, h9, k9'⟩; have k9 := Kept.trans (by with_reducible assumption : Kept Nil w7 _) k9' (fun _ _ g => g); first | (have h8 := h8.kept k9') | skip))
      all_goals
        rename World => wz
        have KZ : Hid (Kept Nil w7 wz) := Lib.hid (by with_reducible assumption)
        have L1 : Hid (LIn wz a8 n8 M1) := Lib.hid h8
        have L2 : Hid (LIn wz a9 n9 M2) := Lib.hid h9
        have hn8 : n8 ≤ 3000 := by rw [← L1.out.1]; exact HL1.out
        obtain ⟨cnt, q0, q1, q2, q3⟩ := filter_walk _ _ _ HFilt.out
        rw [L1.out.1, L2.out.1] at q3
        have Q0 := Lib.hid q0
        have Q1 := Lib.hid q1
        have Q2 := Lib.hid q2
        have Q3 := Lib.hid q3
        clear q0 q1 q2 q3 h8 h9 CP1 CP2
        go_wp2_with fail
        go_loopw [12, 76] (fun kv i wr => ∃ q : Nat, q ≤ n8 ∧ i = .int .i64 q ∧ kv = .int .i64 (cnt q : Nat) ∧ cnt q ≤ q ∧ Kept Nil wz wr) (fun _ i _ => n8 - (intOf i).toNat)
        case atStart => exact ⟨0, by omega, rfl, by rw [Q0.out]; rfl, by rw [Q0.out]; exact Nat.le_refl _, Kept.refl _ _⟩
        case round =>
          obtain ⟨q, hq, rfl, rfl, hcq, hK⟩ := hrel
          have HK := Lib.hid hK
          clear hK
          by_cases hlt : q < n8
          · obtain ⟨y, hy⟩ : ∃ y, M1[q]? = some y := ⟨_, List.getElem?_eq_getElem (by rw [L1.out.1]; exact hlt)⟩
            obtain ⟨b1', o1, a', n', c', rfl, hb1, hc1, hi1⟩ := (L1.out.kept HK.out).at_ hy
            have HY := Lib.hid hi1
            have HMy := Lib.hid hy
            have hn16 : n' ≤ 16 := by rw [← hi1.1]; exact HL2.out y (List.mem_of_getElem? hy)
            rename World => wo
            clear hi1 hy
            go_wp2_with fail
            go_loopw [15, 82] (fun hv i wr => ∃ r : Nat, r ≤ n' ∧ i = .int .i64 r ∧ hv = .bool ((y.take r).contains (nt : Int)) ∧ wr = wo) (fun _ i _ => n' - (intOf i).toNat)
            case atStart => exact ⟨0, by omega, rfl, rfl, rfl⟩
            case round =>
              obtain ⟨r, hr, rfl, rfl, rfl⟩ := hrel
              by_cases hrl : r < n'
              · obtain ⟨z, hz⟩ : ∃ z, y[r]? = some z := ⟨_, List.getElem?_eq_getElem (by rw [HY.out.1]; exact hrl)⟩
                obtain ⟨bz, oz, rfl, hbz, hcz⟩ := HY.out.at_ hz
                have d0 := hcz 0 _ rfl
                simp only [Nat.add_zero, Nat.mul_one] at d0
                have HT : Hid ((y.take (r + 1)).contains (nt : Int) = ((y.take r).contains (nt : Int) || (z == (nt : Int)))) := Lib.hid (contains_take hz)
                generalize (y.take r).contains (nt : Int) = pp at *
                clear hz hcz
                cases pp
                · go_wp2_with fail
                  go_roundw
                  case rel => exact ⟨r + 1, by omega, by go_num, by rw [HT.out, Bool.false_or], trivial⟩
                  case measure => simp [intOf]; omega
                · go_wp2_with fail
                  go_roundw
                  case rel => exact ⟨r + 1, by omega, by go_num, by rw [HT.out, Bool.true_or], trivial⟩
                  case measure => simp [intOf]; omega
              · obtain rfl : r = n' := by omega
                have HTk : Hid (y.take r = y) := Lib.hid (List.take_of_length_le (by rw [HY.out.1]; exact Nat.le_refl _))
                rw [HTk.out]
                have QF := Q1.out q y HMy.out
                have QT := Q2.out q y HMy.out
                generalize y.contains (nt : Int) = hs at *
                cases hs
                · obtain ⟨e1, e2⟩ := QT rfl
                  have HE1 := Lib.hid e1
                  have hk9 : cnt q < n9 := by rw [← L2.out.1]; exact (List.getElem?_eq_some_iff.1 e2).1
                  obtain ⟨b2, o2, a2', n2', c2', rfl, hb2, hc2, hi2⟩ := (L2.out.kept HK.out).at_ e2
                  have HI2 := Lib.hid hi2
                  clear QF QT e1 e2 hi2
                  generalize cnt q = kq at *
                  go_wp2_with fail
                  refine (same_oneM HY.out HI2.out (by rw [HY.out.1]; omega)).mono ?_
                  rintro e w5 ⟨rfl, k5⟩
                  have K5 := Lib.hid (HK.out.trans k5 (fun _ _ g => g))
                  clear k5
                  go_wp2_with fail
                  go_roundw
                  case rel => exact ⟨q + 1, by omega, by go_num, by rw [HE1.out]; go_num, by rw [HE1.out]; omega, K5.out⟩
                  case measure => simp [intOf]; omega
                · have HE1 := Lib.hid (QF rfl)
                  clear QF QT
                  go_wp2_with fail
                  go_roundw
                  case rel => exact ⟨q + 1, by omega, by go_num, by rw [HE1.out], by rw [HE1.out]; omega, HK.out⟩
                  case measure => simp [intOf]; omega
          · obtain rfl : q = n8 := by omega
            rw [Q3.out]
            have hcc := hcq
            go_wp2_with fail
            refine (HA.out _).mono ?_
            rintro e w5 ⟨rfl, k5⟩
            go_wp2_with fail
            go_ret
            exact ⟨rfl, ((K7.out.trans KZ.out (fun _ _ g => g)).trans HK.out (fun _ _ g => g)).trans k5 (fun _ _ g => g)⟩
end
section
open Go.RowKit
set_option maxRecDepth 100000

/-- Lists of numbers, each no longer than its capacity. -/
def LInC (w : World) (a : Option Addr) (n : Nat) (L : List (List Int)) : Prop :=
  L.length = n ∧ (n = 0 ∨ ∃ b o, a = some ⟨b, o, none⟩ ∧ b < w.heap.size ∧ ∀ (j : Nat) l, L[j]? = some l → ∃ a' n' c', w.cell? ⟨b, o + j, none⟩ = some (.slice a' n' c') ∧ In cN 1 w a' n' l ∧ n' ≤ c')
section
variable {w w' : World} {a : Option Addr} {n : Nat} {L : List (List Int)}
theorem LInC.kept (h : LInC w a n L) (k : Kept Nil w w') : LInC w' a n L :=
  ⟨h.1, h.2.imp id fun ⟨b, o, e, hb, hc⟩ => ⟨b, o, e, Nat.lt_of_lt_of_le hb k.size, fun j l hj => by
    obtain ⟨a', n', c', h1, h2, h3⟩ := hc j l hj
    exact ⟨a', n', c', (k.cell (p := ⟨b, o + j, none⟩) hb (fun e => e)).trans h1, h2.kept k, h3⟩⟩⟩
theorem LInC.at_ (h : LInC w a n L) {j : Nat} {l : List Int} (hj : L[j]? = some l) : ∃ b o a' n' c', a = some ⟨b, o, none⟩ ∧ b < w.heap.size ∧ w.cell? ⟨b, o + j, none⟩ = some (.slice a' n' c') ∧ In cN 1 w a' n' l ∧ n' ≤ c' := by
  rcases h.2 with e | ⟨b, o, e, hb, hc⟩
  · have := h.1
    rw [e] at this
    rw [List.length_eq_zero_iff.1 this] at hj; cases hj
  · obtain ⟨a', n', c', h1, h2, h3⟩ := hc j l hj
    exact ⟨b, o, a', n', c', e, hb, h1, h2, h3⟩
end
def PartialC : Prop := ∀ (fs : List F4), (∀ f ∈ fs, okT f.2 = true) → fs.length ≤ 12 → ∀ (l : List St), (∀ x ∈ l, x.okS) → l.length ≤ 16 → (fs.length + 1) ^ posSL l ≤ 3000 → ∀ (fa : Option Addr) (fn fc : Nat) (a : Option Addr) (cap : Nat) (w : World), In cF 4 w fa fn fs → SHolds w Any2 (.slice a l.length cap) l →
  Calls Try.prog 13 #[.slice fa fn fc, .slice a l.length cap] w fun e w' => ∃ a' n' c', e = .returned (.slice a' n' c') ∧ LInC w' a' n' (smL fs l []) ∧ Kept Nil w w'
theorem PaI.linC {B q : Nat} {D : List (List F4)} {F : Nat → Prop} {w : World} (h : PaI B q D F w) : ∃ ra rc, Blk w q 35 #[.slice ra D.length rc] ∧ LInC w ra D.length (D.map fun ch => ch.map Prod.fst) := by
  obtain ⟨ra, rc, ps, h⟩ := h
  refine ⟨ra, rc, h.bq, by rw [List.length_map], ?_⟩
  have hI := h.row.toIn cM1_len (by decide)
  rcases h.row.2 with ⟨e1, e2⟩ | ⟨g, cap, cur, e1, hb, hg, _⟩
  · left
    rw [h.len] at e2; exact e2
  · right
    have ea : ra = some ⟨g, 0, none⟩ := by injection e1
    subst ea
    refine ⟨g, 0, rfl, (h.row.lt g rfl).2, fun j l hj => ?_⟩
    rw [← h.eq, List.getElem?_map] at hj
    obtain ⟨p, hp, rfl⟩ := Option.map_eq_some_iff.1 hj
    obtain ⟨b, off, e, _, hc⟩ := hI.at_ hp
    cases e
    have hids := h.ids p (List.mem_of_getElem? hp)
    obtain ⟨a', c', e'⟩ := hids.shape
    have h0 := hc 0 p.1 rfl
    rw [e'] at h0 hids
    refine ⟨a', _, c', ?_, hids.toIn cN_len (by decide), hids.caps.2.1⟩
    rw [Nat.mul_one] at h0
    exact h0
set_option maxHeartbeats 4000000 in
theorem partialC : PartialC := by
  intro fs hfs h12 l hok hl16 hcost fa fn fc a cap w hF hH
  obtain ⟨len, hl⟩ : ∃ len, l.length = len := ⟨_, rfl⟩
  rw [hl] at hH ⊢
  have hg : ∀ x ∈ l, x.goodS := fun x hx => (hok x hx).1
  have hkd : ∀ x ∈ l, kindS x := fun x hx => (hg x hx).kind
  have hfn : fn ≤ 12 := by rw [← hF.1]; exact h12
  have CRt := Lib.hid (rightP_any l hok a len cap hl (by omega) w hH)
  have hsm := matchE_sm (fs := fs) hkd
  have hMl : (matchE fs l).length ≤ 3000 := by
    have h1 := (sm_len fs).2 l []
    rw [← hsm, List.length_map] at h1
    exact Nat.le_trans h1 hcost
  have hch : ∀ ch ∈ matchE fs l, ch.length ≤ 5000 := fun ch hc => by
    have h1 := sm_ids fs
    have h2 := h1.2 l [] (ch.map Prod.fst) (by rw [← hsm]; exact List.mem_map_of_mem hc)
    rw [List.length_map] at h2
    simp at h2
    omega
  have hcn : cntL l ≤ 1000 := by have := cntL_okS hok; omega
  have CM : Hid (∀ w1, Kept Nil w w1 → Calls Try.prog 32 #[.slice fa fn fc, .slice a len cap, .func (.func 33) #[] #[.pointer (some ⟨w1.heap.size, 0, none⟩)]] (w1.alloc (.cells #[.slice none 0 0] 35)) fun e w' => e = .returned (.tuple #[]) ∧ ∃ F', PaI w.heap.size w1.heap.size (matchE fs l) F' w' ∧ (∀ b, F' b → b = w1.heap.size ∨ (w1.alloc (.cells #[.slice none 0 0] 35)).heap.size ≤ b) ∧ Kept (fun b => b = w1.heap.size) (w1.alloc (.cells #[.slice none 0 0] 35)) w') := Lib.hid fun w1 k1 => by
    have kA : Kept Nil w1 (w1.alloc (.cells #[.slice none 0 0] 35)) := (Kept.refl Nil w1).alloc _
    refine match_any (W0 := w) (fs := fs) (l := l) (I := PaI w.heap.size w1.heap.size) (F0 := fun b => b = w1.heap.size) _ (k1.trans kA (fun _ _ e => e)) hl hg hF hH (by omega) hcn ⟨enter_of (by rfl) (by decide) (by kernel_rfl), fun D F v hI b hb => hI.lt b hb, fun D F v v' G hI kG hG => hI.kept kG (fun b hb => (hG b hb).2), fun D ch F v s ia ni ic ba nb bc hI hE kv hBv hi hb => ?_⟩ ⟨none, 0, [], Blk.new w1 _ _, Row.nil _ _, fun p hp => (by cases hp), rfl, fun b => ⟨fun e => .inl e, fun e => ?_⟩, k1.size⟩
    · obtain ⟨r, hr⟩ := hE
      have hD : D.length ≤ 5000 := by
        have := congrArg List.length hr
        rw [List.length_append] at this
        omega
      have := partClo_any v hI hD ch (hch ch (by rw [hr]; simp)) s _ ia ni ic (.slice ba nb bc) hi
      exact this
    · rcases e with e | e | ⟨p, hp, _⟩
      · exact e
      · cases e
      · cases hp
  have HS := Lib.hid hsm
  clear hF hH hok hg hkd hMl hch hsm hcost hfs h12
  go_enter Try.func13, Try.ntmps13
  go_wp2_with fail
  refine CRt.out.mono ?_
  rintro e w1 ⟨rfl, k1⟩
  have K1 := Lib.hid k1
  have CM1 := Lib.hid (CM.out w1 k1)
  clear k1 CM CRt
  go_wp2_with fail
  refine CM1.out.mono ?_
  rintro e w2 ⟨rfl, F', hP, hF', k2⟩
  obtain ⟨ra, rc, hb, hL⟩ := hP.linC
  have c0 := hb.cell 0
  have hbw := hb.lt
  simp at c0
  have H2 := Lib.hid (And.intro hL k2)
  clear hP hF' k2 hb hL CM1
  go_wp2_with fail
  go_ret
  refine ⟨ra, _, rc, rfl, ?_, (K1.out.trans ((Kept.refl Nil w1).alloc _) (fun _ _ e => e)).trans H2.out.2 (fun i hi e => ?_)⟩
  · rw [← HS.out]; exact H2.out.1
  · have := K1.out.size
    omega
end
section
open Go.RowKit
set_option maxRecDepth 100000

/-- What a region that makes memory keeps: one cell, and all that was. -/
abbrev SeJ (w : World) (b o : Nat) (v : Value) (W : World) : Prop := W.cell? ⟨b, o, none⟩ = some v ∧ Kept Nil w W
theorem SeJ.drew {w W : World} {b o : Nat} {v : Value} (h : SeJ w b o v W) : SeJ w b o v W.drew := ⟨h.1, h.2.drew⟩
theorem SeJ.alloc {w W : World} {b o : Nat} {v : Value} (h : SeJ w b o v W) (x : Obj) : SeJ w b o v (W.alloc x) :=
  ⟨(World.cell?_alloc_past _ _ _ (World.block_lt_of_cell? _ _ h.1)).trans h.1, h.2.alloc x⟩
theorem blk_two (W : World) (o : Obj) (t : TypeId) (cs : Array Value) : Blk ((W.alloc o).alloc (.cells cs t)).drew (W.heap.size + 1) t cs := by
  have := (Blk.new (W.alloc o) t cs).drew
  rwa [show (W.alloc o).heap.size = W.heap.size + 1 from Array.size_push _] at this
theorem SeJ.kept {w W : World} {b o : Nat} {v : Value} (h : SeJ w b o v w) (k : Kept Nil w W) : SeJ w b o v W :=
  ⟨(k.cell (p := ⟨b, o, none⟩) (World.block_lt_of_cell? _ _ h.1) (fun e => e)).trans h.1, k⟩
theorem In_takeN {w : World} {a : Option Addr} {n m : Nat} {y : List Int} (h : In cN 1 w a n y) (hm : m ≤ n) : In cN 1 w a m (y.take m) := by
  refine ⟨by rw [List.length_take, h.1]; omega, ?_⟩
  rcases h.2 with e | ⟨b, off, e, hb, hc⟩
  · exact .inl (by omega)
  · refine .inr ⟨b, off, e, hb, fun j x i v hj => hc j x i v ?_⟩
    rw [List.getElem?_take] at hj
    split at hj
    · exact hj
    · cases hj
theorem SHolds.takeA {w : World} {a : Option Addr} {n cap : Nat} {x : List St} (h : SHolds w Any2 (.slice a n cap) x) {m : Nat} (hm : m ≤ n) : SHolds w Any2 (.slice a m cap) (x.take m) := by
  rcases Nat.eq_zero_or_pos m with rfl | hp
  · rw [List.take_zero]; exact .nil _ _
  · have hnx := h.fits
    obtain ⟨⟨hd, sb⟩, hx⟩ : ∃ y, x[0]? = some y := ⟨_, List.getElem?_eq_getElem (by omega)⟩
    obtain ⟨b, o, _, _, _, _, rfl, _⟩ := h.at_ hx
    exact h.take hm
set_option maxHeartbeats 8000000 in
theorem plainJoins_any (nm : ByteArray) (hnm : nm.size ≤ maxLen) (l : List Sh) (a : Option Addr) (cap : Nat) (_hcap : l.length ≤ cap ∧ cap ≤ maxLen) (tA : Option Addr) (nt ct : Nat) (ts : List T3) (w : World) (h : Holds cA w (fun b _ => b < w.heap.size) (.slice a l.length cap) l) (ht : In cT3 3 w tA nt ts) (hm : nt ≤ maxLen) :
    Calls Try.prog 7 #[vRule nm (.slice a l.length cap), .slice tA nt ct] w fun e w' => e = .returned (.bool true) ∧ Kept Nil w w' := by
  have hm1 := hm
  unfold maxLen at hm1
  have HA := Lib.hid awakeOK
  have HP := Lib.hid partialC
  have CF := Lib.hid (fun W (kW : Kept Nil w W) => fineP_any nm hnm l (fun b _ => b < w.heap.size) a cap nt hm W (h.keptN kW) (fun b o hb => Nat.lt_of_lt_of_le hb kW.size))
  unfold Yes2 at CF
  have CR : Hid (∀ w', Kept Nil w w' → countL l ≤ 16 → Calls Try.prog 12 #[vRule nm (.slice a l.length cap)] w' fun e w'' => ∃ a' cap', e = .returned (vRule nm (.slice a' l.length cap')) ∧ Holds cR w'' (okM w'.heap.size w'') (.slice a' l.length cap') l ∧ Kept Nil w' w'') := Lib.hid fun w' k hc => refRuleOf_any nm l (by omega) _ a cap w' (h.keptN k)
  have CFa := Lib.hid (fun W (kW : Kept Nil w W) (h12 : nt ≤ 12) => facts_any ts tA nt ct 1 (by decide) (by omega) W (ht.kept kW))
  unfold FactsEnd at CFa
  have hts := ht.1
  have HTS := Lib.hid hts
  obtain ⟨len, hlen⟩ : ∃ len, l.length = len := ⟨_, rfl⟩
  rw [hlen] at CF CR ⊢
  have HL := Lib.hid hlen
  have K0 := Lib.hid ((Kept.refl Nil w).alloc (.cells #[.string nm, .slice a len cap] 24))
  have B0 := Lib.hid (Blk.new w 24 #[.string nm, .slice a len cap])
  clear h ht hlen hnm hts hm
  unfold vRule at CF CR ⊢
  go_enter Try.func7, Try.ntmps7
  go_wp2_with fail
  refine (CF.out _ K0.out).mono ?_
  rintro e w1 ⟨b, rfl, k1, hb⟩
  have K1 := Lib.hid (K0.out.trans k1 (fun _ _ g => g))
  have B1 := Lib.hid (B0.out.kept k1 (fun e => e))
  have HB := Lib.hid hb
  clear k1 hb K0 B0 CF
  cases b
  · go_wp2_with fail
    refine (HA.out _).mono ?_
    rintro e w3 ⟨rfl, k3⟩
    go_wp2_with fail
    go_ret
    exact ⟨rfl, K1.out.trans k3 (fun _ _ g => g)⟩
  have HG : Hid (nt ≤ 12 ∧ (countL l ≤ 16 ∧ chkL l 1 = 0 ∧ len ≠ 0) ∧ (nt + 1) ^ posAL l ≤ 3000) := Lib.hid (HB.out rfl)
  clear HB
  go_wp2_with fail
  refine (CFa.out _ K1.out HG.out.1).mono ?_
  rintro e w2 ⟨k2, hfac⟩
  have K2 := Lib.hid (K1.out.trans k2 (fun _ _ g => g))
  have B2 := Lib.hid (B1.out.kept k2 (fun e => e))
  clear k2 B1 CFa
  rcases hfac with ⟨fa, fc, rfl, hrow, hok⟩ | rfl
  rotate_left
  · go_wp2_with fail
    refine (HA.out _).mono ?_
    rintro e w3 ⟨rfl, k3⟩
    go_wp2_with fail
    go_ret
    exact ⟨rfl, K2.out.trans k3 (fun _ _ g => g)⟩
  have HFs := Lib.hid (factsM_ok (d := 1) hok)
  have HFl := Lib.hid ((factsM_len 1 ts).trans HTS.out)
  rw [HTS.out] at hrow
  have HFi := Lib.hid (hrow.toIn cF_len (by decide))
  rw [show ((1 : Nat) : Int) = 1 from rfl] at HFi
  have htl := HTS.out
  generalize hfs : factsM 1 ts = fs at *
  rw [htl]
  have c0 := B2.out.cell 0
  have c1 := B2.out.cell 1
  simp at c0 c1
  have HGood : Hid (∀ x ∈ l, x.good) := Lib.hid fun x hx => chk_good x 1 (chkL_all.1 HG.out.2.1.2.1 x hx)
  have HCo : Hid ((fs.length + 1) ^ posAL l ≤ 3000) := Lib.hid (by rw [HFl.out]; exact HG.out.2.2)
  have HSt := Lib.hid ((st_good.2 l HGood.out []))
  have HCo2 : Hid ((fs.length + 1) ^ posSL (stL l []) ≤ 3000) := Lib.hid (Nat.le_trans (pow_le_of _ HSt.out.2) HCo.out)
  have HSL : Hid ((stL l []).length = len) := Lib.hid (by rw [stL_length]; exact HL.out)
  have hl16 : len ≤ 16 := by have := length_countL l; have := HG.out.2.1.1; have := HL.out; omega
  have CO : Hid (∀ W ok a cap, Holds cR W ok (.slice a len cap) l → Calls Try.prog 15 #[.slice a len cap] W fun e w' => ∃ a cap, e = .returned (.slice a len cap) ∧ SHolds w' (okM W.heap.size w') (.slice a len cap) (stL l []) ∧ Kept Nil W w') := Lib.hid fun W ok a cap hh => by
    have := refCompile_of of_all l ⟨HG.out.2.1.1, HG.out.2.1.2.1⟩ ok a cap W (by rw [HL.out]; exact hh)
    unfold StsEnd at this
    rw [stL_length, HL.out] at this
    exact this
  have HM : Hid (massL (stL l []) ≤ 64) := Lib.hid (by have := st_mass.2 l []; have := HG.out.2.1.1; omega)
  have HOk := Lib.hid (stL_okS HG.out.2.1.1 HG.out.2.1.2.1)
  have CS : Hid (∀ W ok a cap, SHolds W ok (.slice a len cap) (stL l []) → Calls Try.prog 14 #[.slice a len cap] W fun e w' => ∃ a cap, e = .returned (.slice a len cap) ∧ SHolds w' (okM W.heap.size w') (.slice a len cap) (stL l []) ∧ Kept Nil W w') := Lib.hid fun W ok a cap hh => by
    have := steps_any (stL l []) (by have := HM.out; omega) ok a cap W (by rw [HSL.out]; exact hh)
    unfold StsEnd at this
    rw [HSL.out] at this
    exact this
  have hn12 : nt ≤ 12 := HG.out.1
  obtain ⟨S, hS⟩ : ∃ S, stL l [] = S := ⟨_, rfl⟩
  rw [hS] at CO CS HOk HSL HCo2
  clear hfs hrow hok htl HGood HCo HSt HM hS
  go_wp2_with fail
  refine (CR.out _ K2.out HG.out.2.1.1).mono ?_
  rintro e w3 ⟨a3, c3, rfl, h3, k3⟩
  have K3 := Lib.hid (K2.out.trans k3 (fun _ _ g => g))
  have H3 := Lib.hid h3
  have F3 := Lib.hid (HFi.out.kept k3)
  have hfld := fieldRule nm a3 len c3
  clear k3 h3 c0 c1 CR HFi B2 K2
  go_wp2_with fail
  refine (CO.out _ _ _ _ H3.out).mono ?_
  rintro e w4 ⟨a4, c4, rfl, h4, k4⟩
  have K4 := Lib.hid (K3.out.trans k4 (fun _ _ g => g))
  have F4' := Lib.hid (F3.out.kept k4)
  have H4 := Lib.hid h4
  clear k4 h4 CO H3 F3 hfld K3
  go_wp2_with fail
  refine (CS.out _ _ _ _ H4.out).mono ?_
  rintro e w5 ⟨a5, c5, rfl, h5, k5⟩
  have K5 := Lib.hid (K4.out.trans k5 (fun _ _ g => g))
  have F5 := Lib.hid (F4'.out.kept k5)
  have H5 := Lib.hid (h5.mono (ok' := Any2) (fun _ _ _ => trivial))
  have hc5 := h5.fits.2
  clear k5 h5 CS H4 F4' K4
  have CP : Hid (∀ W q, Kept Nil w5 W → q ≤ len → Calls Try.prog 13 #[.slice fa nt fc, .slice a5 q c5] W fun e w' => ∃ a' n' c', e = .returned (.slice a' n' c') ∧ LInC w' a' n' (smL fs (S.take q) []) ∧ Kept Nil W w') := Lib.hid fun W q kW hq => by
    have hxm : (S.take q).length = q := by rw [List.length_take, HSL.out]; omega
    have := HP.out fs HFs.out (by rw [HFl.out]; exact hn12) (S.take q) (fun c hc => HOk.out c (List.mem_of_mem_take hc)) (by rw [hxm]; omega) (Nat.le_trans (pow_le_of _ (posSL_take S q)) HCo2.out) fa nt fc a5 c5 W (F5.out.kept kW) (by rw [hxm]; exact (H5.out.keptN kW).takeA hq)
    rw [hxm] at this
    exact this
  have CP0 : Hid (∀ W, Kept Nil w5 W → Calls Try.prog 13 #[.slice fa nt fc, .slice none 0 0] W fun e w' => ∃ a' n' c', e = .returned (.slice a' n' c') ∧ LInC w' a' n' (smL fs [] []) ∧ Kept Nil W w') := Lib.hid fun W kW => by
    have := HP.out fs HFs.out (by rw [HFl.out]; exact hn12) [] (fun c hc => by cases hc) (by simp) (by rw [posSL_nil]; simp) fa nt fc none 0 W (F5.out.kept kW) (.nil _ _)
    exact this
  have HL1 : Hid (∀ q, (smL fs (S.take q) []).length ≤ 3000) := Lib.hid fun q => Nat.le_trans ((sm_len fs).2 _ []) (Nat.le_trans (pow_le_of _ (posSL_take S q)) HCo2.out)
  have HL2 : Hid (∀ q, ∀ y ∈ smL fs (S.take q) [], y.length ≤ 16) := Lib.hid fun q y hy => by
    have := (sm_ids fs).2 (S.take q) [] y hy
    rw [List.length_take, HSL.out] at this
    simp at this
    omega
  clear HP HFs HCo2 HOk
  go_wp2_with fail
  refine (CP0.out _ (Kept.refl _ _)).mono ?_
  rintro e w6 ⟨a6, n6, c6, rfl, h6, k6⟩
  obtain rfl : n6 = 1 := by rw [← h6.1, smL_nil]; rfl
  have K6 := Lib.hid k6
  have L6 := Lib.hid h6
  obtain ⟨b6, o6, a', n', c', rfl, hb6, hc6, hi6, _⟩ := h6.at_ (j := 0) (l := []) (by rw [smL_nil]; rfl)
  obtain rfl : n' = 0 := hi6.1.symm
  simp only [Nat.add_zero] at hc6
  clear k6 h6 CP0 hi6
  go_wp2_with fail
  go_loopw [8, 48] (fun wv i wr => ∃ (j : Nat) (a8 : Option Addr) (n8 c8 : Nat), j ≤ len ∧ i = .int .i64 j ∧ wv = .slice a8 n8 c8 ∧ LInC wr a8 n8 (smL fs (S.take j) []) ∧ Kept Nil w5 wr) (fun _ i _ => len - (intOf i).toNat)
  case atStart => exact ⟨0, _, _, _, by omega, rfl, rfl, L6.out, K6.out⟩
  case round =>
    obtain ⟨j, a8, n8, c8, hj, rfl, rfl, hW, hK⟩ := hrel
    have HK := Lib.hid hK
    have HW := Lib.hid hW
    clear hK hW
    by_cases hlt : j < len
    rotate_left
    · obtain rfl : j = len := by omega
      go_wp2_with fail
      refine (HA.out _).mono ?_
      rintro e w9 ⟨rfl, k9⟩
      go_wp2_with fail
      go_ret
      exact ⟨rfl, (K5.out.trans HK.out (fun _ _ g => g)).trans k9 (fun _ _ g => g)⟩
    obtain ⟨j1, hj1⟩ : ∃ j1, j + 1 = j1 := ⟨_, rfl⟩
    have s1 : IntKind.i64.wrap ((j : Int) + 1) = (j1 : Int) := by rw [IntKind.wrap_i64]; omega
    have b1 : (0 : Int) ≤ (j1 : Int) := by omega
    have b2 : (j1 : Int) ≤ (c5 : Int) := by omega
    have hj1l : j1 ≤ len := by omega
    have HJ1 := Lib.hid hj1
    obtain ⟨⟨⟨k, k0, k1, k2, tst⟩, sb⟩, hx⟩ : ∃ z, S[j]? = some z := ⟨_, List.getElem?_eq_getElem (by rw [HSL.out]; omega)⟩
    have HE : Hid (Emb (decide (k = 1)) (smL fs (S.take j) []) (smL fs (S.take j1) [])) := Lib.hid (by
      have := smL_emb fs (.mk ⟨k, k0, k1, k2, tst⟩ sb) (S.take j) []
      have e : S.take j ++ [.mk ⟨k, k0, k1, k2, tst⟩ sb] = S.take j1 := by rw [← HJ1.out, List.take_add_one, hx]; rfl
      rw [e] at this
      exact this)
    have CPj := Lib.hid (CP.out · j1 · hj1l)
    have hW3 : n8 ≤ 3000 := by rw [← HW.out.1]; exact HL1.out j
    have HN3 := Lib.hid (HL1.out j1)
    have HW2 := Lib.hid (HL2.out j)
    have HN2 := Lib.hid (HL2.out j1)
    have HX := Lib.hid hx
    clear hx hj1
    go_wp2_with fail
    refine (CPj.out _ HK.out).mono ?_
    rintro e w7 ⟨a7, n7, c7, rfl, h7, k7⟩
    have K7 := Lib.hid (HK.out.trans k7 (fun _ _ g => g))
    have W7 := Lib.hid (HW.out.kept k7)
    have N7 := Lib.hid h7
    have hN3 : n7 ≤ 3000 := by rw [← h7.1]; exact HN3.out
    clear k7 h7 CPj HW HK HN3
    generalize hMW : smL fs (S.take j) [] = MW at *
    generalize hMN : smL fs (S.take j1) [] = MN at *
    go_wp2_with fail
    go_loopw [11, 59] (fun kv i wr => ∃ q r : Nat, q ≤ n7 ∧ i = .int .i64 q ∧ kv = .int .i64 r ∧ r ≤ n8 ∧ Emb (decide (k = 1)) (MW.drop r) (MN.drop q) ∧ Kept Nil w7 wr) (fun _ i _ => n7 - (intOf i).toNat)
    case atStart => exact ⟨0, 0, by omega, rfl, rfl, by omega, HE.out, Kept.refl _ _⟩
    case round =>
      obtain ⟨q, r, hq, rfl, rfl, hr, hE, hK⟩ := hrel
      have HK := Lib.hid hK
      have HE2 := Lib.hid hE
      clear hK hE
      by_cases hql : q < n7
      rotate_left
      · obtain rfl : q = n7 := by omega
        go_wp2_with fail
        go_roundw
        case rel => exact ⟨j1, a7, q, c7, hj1l, by rw [← HJ1.out], rfl, by rw [hMN]; exact N7.out.kept HK.out, K7.out.trans HK.out (fun _ _ g => g)⟩
        case measure => have := HJ1.out; simp [intOf]; omega
      obtain ⟨y, hy⟩ : ∃ y, MN[q]? = some y := ⟨_, List.getElem?_eq_getElem (by rw [N7.out.1]; exact hql)⟩
      have hdN : MN.drop q = y :: MN.drop (q + 1) := by
        rw [List.drop_eq_getElem_cons (by rw [N7.out.1]; exact hql)]
        congr 1
        exact (List.getElem?_eq_some_iff.1 hy).2
      have HY16 := Lib.hid (HN2.out y (List.mem_of_getElem? hy))
      have HNe : Hid (k = 1 → y ≠ []) := Lib.hid fun hk => HE2.out.nonempty (decide_eq_true hk) y (by rw [hdN]; exact List.mem_cons_self)
      rw [hdN] at HE2
      obtain ⟨b1', o1, a', n', c', rfl, hb1, hc1, hi1, hcc⟩ := (N7.out.kept HK.out).at_ hy
      have HYI := Lib.hid hi1
      obtain ⟨bs, os, ta, tc, ua, uc, rfl, _, hr', _, _⟩ := (H5.out.keptN (K7.out.trans HK.out (fun _ _ g => g))).at_ HX.out
      have z0 := hr' 0 _ rfl
      simp only [Nat.add_zero] at z0
      have HZ0 := Lib.hid z0
      have hn16 : n' ≤ 16 := by rw [← hi1.1]; exact HY16.out
      obtain ⟨nn, hn1, hn2⟩ : ∃ nn : Nat, (k = 1 → nn + 1 = n') ∧ (k ≠ 1 → nn = n') := by
        by_cases hk : k = 1
        · have h0 := HNe.out hk
          have h1 := hi1.1
          refine ⟨n' - 1, fun _ => ?_, fun h => absurd hk h⟩
          have := List.length_pos_iff.2 h0
          omega
        · exact ⟨n', fun h => absurd h hk, fun _ => rfl⟩
      have HPre : Hid (preJ (decide (k = 1)) y = y.take nn) := Lib.hid (by
        unfold preJ
        have h1 := hi1.1
        by_cases hk : k = 1
        · rw [if_pos (decide_eq_true hk)]
          have := hn1 hk
          rw [show y.length - 1 = nn by omega]
        · rw [if_neg (by simpa using hk), List.take_of_length_le (by rw [hn2 hk]; omega)])
      have hnc : nn ≤ n' := by
        by_cases hk : k = 1
        · have := hn1 hk; omega
        · rw [hn2 hk]; exact Nat.le_refl _
      have HN12 := Lib.hid (And.intro hn1 hn2)
      rename World => wo
      clear hi1 hr' hdN hy hn1 hn2
      by_cases hk : k = 1
      · have hk1 : (k == 1) = true := by simpa using hk
        have e1 : IntKind.i64.wrap ((n' : Int) - 1) = (nn : Int) := by rw [IntKind.wrap_i64]; have := HN12.out.1 hk; omega
        have HKk := Lib.hid hk
        clear hk
        go_upto_region 21 with fail
        go_wp2_with fail
        go_loopw [11] (fun kv wr => ∃ r : Nat, r ≤ n8 ∧ kv = .int .i64 r ∧ Emb (decide (k = 1)) (MW.drop r) (y :: MN.drop (q + 1)) ∧ Kept Nil wo wr) (fun kv _ => n8 - (intOf kv).toNat)
        case atStart => exact ⟨r, hr, rfl, HE2.out, Kept.refl _ _⟩
        case round =>
          obtain ⟨r, hr, rfl, hE, hK⟩ := hrel
          have HKr := Lib.hid hK
          have HEr := Lib.hid hE
          clear hK hE
          have hrl : r < n8 := by
            rcases Nat.lt_or_ge r n8 with h | h
            · exact h
            · have := HEr.out
              rw [List.drop_eq_nil_of_le (by rw [W7.out.1]; exact h)] at this
              exact absurd this Emb.none
          obtain ⟨u, hu⟩ : ∃ u, MW[r]? = some u := ⟨_, List.getElem?_eq_getElem (by rw [W7.out.1]; exact hrl)⟩
          have hdW : MW.drop r = u :: MW.drop (r + 1) := by
            rw [List.drop_eq_getElem_cons (by rw [W7.out.1]; exact hrl)]
            congr 1
            exact (List.getElem?_eq_some_iff.1 hu).2
          rw [hdW] at HEr
          have HU16 := Lib.hid (HW2.out u (List.mem_of_getElem? hu))
          obtain ⟨b2, o2, a2, n2, c2, rfl, hb2, hc2, hi2, hcc2⟩ := (W7.out.kept (HK.out.trans HKr.out (fun _ _ g => g))).at_ hu
          have HUI := Lib.hid hi2
          have HYI2 := Lib.hid (In_takeN (HYI.out.kept HKr.out) hnc)
          rename World => wq
          have CSm : ∀ W b1 b2 t1 t2, Kept Nil wq W → Blk W b1 t1 #[.slice a2 n2 c2] → Blk W b2 t2 #[.slice a' nn c'] → Calls Try.prog 16 #[.slice (some ⟨b1, 0, none⟩) 1 1, .slice (some ⟨b2, 0, none⟩) 1 1] W fun e w' => e = .returned (.bool (decide (u = y.take nn))) ∧ Kept Nil wq w' := fun W b1 b2 t1 t2 kW B1 B2 => by
            refine (same_any (c := 1) (c' := 1) (lin_oneM B1 (HUI.out.kept kW)) (lin_oneM B2 (HYI2.out.kept kW)) (by decide) (by decide) (by have := HU16.out; simp; omega) (by have := HY16.out; simp; omega)).mono ?_
            rintro e w' ⟨rfl, k⟩
            exact ⟨by simp, kW.trans k (fun _ _ g => g)⟩
          have CSA := Lib.hid (CSm ((wq.alloc (.cells #[.slice a2 n2 c2] 49)).alloc (.cells #[.slice a' nn c'] 49)).drew wq.heap.size (wq.heap.size + 1) _ _ (((Kept.refl Nil wq).alloc _).alloc _).drew ((Blk.new wq _ _).alloc _).drew (blk_two wq _ _ _))
          have CSB := Lib.hid (CSm ((wq.alloc (.cells #[.slice a' nn c'] 49)).alloc (.cells #[.slice a2 n2 c2] 49)).drew (wq.heap.size + 1) wq.heap.size _ _ (((Kept.refl Nil wq).alloc _).alloc _).drew (blk_two wq _ _ _) ((Blk.new wq _ _).alloc _).drew)
          clear CSm
          have HDW := Lib.hid hdW
          clear hu hdW hi2
          have gl : decide ((r : Int) < (n8 : Int)) = true := decide_eq_true (by omega)
          have g0 : (0 : Int) ≤ (nn : Int) := by omega
          have g1 : (nn : Int) ≤ (c' : Int) := by omega
          go_upto_region 23 with fail
          go_cut [91] from 75 to 91 (fun v wx => v = .bool (!decide (u = y.take nn)) ∧ Kept Nil wq wx)
          case first =>
            have hS0 : SeJ wq b2 (o2 + r) (.slice a2 n2 c2) wq := ⟨hc2, Kept.refl _ _⟩
            go_region_held3 (SeJ wq b2 (o2 + r) (.slice a2 n2 c2))
              (repeat' (first | (with_reducible assumption) | (with_reducible exact hS0) | (with_reducible exact SeJ.kept hS0 k8) | (with_reducible refine SeJ.drew ?_) | (with_reducible refine SeJ.alloc ?_ _)))
              (first
                | (go_at_call 16; (first | (with_reducible refine CSA.out.mono ?_) | (with_reducible refine CSB.out.mono ?_)); rintro e w8 ⟨rfl, k8⟩))
            all_goals
              have K8 := Lib.hid k8
              clear k8 hS0
              go_wp2_with fail
              go_meet
              exact ⟨rfl, K8.out⟩
          case rest =>
            obtain ⟨rfl, kx⟩ := hcut
            have KX := Lib.hid kx
            clear kx CSA CSB gl
            by_cases hue : u = y.take nn
            · have hb : (!decide (u = y.take nn)) = false := by simp [hue]
              have HGt := Lib.hid (HEr.out.got)
              rw [hb]
              have z1 : wc.cell? ⟨bs, os + j * 6, none⟩ = some (.int .i64 k) := (HKr.out.trans KX.out (fun _ _ g => g)).cellOf HZ0.out
              have hk2 : (k != 1) = false := by rw [HKk.out]; rfl
              have hre : ((r : Int) == (n8 : Int)) = false := by simp; omega
              clear hb hue z0
              go_wp2_with fail
              go_roundw
              case rel => exact ⟨q + 1, r, by omega, by go_num, rfl, by omega, by have := HGt.out; rw [if_pos (decide_eq_true HKk.out), ← HDW.out] at this; exact this, (HK.out.trans HKr.out (fun _ _ g => g)).trans KX.out (fun _ _ g => g)⟩
              case measure => simp [intOf]; omega
            · have hb : (!decide (u = y.take nn)) = true := by simp [hue]
              have HNx := Lib.hid (HEr.out.next (by rw [HPre.out]; exact fun e => hue e.symm))
              rw [hb]
              clear hb hue
              go_wp2_with fail
              go_roundw
              case rel => exact ⟨r + 1, by omega, by go_num, HNx.out, HKr.out.trans KX.out (fun _ _ g => g)⟩
              case measure => simp [intOf]; omega
      · have hk1 : (k == 1) = false := by simpa using hk
        have e1 := HN12.out.2 hk
        have HKk := Lib.hid hk
        subst e1
        clear hk
        go_upto_region 21 with fail
        go_wp2_with fail
        go_loopw [11] (fun kv wr => ∃ r : Nat, r ≤ n8 ∧ kv = .int .i64 r ∧ Emb (decide (k = 1)) (MW.drop r) (y :: MN.drop (q + 1)) ∧ Kept Nil wo wr) (fun kv _ => n8 - (intOf kv).toNat)
        case atStart => exact ⟨r, hr, rfl, HE2.out, Kept.refl _ _⟩
        case round =>
          obtain ⟨r, hr, rfl, hE, hK⟩ := hrel
          have HKr := Lib.hid hK
          have HEr := Lib.hid hE
          clear hK hE
          have hrl : r < n8 := by
            rcases Nat.lt_or_ge r n8 with h | h
            · exact h
            · have := HEr.out
              rw [List.drop_eq_nil_of_le (by rw [W7.out.1]; exact h)] at this
              exact absurd this Emb.none
          obtain ⟨u, hu⟩ : ∃ u, MW[r]? = some u := ⟨_, List.getElem?_eq_getElem (by rw [W7.out.1]; exact hrl)⟩
          have hdW : MW.drop r = u :: MW.drop (r + 1) := by
            rw [List.drop_eq_getElem_cons (by rw [W7.out.1]; exact hrl)]
            congr 1
            exact (List.getElem?_eq_some_iff.1 hu).2
          rw [hdW] at HEr
          have HU16 := Lib.hid (HW2.out u (List.mem_of_getElem? hu))
          obtain ⟨b2, o2, a2, n2, c2, rfl, hb2, hc2, hi2, hcc2⟩ := (W7.out.kept (HK.out.trans HKr.out (fun _ _ g => g))).at_ hu
          have HUI := Lib.hid hi2
          have HYI2 := Lib.hid (In_takeN (HYI.out.kept HKr.out) hnc)
          rename World => wq
          have CSm : ∀ W b1 b2 t1 t2, Kept Nil wq W → Blk W b1 t1 #[.slice a2 n2 c2] → Blk W b2 t2 #[.slice a' nn c'] → Calls Try.prog 16 #[.slice (some ⟨b1, 0, none⟩) 1 1, .slice (some ⟨b2, 0, none⟩) 1 1] W fun e w' => e = .returned (.bool (decide (u = y.take nn))) ∧ Kept Nil wq w' := fun W b1 b2 t1 t2 kW B1 B2 => by
            refine (same_any (c := 1) (c' := 1) (lin_oneM B1 (HUI.out.kept kW)) (lin_oneM B2 (HYI2.out.kept kW)) (by decide) (by decide) (by have := HU16.out; simp; omega) (by have := HY16.out; simp; omega)).mono ?_
            rintro e w' ⟨rfl, k⟩
            exact ⟨by simp, kW.trans k (fun _ _ g => g)⟩
          have CSA := Lib.hid (CSm ((wq.alloc (.cells #[.slice a2 n2 c2] 49)).alloc (.cells #[.slice a' nn c'] 49)).drew wq.heap.size (wq.heap.size + 1) _ _ (((Kept.refl Nil wq).alloc _).alloc _).drew ((Blk.new wq _ _).alloc _).drew (blk_two wq _ _ _))
          have CSB := Lib.hid (CSm ((wq.alloc (.cells #[.slice a' nn c'] 49)).alloc (.cells #[.slice a2 n2 c2] 49)).drew (wq.heap.size + 1) wq.heap.size _ _ (((Kept.refl Nil wq).alloc _).alloc _).drew (blk_two wq _ _ _) ((Blk.new wq _ _).alloc _).drew)
          clear CSm
          clear hu hdW hi2
          have gl : decide ((r : Int) < (n8 : Int)) = true := decide_eq_true (by omega)
          have g0 : (0 : Int) ≤ (nn : Int) := by omega
          have g1 : (nn : Int) ≤ (c' : Int) := by omega
          go_upto_region 23 with fail
          go_cut [91] from 75 to 91 (fun v wx => v = .bool (!decide (u = y.take nn)) ∧ Kept Nil wq wx)
          case first =>
            have hS0 : SeJ wq b2 (o2 + r) (.slice a2 n2 c2) wq := ⟨hc2, Kept.refl _ _⟩
            go_region_held3 (SeJ wq b2 (o2 + r) (.slice a2 n2 c2))
              (repeat' (first | (with_reducible assumption) | (with_reducible exact hS0) | (with_reducible exact SeJ.kept hS0 k8) | (with_reducible refine SeJ.drew ?_) | (with_reducible refine SeJ.alloc ?_ _)))
              (first
                | (go_at_call 16; (first | (with_reducible refine CSA.out.mono ?_) | (with_reducible refine CSB.out.mono ?_)); rintro e w8 ⟨rfl, k8⟩))
            all_goals
              have K8 := Lib.hid k8
              clear k8 hS0
              go_wp2_with fail
              go_meet
              exact ⟨rfl, K8.out⟩
          case rest =>
            obtain ⟨rfl, kx⟩ := hcut
            have KX := Lib.hid kx
            clear kx CSA CSB gl
            by_cases hue : u = y.take nn
            · have hb : (!decide (u = y.take nn)) = false := by simp [hue]
              have HGt := Lib.hid (HEr.out.got)
              rw [hb]
              have z1 : wc.cell? ⟨bs, os + j * 6, none⟩ = some (.int .i64 k) := (HKr.out.trans KX.out (fun _ _ g => g)).cellOf HZ0.out
              have hk2 : (k != 1) = true := bne_iff_ne.2 HKk.out
              have hre : ((r : Int) == (n8 : Int)) = false := by simp; omega
              clear hb hue z0
              go_wp2_with fail
              go_roundw
              case rel => exact ⟨q + 1, r + 1, by omega, by go_num, by go_num, by omega, by have := HGt.out; rw [if_neg (by rw [decide_eq_false HKk.out]; decide)] at this; exact this, (HK.out.trans HKr.out (fun _ _ g => g)).trans KX.out (fun _ _ g => g)⟩
              case measure => simp [intOf]; omega
            · have hb : (!decide (u = y.take nn)) = true := by simp [hue]
              have HNx := Lib.hid (HEr.out.next (by rw [HPre.out]; exact fun e => hue e.symm))
              rw [hb]
              clear hb hue
              go_wp2_with fail
              go_roundw
              case rel => exact ⟨r + 1, by omega, by go_num, HNx.out, HKr.out.trans KX.out (fun _ _ g => g)⟩
              case measure => simp [intOf]; omega
end
section
open Go.RowKit Go.ChangeShapes Go.WideShapes Go.ChangeAt Go.Deep

theorem okWide_u8 {P : Program} {w : World} {r : Reach} {base : Nat} {t : TypeId} {v : Value} (ht : P.underlying t = some (.int .u8)) (h : Value.okWide P w r base t v) : ∃ n, v = .int .u8 n ∧ 0 ≤ n ∧ n < 256 := by
  obtain ⟨n, rfl⟩ := okWide_int ht h
  refine ⟨n, rfl, ?_⟩
  simp only [Value.okWide, ht, Cell.okWide, Cell.ok, IntKind.has] at h
  obtain ⟨h1, h2⟩ : IntKind.u8.min ≤ n ∧ n ≤ IntKind.u8.max := by simpa using h
  have e1 : (0 : Int) ≤ n := h1
  have e2 : n ≤ (255 : Int) := h2
  omega
end
section
open Go.RowKit Go.ChangeShapes Go.WideShapes Go.ChangeAt Go.Deep
set_option maxRecDepth 100000

section
variable {H : Type} {enc : TypeId × Value → H}
theorem cellsRl : Try.prog.cellsOf 24 = 2 := by kernel_rfl
theorem cellsStr : Try.prog.cellsOf 9 = 1 := by kernel_rfl
theorem open_R {W : World} {base : Nat} {sp : Nat → Bool} {held : Bool} {v : Value} {d : DataW H} {p : List MemPlace} (hv : Value.okWide Try.prog W .any base 24 v) (h : DataW.Trod enc Try.prog W 0 sp held 24 v d p) :
    ∃ nm l a cap, v = vRule nm (.slice a (List.length l) cap) ∧ nm.size ≤ maxLen ∧ (l.length ≤ cap ∧ cap ≤ maxLen) ∧ Holds cA W (fun b _ => b < W.heap.size) (.slice a l.length cap) l := by
  obtain ⟨cs, rfl, _⟩ := okWide_struct Try.underlying24 hv
  obtain ⟨fuel, hf⟩ := h
  obtain ⟨y0, y1, n, _, hlen, f0, f1⟩ := trod_struct2 Try.underlying24 hf
  rw [cellsRl] at hlen
  obtain ⟨l⟩ := cs
  match l, hlen with
  | [c0, c1], _ =>
    have f0' : DataW.trod enc Try.prog W 0 sp held n 9 [c0] = some y0 := by
      have := f0
      change DataW.trod enc Try.prog W 0 sp held n 9 (List.take (Try.prog.cellsOf 9) [c0, c1]) = some y0 at this
      rw [cellsStr] at this
      exact this
    have f1' : DataW.trod enc Try.prog W 0 sp held n 22 [c1] = some y1 := by
      have := f1
      change DataW.trod enc Try.prog W 0 sp held n 22 (List.take (Try.prog.cellsOf 22) [c1]) = some y1 at this
      rw [cellsSl] at this
      exact this
    obtain ⟨nm, e0, hs⟩ := DataW.trod_string Try.underlying9 f0'
    obtain ⟨a, cap, l, e1, hlc, hh⟩ := open_conds n c1 _ f1'
    simp at e0
    subst e0 e1
    exact ⟨nm, l, a, cap, rfl, hs.2, hlc, hh⟩
end
end
end Go.Proofs.Ytiihjlafhiaigaa
