/- TreeTypes: the walk over the law's own code. -/
import Derived.Test.YtbaplplaokbnnaaMAwake
import Derived.Test.YtbaplplaokbnnaaMTypM
namespace Go.Proofs.Ytbaplplaokbnnaa
open Go.RowKit Go.Maps Go.WideMaps
set_option maxRecDepth 100000

abbrev TWi := TW KI 89
abbrev TWs := TW KS 78
set_option maxHeartbeats 8000000 in
theorem treeTypes_any (a : Option Addr) (n cap : Nat) (l : List Int) (w : World) (h : In cN 1 w a n l) (hg : ∀ x ∈ l, KI.ok x) (hm : n ≤ maxLen) :
    Calls Try.prog 4 #[.slice a n cap] w fun e w' => e = .returned (.bool true) ∧ Kept Nil w w' := by
  have HI := Lib.hid h
  have HGd := Lib.hid hg
  have HL := Lib.hid h.1
  have hm1 := hm
  unfold maxLen at hm1
  clear h hg hm
  go_enter Try.func4, Try.ntmps4
  go_wp2_with fail
  refine (new_i w (k := -1) (by show (Lit.int .i64 (-1)).wf = true; decide)).mono ?_
  rintro e w1 ⟨p, c, rfl, t, lo, k⟩
  have T1 := Lib.hid (show TWi w w1 p (ttL []) from ⟨c, t, lo, k⟩)
  clear t lo k
  by_cases hn : 30 < n
  · have hb : decide ((30 : Int) < (n : Int)) = true := decide_eq_true (by omega)
    go_wp2_with fail
    refine (awake_any w1).mono ?_
    rintro e w2 ⟨rfl, k2⟩
    go_wp2_with fail
    go_ret
    exact ⟨rfl, T1.out.kept.trans k2 (fun _ _ e => e)⟩
  have hb : decide ((30 : Int) < (n : Int)) = false := decide_eq_false (by omega)
  have hn30 : n ≤ 30 := by omega
  go_wp2_with fail
  go_loopw [31] (fun i wr => ∃ j : Nat, j ≤ n ∧ i = .int .i64 j ∧ TWi w wr p (ttL (l.take j))) (fun i _ => n - (intOf i).toNat)
  case atStart => exact ⟨0, Nat.zero_le _, rfl, by rw [List.take_zero]; exact T1.out⟩
  case round =>
    obtain ⟨j, hj, rfl, hT⟩ := hrel
    have HT := Lib.hid hT
    clear hT
    by_cases hlt : j < n
    · obtain ⟨x, hx⟩ : ∃ x, l[j]? = some x := ⟨_, List.getElem?_eq_getElem (by rw [HL.out]; exact hlt)⟩
      obtain ⟨b, o, rfl, hbl, hc⟩ := (HI.out.kept HT.out.kept).at_ hx
      have z0 := hc 0 _ rfl
      simp only [Nat.mul_one, Nat.add_zero] at z0
      have HS : Hid (ttL (l.take (j + 1)) = ttL (l.take j) ++ [⟨(j : Int) + 1, x, j, false⟩]) := Lib.hid (by
        rw [List.take_add_one, hx]
        show ttL (l.take j ++ [x]) = _
        rw [ttL_snoc, List.length_take, HL.out, Nat.min_eq_left (by omega)])
      have hlen : ((ttL (l.take j)).length : Int) = (j : Int) + 1 := by rw [ttL_len, List.length_take, HL.out, Nat.min_eq_left (by omega)]; rfl
      have hyes : tok (ttL (l.take j)) ((j : Int) + 1) ≠ none := by
        cases j with
        | zero => rw [show (((0 : Nat) : Int) + 1) = 1 from rfl, ttL_top]; simp
        | succ q =>
          obtain ⟨y, hy⟩ : ∃ y, (l.take (q + 1))[q]? = some y := ⟨_, List.getElem?_eq_getElem (by rw [List.length_take, HL.out]; omega)⟩
          have := ttL_tok hy
          rw [show (((q + 1 : Nat) : Int) + 1) = (q : Int) + 2 by omega, this]; simp
      obtain ⟨c', t', lo', k'⟩ := HT.out
      have CA := Lib.hid (add_yes_i t' (by rw [ttL_len, List.length_take, HL.out]; omega) (pa := (j : Int) + 1) (WalkArith.wf_i64 (by omega)) hyes (k := x) (HGd.out x (List.mem_of_getElem? hx)) (f := (j : Int)) (WalkArith.wf_i64 (by omega)))
      rw [hlen, show (j : Int) + 1 + 1 = (j : Int) + 2 by omega] at CA
      have LO := Lib.hid (And.intro lo' k')
      obtain ⟨j1, hj1⟩ : ∃ j1 : Int, (j : Int) + 1 = j1 := ⟨_, rfl⟩
      obtain ⟨j2, hj2⟩ : ∃ j2 : Int, (j : Int) + 2 = j2 := ⟨_, rfl⟩
      have s1 : IntKind.i64.wrap ((j : Int) + 1) = j1 := by rw [IntKind.wrap_i64]; omega
      have s2 : IntKind.i64.wrap ((j : Int) + 2) = j2 := by rw [IntKind.wrap_i64]; omega
      rw [hj1, hj2] at CA
      rw [hj1] at HS
      have HJ1 := Lib.hid hj1
      clear hx hc hlen hyes t' lo' k' hj1 hj2
      go_wp2_with fail
      refine CA.out.mono ?_
      rintro e w2 ⟨rfl, hG⟩
      have T2 := Lib.hid (show TWi w w2 p (ttL (l.take (j + 1))) from by rw [HS.out]; exact TW.grow LO.out.1 LO.out.2 hG)
      clear hG CA LO
      go_wp2_with fail
      go_roundw
      case rel => exact ⟨j + 1, by omega, by rw [← HJ1.out]; rfl, T2.out⟩
      case measure => have := HJ1.out; simp [intOf]; omega
    · obtain rfl : j = n := by omega
      have HTk : Hid (l.take j = l) := Lib.hid (List.take_of_length_le (by rw [HL.out]; exact Nat.le_refl _))
      have T3 : Hid (TWi w wr p (ttL l)) := Lib.hid (by have := HT.out; rw [HTk.out] at this; exact this)
      clear HT HTk
      rename World => w3
      by_cases hj0 : j = 0
      · subst hj0
        have hl0 : l = [] := List.length_eq_zero_iff.1 HL.out
        subst hl0
        obtain ⟨c', t', lo', k'⟩ := T3.out
        have CL := Lib.hid (len_i t')
        rw [ttL_live0] at CL
        clear t' lo' k'
        go_wp2_with fail
        go_loopw [56] (fun i wr => i = .int .i64 0 ∧ wr = w3) (fun i _ => (0 : Nat))
        case atStart => exact ⟨rfl, rfl⟩
        case round =>
          obtain ⟨rfl, rfl⟩ := hrel
          go_wp2_with fail
          refine CL.out.mono ?_
          rintro e w4 ⟨rfl, rfl⟩
          go_wp2_with fail
          refine (awake_any _).mono ?_
          rintro e w5 ⟨rfl, k5⟩
          go_wp2_with fail
          go_ret
          exact ⟨rfl, T3.out.kept.trans k5 (fun _ _ e => e)⟩
      have hpos : 0 < l.length := by rw [HL.out]; omega
      have HP := Lib.hid hpos
      obtain ⟨jz, hjz⟩ : ∃ jz : Int, (j : Int) + 1 = jz := ⟨_, rfl⟩
      have sz : IntKind.i64.wrap ((j : Int) + 1) = jz := by rw [IntKind.wrap_i64]; omega
      have hwz : (Lit.int .i64 jz).wf = true := WalkArith.wf_i64 (by omega)
      have HJZ := Lib.hid hjz
      clear hpos hjz
      go_wp2_with fail
      go_loopw [56] (fun i wr => ∃ q : Nat, q ≤ j ∧ i = .int .i64 q ∧ TWi w wr p (ttL l)) (fun i _ => j - (intOf i).toNat)
      case atStart => exact ⟨0, Nat.zero_le _, rfl, T3.out⟩
      case round =>
        obtain ⟨q, hq, rfl, hT⟩ := hrel
        have HT := Lib.hid hT
        clear hT
        by_cases hlt : q < j
        · obtain ⟨x, hx⟩ : ∃ x, l[q]? = some x := ⟨_, List.getElem?_eq_getElem (by rw [HL.out]; exact hlt)⟩
          obtain ⟨b, o, rfl, hbl, hc⟩ := (HI.out.kept HT.out.kept).at_ hx
          have z0 := hc 0 _ rfl
          simp only [Nat.mul_one, Nat.add_zero] at z0
          obtain ⟨u, hu, hu1, hu2, hu3⟩ := ttL_up hx (j - 1 - q) (by rw [HL.out]; omega)
          rw [show ((q + (j - 1 - q) : Nat) + 2 : Int) = jz by have := HJZ.out; omega] at hu
          obtain ⟨c', t', lo', k'⟩ := HT.out
          have CU := Lib.hid (up_i t' (ttL_wf l) (by rw [ttL_len, HL.out]; omega) (id := jz) hwz x)
          rw [hu, show ((u : Int) + 2 != 0) = true from bne_iff_ne.2 (by omega)] at CU
          obtain ⟨u2, hu2'⟩ : ∃ u2 : Int, (u : Int) + 2 = u2 := ⟨_, rfl⟩
          obtain ⟨q2, hq2⟩ : ∃ q2 : Int, (q : Int) + 2 = q2 := ⟨_, rfl⟩
          have CPl := fun W (k : Kept Nil wr W) => Lib.hid (place_i (t'.keptN k) (id := u2) (WalkArith.wf_i64 (by omega)))
          have hloc : locI_i (ttL l) u2 = x := by
            unfold locI_i
            rw [← hu2', ttL_tok hu3]; rfl
          have hthere : (tok (ttL l) u2).isSome = true := by rw [← hu2', ttL_tok hu3]; rfl
          rw [hu2'] at CU
          simp only [hloc, hthere] at CPl
          have s1 : IntKind.i64.wrap ((q : Int) + 1) = (q : Int) + 1 := by rw [IntKind.wrap_i64]; omega
          have s2 : IntKind.i64.wrap ((q : Int) + 2) = q2 := by rw [IntKind.wrap_i64]; omega
          have g1 : decide (u2 < q2) = false := decide_eq_false (by omega)
          clear hx hc hu hu1 hu2 hu3 t' lo' k' hloc hthere hu2' hq2
          go_wp2_with fail
          refine CU.out.mono ?_
          rintro e w4 ⟨rfl, k4⟩
          have CP4 := CPl w4 k4
          have T4 := Lib.hid (HT.out.keptN k4)
          clear k4 CPl CU HT
          go_wp2_with fail
          refine CP4.out.mono ?_
          rintro e w5 ⟨rfl, k5⟩
          have T5 := Lib.hid (T4.out.keptN k5)
          clear k5 CP4 T4
          go_wp2_with fail
          go_roundw
          case rel => exact ⟨q + 1, by omega, by go_num, T5.out⟩
          case measure => simp [intOf]; omega
        · obtain rfl : q = j := by omega
          have hb0 : ((q : Int) == 0) = false := by simpa using hj0
          obtain ⟨c', t', lo', k'⟩ := HT.out
          have htwo : tok (ttL l) 2 ≠ none := by
            obtain ⟨x, hx⟩ : ∃ x, l[0]? = some x := ⟨_, List.getElem?_eq_getElem HP.out⟩
            have := ttL_tok hx
            rw [show (((0 : Nat) : Int) + 2) = 2 from rfl] at this
            rw [this]; simp
          have CD := Lib.hid (delete_yes_i t' (ttL_wf l) (by rw [ttL_len, HL.out]; omega) (id := 2) (by decide) htwo)
          have LO := Lib.hid (And.intro lo' k')
          clear t' lo' k' htwo
          have HJ0 := Lib.hid hj0
          clear hj0
          go_wp2_with fail
          refine CD.out.mono ?_
          rintro e w4 ⟨ag, ng, cg, rfl, hG, hT⟩
          have T4 := Lib.hid (show TWi w w4 p _ from TW.grow LO.out.1 LO.out.2 hT)
          have hng : ng = q := by
            have := hG.1
            unfold goneL_i at this
            rw [List.length_map, ttL_two HP.out, List.length_map, List.length_range, HL.out] at this
            exact this.symm
          subst hng
          obtain ⟨b, o, rfl, hbl, hc⟩ := hG.at_ (j := 0) (x := ((l.length : Int) + 1, locI_i (ttL l) ((l.length : Int) + 1), factI (ttL l) ((l.length : Int) + 1))) (by
            unfold goneL_i
            rw [List.getElem?_map, ttL_two HP.out, List.getElem?_map, List.getElem?_range HP.out]
            simp)
          have z0 := hc 0 _ rfl
          simp only [Nat.zero_mul, Nat.add_zero] at z0
          rw [HL.out, HJZ.out] at z0
          obtain ⟨c', t', lo', k'⟩ := T4.out
          have CL := Lib.hid (len_i t')
          have CK := Lib.hid (kids_i t' (by rw [kills_length, ttL_len, HL.out]; omega) (k := 1) (by decide))
          rw [ttL_live HP.out] at CL
          rw [ttL_none HP.out] at CK
          have g0 : (0 : Int) < (ng : Int) := by have := HJ0.out; omega
          clear hG hT hc t' lo' k' CD LO HT
          go_wp2_with fail
          refine CL.out.mono ?_
          rintro e w5 ⟨rfl, rfl⟩
          go_wp2_with fail
          refine CK.out.mono ?_
          rintro e w6 ⟨ak, ck, rfl, _, k6⟩
          have K6 := Lib.hid (T4.out.kept.trans k6 (fun _ _ e => e))
          clear k6
          go_wp2_with fail
          refine (awake_any _).mono ?_
          rintro e w7 ⟨rfl, k7⟩
          go_wp2_with fail
          go_ret
          exact ⟨rfl, K6.out.trans k7 (fun _ _ e => e)⟩
end Go.Proofs.Ytbaplplaokbnnaa
