/- Whatever the triples, TallyTypes returns true, and writes nothing that was there. -/
import Derived.Test.YtjnknbegapofiaaNAwake
import Derived.Test.YtjnknbegapofiaaNtB
import Derived.Test.YtjnknbegapofiaaNOpen
import Derived.ChangeKeysEq
import Derived.Laws.StructEq
namespace Go.Proofs.Ytjnknbegapofiaa
set_option maxRecDepth 100000
open Go.RowKit Go.Maps

theorem infoInt : (Try.prog.info? 3).isSome = true := by kernel_rfl
theorem partInt (xs : Array Value) (i : Nat) (v : Value) (h : xs[i]? = some v) (w : World) : (part 3 xs i).run Try.prog w = .ok v w := by
  simp [part, isAgg, run_underlying Try.underlying3, h]
theorem eqT (x k : T3) (w : World) :
    (Op.equalIn 10000 44 (.agg #[.int .i64 x.1, .int .i64 x.2.1, .int .i64 x.2.2]) (.agg #[.int .i64 k.1, .int .i64 k.2.1, .int .i64 k.2.2])).run Try.prog w = .ok (decide (x = k)) w := by
  obtain ⟨a1, a2, a3⟩ := x
  obtain ⟨b1, b2, b3⟩ := k
  obtain ⟨i, hi⟩ := Option.isSome_iff_exists.1 infoInt
  have e : ∀ x y : Int, (Op.equalIn 9999 3 (.int .i64 x) (.int .i64 y)).run Try.prog w = .ok (x == y) w := fun x y => run_equalIn_int w 9998 3 .i64 .i64 x y Try.underlying3
  rw [run_equalIn_array w 9999 _ _ Try.underlying44 hi, cells1]
  show (Op.eqItems 9999 3 1 _ _ [0, 1, 2]).run Try.prog w = _
  have p0 : ∀ x y z : Value, (part 3 #[x, y, z] 0).run Try.prog w = .ok x w := fun x y z => partInt #[x, y, z] 0 x rfl w
  have p1 : ∀ x y z : Value, (part 3 #[x, y, z] 1).run Try.prog w = .ok y w := fun x y z => partInt #[x, y, z] 1 y rfl w
  have p2 : ∀ x y z : Value, (part 3 #[x, y, z] 2).run Try.prog w = .ok z w := fun x y z => partInt #[x, y, z] 2 z rfl w
  by_cases h1 : a1 = b1
  · by_cases h2 : a2 = b2
    · by_cases h3 : a3 = b3
      · simp [Op.eqItems, p0, p1, p2, e, h1, h2, h3]
      · simp [Op.eqItems, p0, p1, p2, e, h1, h2, h3]
    · simp [Op.eqItems, p0, p1, e, h1, h2]
  · simp [Op.eqItems, p0, e, h1]

set_option maxHeartbeats 4000000 in
theorem tallyTypes_any (a : Option Addr) (n c : Nat) (l : List T3) (w : World) (h : In cT 3 w a n l) (ho : ∀ x ∈ l, K3.ok x) (hm : n ≤ maxLen ∧ n ≤ c) :
    Calls Try.prog 4 #[.slice a n c] w fun e w' => e = .returned (.bool true) ∧ Kept Nil w w' := by
  obtain ⟨hm, hcap⟩ := hm
  obtain ⟨hlen, hat⟩ := h
  have HL := Lib.hid hlen
  have HAt := Lib.hid hat
  have HO := Lib.hid ho
  unfold maxLen at hm
  clear hlen hat ho
  by_cases hbig : 60 < n
  · have hd : decide (60 < (n : Int)) = true := decide_eq_true (by omega)
    go_enter Try.func4, Try.ntmps4
    go_wp2_with fail
    refine (new_t _).mono ?_
    rintro e w1 ⟨rfl, t1, k1⟩
    have K1 := Lib.hid k1
    clear t1 k1
    go_wp2_with fail
    refine (awake_any _).mono ?_
    rintro e w2 ⟨rfl, k2⟩
    go_wp2_with fail
    go_ret
    exact ⟨rfl, K1.out.trans k2 (fun _ _ g => g)⟩
  have hd : decide (60 < (n : Int)) = false := decide_eq_false (by omega)
  have hn : n ≤ 60 := by omega
  clear hbig
  go_enter Try.func4, Try.ntmps4
  go_wp2_with fail
  refine (new_t _).mono ?_
  rintro e w1 ⟨rfl, t1, k1⟩
  have T1 := Lib.hid t1
  have K1 := Lib.hid k1
  clear t1 k1
  go_wp2_with fail
  go_loopw [29] (fun i wr => ∃ (j : Nat) (m : Value), j ≤ n ∧ i = .int .i64 j ∧ Talt wr w.heap.size w.heap.size m (l.take j) ∧ Kept Nil w wr) (fun i _ => n - (intOf i).toNat)
  case atStart => exact ⟨0, _, Nat.zero_le _, rfl, T1.out, K1.out⟩
  case round =>
    obtain ⟨j, m, hj, rfl, hT, hK⟩ := hrel
    have HT := Lib.hid hT
    have HK := Lib.hid hK
    clear hT hK
    by_cases hlt : j < n
    · obtain ⟨k, hk⟩ : ∃ k, l[j]? = some k := ⟨l[j]'(by have := HL.out; omega), by simp⟩
      rcases HAt.out with h0 | ⟨b, off, e, hb, hc⟩
      · omega
      subst e
      have hwb : b < wr.heap.size := Nat.lt_of_lt_of_le hb HK.out.size
      have HC := Lib.hid hc
      have hcell0 : wr.cell? ⟨b, off + j * 3, none⟩ = some (.int .i64 k.1) := (HK.out.cell (p := ⟨b, off + j * 3, none⟩) hb (fun g => g)).trans (by have := hc j k 0 _ hk rfl; simpa using this)
      have hcell1 : wr.cell? ⟨b, off + j * 3 + 1, none⟩ = some (.int .i64 k.2.1) := (HK.out.cell (p := ⟨b, off + j * 3 + 1, none⟩) hb (fun g => g)).trans (by have := hc j k 1 _ hk rfl; simpa using this)
      have hcell2 : wr.cell? ⟨b, off + j * 3 + 2, none⟩ = some (.int .i64 k.2.2) := (HK.out.cell (p := ⟨b, off + j * 3 + 2, none⟩) hb (fun g => g)).trans (by have := hc j k 2 _ hk rfl; simpa using this)
      have hok := HO.out k (List.mem_of_getElem? hk)
      have HX := Lib.hid hk
      have BX := Lib.hid (Box.new wr k)
      clear hc hk
      go_wp2_with fail
      clear hcell0 hcell1 hcell2
      have hT2 := Lib.hid (HT.out.keptN BX.out.kept)
      have hK2 := Lib.hid (HK.out.trans BX.out.kept (fun _ _ e => e))
      have h3 := Lib.hid BX.out.three
      have hbw := BX.out.old
      clear HT HK BX
      generalize wr.alloc (.cells #[.int .i64 k.1, .int .i64 k.2.1, .int .i64 k.2.2] 44) = w2 at *
      generalize wr.heap.size = bk at *
      go_loopw [6, 38] (fun q i wr' => ∃ t : Nat, t ≤ j ∧ i = .int .i64 t ∧ q = .int .i64 (cnt k (l.take t)) ∧ Kept Nil w2 wr') (fun _ i _ => j - (intOf i).toNat)
      case atStart => exact ⟨0, Nat.zero_le _, rfl, rfl, Kept.refl _ _⟩
      case round =>
        obtain ⟨t, ht, rfl, rfl, hKi⟩ := hrel
        have HKi := Lib.hid hKi
        have ⟨b0, b1, b2⟩ := h3.out.kept hKi (fun e => e)
        clear hKi
        by_cases hlti : t < j
        · obtain ⟨x, hx⟩ : ∃ x, l[t]? = some x := ⟨l[t]'(by have := HL.out; omega), by simp⟩
          have hkk := hK2.out.trans HKi.out (fun _ _ e => e)
          have hcell0 : _ = some (Value.int .i64 x.1) := (hkk.cell (p := ⟨b, off + t * 3, none⟩) hb (fun g => g)).trans (by have := HC.out t x 0 _ hx rfl; simpa using this)
          have hcell1 : _ = some (Value.int .i64 x.2.1) := (hkk.cell (p := ⟨b, off + t * 3 + 1, none⟩) hb (fun g => g)).trans (by have := HC.out t x 1 _ hx rfl; simpa using this)
          have hcell2 : _ = some (Value.int .i64 x.2.2) := (hkk.cell (p := ⟨b, off + t * 3 + 2, none⟩) hb (fun g => g)).trans (by have := HC.out t x 2 _ hx rfl; simpa using this)
          have hcq : cnt k (l.take t) ≤ t := by
            have h1 := cnt_le k (l.take t)
            rw [List.length_take] at h1
            omega
          have hstep : cnt k (l.take (t + 1)) = cnt k (l.take t) + if x = k then 1 else 0 := by
            rw [List.take_add_one, hx]
            show cnt k (l.take t ++ [x]) = _
            split
            · rename_i e; rw [e, cnt_snoc_same]
            · rename_i e; rw [cnt_snoc_other e]; rfl
          have HS := Lib.hid hstep
          obtain ⟨q, hq⟩ : ∃ q, q = cnt k (l.take t) := ⟨_, rfl⟩
          rw [← hq] at hcq HS ⊢
          have heq := fun W : World => eqT x k W
          have hlt2 : b < wr.heap.size := Nat.lt_of_lt_of_le hb hkk.size
          have hbk : bk < wr.heap.size := World.block_lt_of_cell? wr _ b0
          have BY := Lib.hid ((Kept.refl Nil wr).alloc (.cells #[.int .i64 x.1, .int .i64 x.2.1, .int .i64 x.2.2] 44))
          clear hx hstep hq hkk
          by_cases hxk : x = k
          · rw [if_pos hxk] at HS
            simp only [decide_eq_true hxk] at heq
            clear hxk
            go_wp2_with fail
            go_roundw
            case rel => exact ⟨t + 1, hlti, by go_num, by rw [HS.out]; go_num, HKi.out.trans BY.out (fun _ _ e => e)⟩
            case measure => simp [intOf]; omega
          · rw [if_neg hxk] at HS
            simp only [decide_eq_false hxk] at heq
            clear hxk
            go_wp2_with fail
            go_roundw
            case rel => exact ⟨t + 1, hlti, by go_num, by rw [HS.out]; go_num, HKi.out.trans BY.out (fun _ _ e => e)⟩
            case measure => simp [intOf]; omega
        · have htj : j = t := by omega
          subst htj
          have hT4 := Lib.hid (hT2.out.keptN HKi.out)
          have hK4 := Lib.hid (hK2.out.trans HKi.out (fun _ _ e => e))
          have hlj : (l.take j).length = j := by rw [List.length_take, HL.out]; omega
          have hcq : cnt k (l.take j) ≤ j := by
            have h1 := cnt_le k (l.take j)
            omega
          obtain ⟨q, hq⟩ : ∃ q, q = cnt k (l.take j) := ⟨_, rfl⟩
          have hadd := add_t hT4.out (by omega) hok
          rw [← hq] at hadd hcq ⊢
          have HA := Lib.hid hadd
          clear hadd hq hlj HKi hT2 hK2 h3
          go_wp2_with fail
          refine HA.out.mono ?_
          rintro e w5 ⟨rfl, g5⟩
          obtain ⟨⟨m5, t5⟩, k5⟩ := TGrew.fresh hK4.out hT4.out g5
          have T5 := Lib.hid (show Talt w5 w.heap.size w.heap.size m5 (l.take (j + 1)) from by
            have := t5
            rwa [show l.take j ++ [k] = l.take (j + 1) from by rw [List.take_add_one, HX.out]; rfl] at this)
          have K5 := Lib.hid k5
          clear t5 k5 g5 HA
          go_wp2_with fail
          go_roundw
          case rel => exact ⟨j + 1, m5, hlt, by go_num, T5.out, K5.out⟩
          case measure => simp [intOf]; omega
    · have hjn : n = j := by omega
      subst hjn
      have T2 := Lib.hid (show Talt wr w.heap.size w.heap.size m l from by
        have := HT.out
        rw [List.take_of_length_le (by rw [HL.out]; exact Nat.le_refl _)] at this
        exact this)
      clear HT
      go_wp2_with fail
      go_loopw [57] (fun i wr => ∃ (j : Nat) (m : Value) (l' : List T3), j ≤ n ∧ i = .int .i64 j ∧ l'.length = n - j ∧ (∀ x, cnt x l' = cnt x (l.take (n - j))) ∧ Talt wr w.heap.size w.heap.size m l' ∧ Kept Nil w wr) (fun i _ => n - (intOf i).toNat)
      case atStart => exact ⟨0, _, l, Nat.zero_le _, rfl, HL.out, fun x => by rw [Nat.sub_zero, List.take_of_length_le (by rw [HL.out]; exact Nat.le_refl _)], T2.out, HK.out⟩
      case round =>
        clear T2 HK
        obtain ⟨j, m, l', hj, rfl, hl', hcn, hT, hK⟩ := hrel
        have HT := Lib.hid hT
        have HK := Lib.hid hK
        have HCn := Lib.hid hcn
        have HL' := Lib.hid hl'
        clear hT hK hcn hl'
        by_cases hlt : j < n
        · obtain ⟨i, hi⟩ : ∃ i, n = i + 1 + j := ⟨n - 1 - j, by omega⟩
          obtain ⟨k, hk⟩ : ∃ k, l[i]? = some k := ⟨l[i]'(by have := HL.out; omega), by simp⟩
          rcases HAt.out with h0 | ⟨b, off, e, hb, hc⟩
          · omega
          subst e
          have hwb : b < wr.heap.size := Nat.lt_of_lt_of_le hb HK.out.size
          have hcell0 : wr.cell? ⟨b, off + i * 3, none⟩ = some (.int .i64 k.1) := (HK.out.cell (p := ⟨b, off + i * 3, none⟩) hb (fun g => g)).trans (by have := hc i k 0 _ hk rfl; simpa using this)
          have hcell1 : wr.cell? ⟨b, off + i * 3 + 1, none⟩ = some (.int .i64 k.2.1) := (HK.out.cell (p := ⟨b, off + i * 3 + 1, none⟩) hb (fun g => g)).trans (by have := hc i k 1 _ hk rfl; simpa using this)
          have hcell2 : wr.cell? ⟨b, off + i * 3 + 2, none⟩ = some (.int .i64 k.2.2) := (HK.out.cell (p := ⟨b, off + i * 3 + 2, none⟩) hb (fun g => g)).trans (by have := hc i k 2 _ hk rfl; simpa using this)
          have hok := HO.out k (List.mem_of_getElem? hk)
          have hsub1 : ((n : Int) - 1) - (j : Int) = (i : Int) := by omega
          have hw1 : IntKind.i64.wrap ((n : Int) - 1 - (j : Int)) = (i : Int) := by rw [hsub1]; exact IntWalk.i64_in _ (by omega)
          have hjn : n - j = i + 1 := by omega
          have hlast : ∀ x, cnt x (l.take (i + 1)) = cnt x (l.take i ++ [k]) := fun x => by rw [List.take_add_one, hk]; rfl
          have hcn : ∀ x, cnt x l' = cnt x (l.take i ++ [k]) := fun x => by rw [HCn.out x, hjn, hlast]
          have hpos : 0 < cnt k l' := by rw [hcn, cnt_snoc_same]; omega
          have hcl := cnt_le k l'
          have BX := Lib.hid (Box.new wr k)
          have HN := Lib.hid (show ∀ x, cnt x (drp k l') = cnt x (l.take i) from fun x => by
            by_cases e : x = k
            · subst e; rw [cnt_drp_same, hcn, cnt_snoc_same]; omega
            · rw [cnt_drp_other e, hcn, cnt_snoc_other (fun e' => e e'.symm)])
          have HM := Lib.hid (show (drp k l').length = n - (j + 1) from by have := drp_length (cnt_pos.1 hpos); have := HL'.out; omega)
          have hin : i < n := by omega
          have HI := Lib.hid (show n - (i + 1) = j from by omega)
          have HJ := Lib.hid (show ∀ x, cnt x (l.take i) = cnt x (l.take (n - (j + 1))) from fun x => by congr 2; omega)
          clear hlast hcn hc hk hi hjn
          go_wp2_with fail
          clear hcell0 hcell1 hcell2
          have hT2 := Lib.hid (HT.out.keptN BX.out.kept)
          have hK2 := Lib.hid (HK.out.trans BX.out.kept (fun _ _ e => e))
          have h3 := Lib.hid BX.out.three
          clear HT HK BX
          generalize wr.alloc (.cells #[.int .i64 k.1, .int .i64 k.2.1, .int .i64 k.2.2] 44) = w2 at *
          generalize wr.heap.size = bk at *
          obtain ⟨q, hq⟩ : ∃ q, q = cnt k l' := ⟨_, rfl⟩
          have hct := count_t hT2.out hok
          have HPos := Lib.hid hpos
          rw [← hq] at hct hcl
          have HQ := Lib.hid hq
          have hl60 : l'.length ≤ 60 := by rw [HL'.out]; omega
          have HC := Lib.hid hct
          clear hct hq hpos
          refine HC.out.mono ?_
          rintro e w3 ⟨rfl, k3⟩
          have hT3 := Lib.hid (hT2.out.keptN k3)
          have hK3 := Lib.hid (hK2.out.trans k3 (fun _ _ e => e))
          have ⟨b0, b1, b2⟩ := h3.out.kept k3 (fun e => e)
          clear k3 hT2 hK2 h3 HC
          go_wp2_with fail
          refine (drop_some_t hT3.out hok HPos.out).mono ?_
          rintro e w4 ⟨rfl, g4⟩
          rw [← HQ.out]
          obtain ⟨⟨m4, t4⟩, k4⟩ := TGrew.fresh hK3.out hT3.out g4
          have T4 := Lib.hid (show Talt w4 w.heap.size w.heap.size m4 (drp k l') from t4)
          have K4 := Lib.hid k4
          clear t4 k4 g4 hT3 hK3 b0 b1 b2
          go_wp2_with fail
          go_roundw
          case rel => exact ⟨j + 1, m4, drp k l', hlt, by go_num, HM.out, fun x => by rw [HN.out x, HJ.out x], T4.out, K4.out⟩
          case measure => simp [intOf]; omega
        · have hl0 : l' = [] := List.length_eq_zero_iff.1 (by rw [HL'.out]; omega)
          subst hl0
          go_wp2_with fail
          refine (len_t HT.out).mono ?_
          rintro e w3 ⟨⟨ks, hk1, hk2, rfl⟩, rfl⟩
          have hks : ks = [] := by
            cases ks with
            | nil => rfl
            | cons y r => exact absurd ((hk2 y).1 (List.mem_cons_self ..)) (by simp)
          subst hks
          rw [show ((([] : List T3).length : Nat) : Int) = 0 from rfl]
          clear hk1 hk2
          go_wp2_with fail
          refine (total_t HT.out).mono ?_
          rintro e w3 ⟨rfl, rfl⟩
          rw [show ((([] : List T3).length : Nat) : Int) = 0 from rfl]
          go_wp2_with fail
          refine (awake_any _).mono ?_
          rintro e w5 ⟨rfl, k5⟩
          go_wp2_with fail
          go_ret
          exact ⟨rfl, HK.out.trans k5 (fun _ _ g => g)⟩
end Go.Proofs.Ytjnknbegapofiaa
