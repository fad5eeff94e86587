/- Whatever the numbers, TallyBack returns true, and writes nothing that was there. -/
import Derived.Test.YtjnknbegapofiaaNAwake
import Derived.Test.YtjnknbegapofiaaNNilI
import Derived.Test.YtjnknbegapofiaaNOpen
namespace Go.Proofs.Ytjnknbegapofiaa
set_option maxRecDepth 100000
open Go.RowKit Go.Maps

theorem drp_head {κ : Type} [DecidableEq κ] {l : List κ} {j : Nat} {x : κ} (h : l[j]? = some x) : drp x (l.drop j) = l.drop (j + 1) := by
  have hlt := (List.getElem?_eq_some_iff.1 h).1
  rw [List.drop_eq_getElem_cons hlt]
  have e : l[j] = x := (List.getElem?_eq_some_iff.1 h).2
  rw [e, drp, if_pos rfl]
theorem mem_drop_head {κ : Type} {l : List κ} {j : Nat} {x : κ} (h : l[j]? = some x) : x ∈ l.drop j := by
  have hlt := (List.getElem?_eq_some_iff.1 h).1
  rw [List.drop_eq_getElem_cons hlt, (List.getElem?_eq_some_iff.1 h).2]
  exact List.mem_cons_self ..

set_option maxHeartbeats 4000000 in
theorem tallyBack_any (a : Option Addr) (n c : Nat) (l : List Int) (w : World) (h : In cN 1 w a n l) (ho : ∀ x ∈ l, KI.ok x) (hm : n ≤ maxLen) :
    Calls Try.prog 5 #[.slice a n c] w fun e w' => e = .returned (.bool true) ∧ Kept Nil w w' := by
  obtain ⟨hlen, hat⟩ := h
  have HL := Lib.hid hlen
  have HAt := Lib.hid hat
  have HO := Lib.hid ho
  unfold maxLen at hm
  clear hlen hat ho
  by_cases hbig : 60 < n
  · have hd : decide (60 < (n : Int)) = true := decide_eq_true (by omega)
    go_enter Try.func5, Try.ntmps5
    go_wp2_with fail
    refine (new_i _).mono ?_
    rintro e w1 ⟨rfl, t1, k1⟩
    have K1 := Lib.hid k1
    clear t1 k1
    go_wp2_with fail
    refine (awake_any _).mono ?_
    rintro e w2 ⟨rfl, k2⟩
    go_wp2_with fail
    go_ret
    exact ⟨rfl, K1.out.trans k2 (fun _ _ g => g)⟩
  have hd : decide (60 < (n : Int)) = false := decide_eq_false (by omega)
  have hn : n ≤ 60 := by omega
  clear hbig
  go_enter Try.func5, Try.ntmps5
  go_wp2_with fail
  refine (new_i _).mono ?_
  rintro e w1 ⟨rfl, t1, k1⟩
  have T1 := Lib.hid t1
  have K1 := Lib.hid k1
  clear t1 k1
  go_wp2_with fail
  go_loopw [25] (fun i wr => ∃ (j : Nat) (m : Value), j ≤ n ∧ i = .int .i64 j ∧ Tali wr w.heap.size w.heap.size m (l.take j) ∧ Kept Nil w wr) (fun i _ => n - (intOf i).toNat)
  case atStart => exact ⟨0, _, Nat.zero_le _, rfl, T1.out, K1.out⟩
  case round =>
    obtain ⟨j, m, hj, rfl, hT, hK⟩ := hrel
    have HT := Lib.hid hT
    have HK := Lib.hid hK
    clear hT hK
    by_cases hlt : j < n
    · obtain ⟨x, hx⟩ : ∃ x, l[j]? = some x := ⟨l[j]'(by have := HL.out; omega), by simp⟩
      rcases HAt.out with h0 | ⟨b, off, e, hb, hc⟩
      · omega
      subst e
      have hcell : _ = some (Value.int .i64 x) := (HK.out.cell (p := ⟨b, off + j, none⟩) hb (fun g => g)).trans (by have := hc j x 0 _ hx rfl; simpa using this)
      have hok := HO.out x (List.mem_of_getElem? hx)
      have hlj : (l.take j).length = j := by rw [List.length_take, HL.out]; omega
      have HX := Lib.hid hx
      have HLJ := Lib.hid hlj
      clear hc hx hlj
      go_wp2_with fail
      refine (add_i HT.out (by rw [HLJ.out]; omega) hok).mono ?_
      rintro e w2 ⟨rfl, g2⟩
      obtain ⟨⟨m2, t2⟩, k2⟩ := TGrew.fresh HK.out HT.out g2
      have T2 := Lib.hid (show Tali w2 w.heap.size w.heap.size m2 (l.take (j + 1)) from by
        have := t2
        rwa [show l.take j ++ [x] = l.take (j + 1) from by rw [List.take_add_one, HX.out]; rfl] at this)
      have K2 := Lib.hid k2
      clear t2 k2 g2
      have hl2 : (l.take (j + 1)).length = j + 1 := by rw [List.length_take, HL.out]; omega
      have hc1 : 1 ≤ cnt x (l.take (j + 1)) := cnt_pos.2 (List.mem_of_getElem? (i := j) (by rw [List.getElem?_take, if_pos (by omega)]; exact HX.out))
      go_wp2_with fail
      refine (total_i T2.out).mono ?_
      rintro e w3 ⟨rfl, rfl⟩
      rw [hl2, show ((j + 1 : Nat) : Int) = (j : Int) + 1 from by omega]
      go_wp2_with fail
      refine (len_i T2.out).mono ?_
      rintro e w3 ⟨⟨ks, hk1, hk2, rfl⟩, rfl⟩
      have hks : ks.length ≤ j + 1 := by
        have := nodup_le hk1 (fun k hk => (hk2 k).1 hk)
        rwa [hl2] at this
      clear hk1 hk2
      obtain ⟨q, hq⟩ : ∃ q, q = cnt x (l.take (j + 1)) := ⟨_, rfl⟩
      have hcc := count_i T2.out hok
      rw [← hq] at hcc hc1
      have CC := Lib.hid hcc
      clear hcc hq hl2
      go_wp2_with fail
      refine CC.out.mono ?_
      rintro e w3 ⟨rfl, rfl⟩
      go_wp2_with fail
      go_roundw
      case rel => exact ⟨j + 1, m2, hlt, by go_num, T2.out, K2.out⟩
      case measure => simp [intOf]; omega
    · have hjn : n = j := by omega
      subst hjn
      have T2 := Lib.hid (show Tali wr w.heap.size w.heap.size m (l.drop 0) from by
        have := HT.out
        rw [List.take_of_length_le (by rw [HL.out]; exact Nat.le_refl _)] at this
        exact this)
      clear HT
      go_wp2_with fail
      go_loopw [54] (fun i wr => ∃ (j : Nat) (m : Value), j ≤ n ∧ i = .int .i64 j ∧ Tali wr w.heap.size w.heap.size m (l.drop j) ∧ Kept Nil w wr) (fun i _ => n - (intOf i).toNat)
      case atStart => exact ⟨0, _, Nat.zero_le _, rfl, T2.out, HK.out⟩
      case round =>
        clear T2 HK
        obtain ⟨j, m, hj, rfl, hT, hK⟩ := hrel
        have HT := Lib.hid hT
        have HK := Lib.hid hK
        clear hT hK
        by_cases hlt : j < n
        · obtain ⟨x, hx⟩ : ∃ x, l[j]? = some x := ⟨l[j]'(by have := HL.out; omega), by simp⟩
          rcases HAt.out with h0 | ⟨b, off, e, hb, hc⟩
          · omega
          subst e
          have hcell : _ = some (Value.int .i64 x) := (HK.out.cell (p := ⟨b, off + j, none⟩) hb (fun g => g)).trans (by have := hc j x 0 _ hx rfl; simpa using this)
          have hok := HO.out x (List.mem_of_getElem? hx)
          have HX := Lib.hid hx
          obtain ⟨q, hq⟩ : ∃ q, q = cnt x (l.drop j) := ⟨_, rfl⟩
          have hdd := drop_some_i HT.out hok (cnt_pos.2 (mem_drop_head hx))
          rw [← hq, drp_head hx] at hdd
          have CD := Lib.hid hdd
          clear hdd hq hc hx
          go_wp2_with fail
          refine CD.out.mono ?_
          rintro e w2 ⟨rfl, g2⟩
          obtain ⟨⟨m2, t2⟩, k2⟩ := TGrew.fresh HK.out HT.out g2
          have T2 := Lib.hid (show Tali w2 w.heap.size w.heap.size m2 (l.drop (j + 1)) from t2)
          have K2 := Lib.hid k2
          clear t2 k2 g2 CD
          have hl2 : ((l.drop (j + 1)).length : Int) = (n : Int) - 1 - (j : Int) := by rw [List.length_drop, HL.out]; omega
          go_wp2_with fail
          refine (total_i T2.out).mono ?_
          rintro e w3 ⟨rfl, rfl⟩
          rw [hl2]
          clear hl2
          go_wp2_with fail
          go_roundw
          case rel => exact ⟨j + 1, m2, hlt, by go_num, T2.out, K2.out⟩
          case measure => simp [intOf]; omega
        · have T2 := Lib.hid (show Tali wr w.heap.size w.heap.size m [] from by
            have := HT.out
            rw [List.drop_of_length_le (by rw [HL.out]; omega)] at this
            exact this)
          clear HT
          go_wp2_with fail
          refine (len_i T2.out).mono ?_
          rintro e w3 ⟨⟨ks, hk1, hk2, rfl⟩, rfl⟩
          have hks : ks = [] := by
            cases ks with
            | nil => rfl
            | cons y r => exact absurd ((hk2 y).1 (List.mem_cons_self ..)) (by simp)
          subst hks
          rw [show ((([] : List Int).length : Nat) : Int) = 0 from rfl]
          clear hk1 hk2
          go_wp2_with fail
          refine (keysNil_i T2.out _).mono ?_
          rintro e w4 ⟨rfl, k4⟩
          have K4 := Lib.hid (HK.out.trans k4 (fun _ _ g => g))
          clear k4
          go_wp2_with fail
          refine (awake_any _).mono ?_
          rintro e w5 ⟨rfl, k5⟩
          go_wp2_with fail
          go_ret
          exact ⟨rfl, K4.out.trans k5 (fun _ _ g => g)⟩
end Go.Proofs.Ytjnknbegapofiaa
