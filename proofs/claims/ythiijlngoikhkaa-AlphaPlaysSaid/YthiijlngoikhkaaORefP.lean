/- The document's own store: put, an id among others. -/
import Derived.Test.YthiijlngoikhkaaORef
namespace Go.Proofs.Ythiijlngoikhkaa
open Go.RowKit Go.Maps
set_option maxRecDepth 100000

theorem ins_done {x y : Int} : ∀ {l : List Int}, (∃ z ∈ l, x < z) → ins x (l ++ [y]) = ins x l ++ [y]
  | [], h => by obtain ⟨z, hz, _⟩ := h; simp at hz
  | a :: r, h => by
    rw [List.cons_append, ins, ins]
    by_cases e : x < a
    · rw [if_pos e, if_pos e]; rfl
    · rw [if_neg e, if_neg e, ins_done (l := r) (by
        obtain ⟨z, hz, hl⟩ := h
        rcases List.mem_cons.1 hz with rfl | hz
        · exact absurd hl e
        · exact ⟨z, hz, hl⟩)]; rfl
theorem ins_end {x : Int} : ∀ {l : List Int}, (∀ z ∈ l, ¬ x < z) → ins x l = l ++ [x]
  | [], _ => rfl
  | a :: r, h => by
    rw [ins, if_neg (h a (List.mem_cons_self ..)), ins_end (fun z hz => h z (List.mem_cons_of_mem _ hz))]; rfl
theorem ins_here {x y : Int} (hy : x < y) : ∀ {l : List Int}, (∀ z ∈ l, ¬ x < z) → ins x (l ++ [y]) = l ++ [x] ++ [y]
  | [], _ => by rw [List.nil_append, ins, if_pos hy]; rfl
  | a :: r, h => by
    rw [List.cons_append, ins, if_neg (h a (List.mem_cons_self ..)), ins_here hy (fun z hz => h z (List.mem_cons_of_mem _ hz))]; rfl
/-- What put has made of the first ids. -/
def PutI (x : Int) (l : List Int) (dn : Bool) (T : List Int) : Prop := (dn = true → (∃ z ∈ l, x < z) ∧ T = ins x l) ∧ (dn = false → (∀ z ∈ l, ¬ x < z) ∧ T = l)
set_option maxHeartbeats 4000000 in
theorem putI_any {w : World} {a : Option Addr} {n c : Nat} {l : List Int} (h : In cN 1 w a n l) (x : Int) (hn : n ≤ 1000) :
    Calls Try.prog 37 #[.slice a n c, .int .i64 x] w fun e w' => ∃ a' c', e = .returned (.slice a' (ins x l).length c') ∧ Row cN 3 1 w' w.heap.size (.slice a' (ins x l).length c') (ins x l) ∧ Kept Nil w w' := by
  have HIn := Lib.hid h
  clear h
  go_enter Try.func37, Try.ntmps37
  go_wp2_with fail
  go_loopw [5, 6, 11] (fun v d i wr => ∃ (j k : Nat) (dn : Bool) (T : List Int) (a' : Option Addr) (c' : Nat), j ≤ n ∧ i = .int .i64 j ∧ d = .bool dn ∧ v = .slice a' k c' ∧ T.length = k ∧ k ≤ j + 1 ∧ Row cN 3 1 wr w.heap.size (.slice a' k c') T ∧ PutI x (l.take j) dn T ∧ Kept Nil w wr) (fun _ _ i _ => n - (intOf i).toNat)
  case atStart => exact ⟨0, 0, false, [], none, 0, Nat.zero_le _, rfl, rfl, rfl, rfl, Nat.zero_le _, Row.nil _ _, ⟨fun h => (by cases h), fun _ => ⟨by simp, rfl⟩⟩, Kept.refl _ _⟩
  case round =>
    obtain ⟨j, k, dn, T, a', c', hj, rfl, rfl, rfl, hk, hkj, hR, hP, hK⟩ := hrel
    have HR := Lib.hid hR
    have HP := Lib.hid hP
    have HK := Lib.hid hK
    have HKK := Lib.hid hk
    clear hR hP hK hk
    by_cases hjn : j < n
    · obtain ⟨y, hy⟩ : ∃ y, l[j]? = some y := ⟨l[j]'(by rw [HIn.out.1]; exact hjn), by simp⟩
      obtain ⟨b, o, rfl, hb, p0⟩ := (HIn.out.kept HK.out).one hy
      have HT := Lib.hid (show l.take (j + 1) = l.take j ++ [y] from by rw [List.take_add_one, hy]; rfl)
      clear hy
      cases dn with
      | true =>
        obtain ⟨h1, h2⟩ := HP.out.1 rfl
        obtain ⟨a2, c2, w2, r2, row2, kk2⟩ := HR.out.pushB elsN cN_len cN_one 59 HKK.out.symm (by rw [HKK.out]; omega) HK.out.size y #[.int .i64 y] rfl
        have R2 := Lib.hid r2
        have H2 := Lib.hid (And.intro row2 (HK.out.trans kk2 (fun i hi e => absurd hi (Nat.not_lt.2 e))))
        have HP2 := Lib.hid (show PutI x (l.take (j + 1)) true (T ++ [y]) from ⟨fun _ => by
          rw [HT.out]
          obtain ⟨z, hz, hl⟩ := h1
          exact ⟨⟨z, List.mem_append_left _ hz, hl⟩, by rw [ins_done ⟨z, hz, hl⟩, h2]⟩, fun h => by cases h⟩)
        clear r2 row2 kk2 h1 h2
        go_wp2_with (at_builtin; refine wpList_append_run rfl (.tmp 26) (.tmp 28) 59 rfl _ _ rfl rfl R2.out ?_)
        go_roundw
        case rel => exact ⟨j + 1, k + 1, true, _, a2, c2, hjn, by go_num, rfl, rfl, by rw [List.length_append, HKK.out]; rfl, by omega, H2.out.1, HP2.out, H2.out.2⟩
        case measure => simp [intOf]; omega
      | false =>
        obtain ⟨h1, h2⟩ := HP.out.2 rfl
        by_cases hxy : x < y
        · have hd : decide (x < y) = true := decide_eq_true hxy
          have hkj2 : k ≤ j := by
            have e1 := HKK.out
            rw [h2] at e1
            have := List.length_take_le j l
            omega
          obtain ⟨a2, c2, w2, r2, row2, kk2⟩ := HR.out.pushB elsN cN_len cN_one 59 HKK.out.symm (by rw [HKK.out]; omega) HK.out.size x #[.int .i64 x] rfl
          have K2 := HK.out.trans kk2 (fun i hi e => absurd hi (Nat.not_lt.2 e))
          have hl2 : (T ++ [x]).length = k + 1 := by rw [List.length_append, HKK.out]; rfl
          obtain ⟨a3, c3, w3, r3, row3, kk3⟩ := row2.pushB elsN cN_len cN_one 59 hl2.symm (by rw [hl2]; omega) K2.size y #[.int .i64 y] rfl
          have R2 := Lib.hid r2
          have R3 := Lib.hid r3
          have H2 := Lib.hid (And.intro row3 (K2.trans kk3 (fun i hi e => absurd hi (Nat.not_lt.2 e))))
          have HP2 := Lib.hid (show PutI x (l.take (j + 1)) true (T ++ [x] ++ [y]) from ⟨fun _ => by
            rw [HT.out]
            exact ⟨⟨y, List.mem_append_right _ (List.mem_singleton.2 rfl), hxy⟩, by rw [ins_here hxy h1, h2]⟩, fun h => by cases h⟩)
          have HL2 := Lib.hid hl2
          clear r2 r3 row2 row3 kk2 kk3 h1 h2 K2 hl2
          go_wp2_with (at_builtin; first | (refine wpList_append_run rfl (.tmp 22) (.tmp 24) 59 rfl _ _ rfl rfl R2.out ?_) | (refine wpList_append_run rfl (.tmp 26) (.tmp 28) 59 rfl _ _ rfl rfl R3.out ?_))
          go_roundw
          case rel => exact ⟨j + 1, k + 1 + 1, true, _, a3, c3, hjn, by go_num, rfl, rfl, by rw [List.length_append, HL2.out]; rfl, by omega, H2.out.1, HP2.out, H2.out.2⟩
          case measure => simp [intOf]; omega
        · have hd : decide (x < y) = false := decide_eq_false hxy
          obtain ⟨a2, c2, w2, r2, row2, kk2⟩ := HR.out.pushB elsN cN_len cN_one 59 HKK.out.symm (by rw [HKK.out]; omega) HK.out.size y #[.int .i64 y] rfl
          have R2 := Lib.hid r2
          have H2 := Lib.hid (And.intro row2 (HK.out.trans kk2 (fun i hi e => absurd hi (Nat.not_lt.2 e))))
          have HP2 := Lib.hid (show PutI x (l.take (j + 1)) false (T ++ [y]) from ⟨fun h => (by cases h), fun _ => by
            rw [HT.out]
            refine ⟨fun z hz => ?_, by rw [h2]⟩
            rcases List.mem_append.1 hz with hz | hz
            · exact h1 z hz
            · rw [List.mem_singleton.1 hz]; exact hxy⟩)
          clear r2 row2 kk2 h1 h2 hxy
          go_wp2_with (at_builtin; refine wpList_append_run rfl (.tmp 26) (.tmp 28) 59 rfl _ _ rfl rfl R2.out ?_)
          go_roundw
          case rel => exact ⟨j + 1, k + 1, false, _, a2, c2, hjn, by go_num, rfl, rfl, by rw [List.length_append, HKK.out]; rfl, by omega, H2.out.1, HP2.out, H2.out.2⟩
          case measure => simp [intOf]; omega
    · obtain rfl : n = j := by omega
      have hP := HP.out
      rw [List.take_of_length_le (by rw [HIn.out.1]; exact Nat.le_refl _)] at hP
      cases dn with
      | true =>
        obtain ⟨_, h2⟩ := hP.1 rfl
        have HL := Lib.hid h2
        clear hP h2
        go_wp2_with fail
        go_ret
        have e := HKK.out
        rw [HL.out] at e HR
        rw [e]
        exact ⟨a', c', rfl, HR.out, HK.out⟩
      | false =>
        obtain ⟨h1, h2⟩ := hP.2 rfl
        obtain ⟨a2, c2, w2, r2, row2, kk2⟩ := HR.out.pushB elsN cN_len cN_one 59 HKK.out.symm (by rw [HKK.out]; omega) HK.out.size x #[.int .i64 x] rfl
        have R2 := Lib.hid r2
        have H2 := Lib.hid (And.intro row2 (HK.out.trans kk2 (fun i hi e => absurd hi (Nat.not_lt.2 e))))
        have HL := Lib.hid (show ins x l = T ++ [x] from by rw [ins_end h1, h2])
        clear r2 row2 kk2 h1 h2 hP
        go_wp2_with (at_builtin; refine wpList_append_run rfl (.tmp 33) (.tmp 35) 59 rfl _ _ rfl rfl R2.out ?_)
        go_ret
        have e : (ins x l).length = k + 1 := by rw [HL.out, List.length_append, HKK.out]; rfl
        rw [e, HL.out]
        exact ⟨a2, c2, rfl, H2.out.1, H2.out.2⟩
end Go.Proofs.Ythiijlngoikhkaa
