/- Contracts of the reference's Text and Parse. -/
import Derived.Test.YtkffcpjaciomjaaDoorXDigits
namespace Go.Proofs.YtkffcpjaciomjaaDoor
open Go.RowKit Go.Shelf Go.Sort
set_option maxRecDepth 100000

/-- The text so far. -/
def txtK (r : ByteArray) (ids : List Int) : ByteArray := ⟨(mtxtL r.data.toList ids).toArray⟩
theorem txtK_nil (r : ByteArray) : txtK r [] = r := by
  unfold txtK mtxtL idsL
  apply ByteArray.ext
  simp
theorem txtK_next {r : ByteArray} {ids : List Int} {j : Nat} {i : Int} (h : ids[j]? = some i) : txtK r (ids.take (j + 1)) = txtK r (ids.take j) ++ (⟨#[32]⟩ ++ nstr i) := by
  apply ByteArray.ext
  apply Array.toList_inj.1
  unfold txtK mtxtL nstr
  rw [idsL_next h]
  simp
theorem txtK_size (r : ByteArray) (ids : List Int) (h : okIds ids = true) : (txtK r ids).size ≤ r.size + ids.length * 10 := by
  have h1 := idsL_len ids h
  show ((mtxtL r.data.toList ids).toArray).size ≤ _
  unfold mtxtL
  rw [List.size_toArray, List.length_append]
  have h3 : r.data.toList.length = r.size := by simp
  omega
set_option maxHeartbeats 4000000 in
theorem refText_any {w : World} {m : MC} (hm : Mok w m) :
    Calls Tryd.prog 22 #[vM m] w fun e w' => e = .returned (.tuple #[.string (textE m.val).1, .int .i64 (textE m.val).2]) ∧ Kept Nil w w' := by
  obtain ⟨r, ids, n, a, c⟩ := m
  have HH := Lib.hid hm.ids
  have HL := Lib.hid hm.ids.1
  have hn := hm.few
  have hr := hm.small
  simp only at hn hr
  have CR := Lib.hid (fun W => refRight_any r W (by unfold maxLen; omega))
  have GA := Lib.hid ((Kept.refl Nil w).alloc (.cells #[.string r, .slice a n c] 39))
  have HB : Hid (∀ W, Kept Nil (w.alloc (.cells #[.string r, .slice a n c] 39)) W → W.cell? ⟨w.heap.size, 0, none⟩ = some (.string r) ∧ W.cell? ⟨w.heap.size, 1, none⟩ = some (.slice a n c)) := Lib.hid fun W k => ⟨((Blk.new w 39 #[.string r, .slice a n c]).kept k (fun e => e)).cell 0, ((Blk.new w 39 #[.string r, .slice a n c]).kept k (fun e => e)).cell 1⟩
  clear hm
  show Calls Tryd.prog 22 #[.agg #[.string r, .slice a n c]] w fun e w' => e = .returned (.tuple #[.string (textE (r, ids)).1, .int .i64 (textE (r, ids)).2]) ∧ Kept Nil w w'
  cases hok : okName r with
  | false =>
    have e1 : textE (r, ids) = (⟨#[]⟩, 1) := by unfold textE; rw [hok]; rfl
    rw [e1]
    rw [hok] at CR
    clear e1 hok
    go_enter Tryd.func22, Tryd.ntmps22
    go_wp2_with fail
    refine (CR.out _).mono ?_
    rintro e w1 ⟨rfl, rfl⟩
    go_wp2_with fail
    go_ret2
    exact ⟨rfl, GA.out⟩
  | true =>
    have hT : Hid (textE (r, ids) = if okIds ids then (mtxt (r, ids), 0) else (⟨#[]⟩, 13)) := Lib.hid (by unfold textE; rw [hok]; rfl)
    rw [hok] at CR
    have hrs := (name_size hok).2.1
    clear hok
    go_enter Tryd.func22, Tryd.ntmps22
    go_wp2_with fail
    refine (CR.out _).mono ?_
    rintro e w1 ⟨rfl, rfl⟩
    obtain ⟨x0, x1⟩ := HB.out _ (Kept.refl Nil _)
    go_wp2_with fail
    go_loopw [4, 6, 16] (fun tx _ i wr => ∃ j : Nat, j ≤ n ∧ i = .int .i64 j ∧ tx = .string (txtK r (ids.take j)) ∧ Hid (okIds (ids.take j) = true) ∧ Hid (Kept Nil w wr)) (fun _ _ i _ => n - (intOf i).toNat)
    case atStart => exact ⟨0, Nat.zero_le _, rfl, by show _ = Value.string (txtK r []); rw [txtK_nil], rfl, GA.out⟩
    case round =>
      obtain ⟨j, hj, rfl, rfl, HO, HK⟩ := hrel
      have hlen : (txtK r (ids.take j)).size ≤ 20000 := by
        have h1 := txtK_size r _ HO.out
        have h2 : (ids.take j).length ≤ j := by rw [List.length_take]; omega
        omega
      by_cases hlt : j < n
      · obtain ⟨id, hid⟩ : ∃ id, ids[j]? = some id := ⟨_, List.getElem?_eq_getElem (by have := HL.out; omega)⟩
        obtain ⟨g1, o1, rfl, _, hc1⟩ := (HH.out.kept HK.out).at_ hid
        have q0 := hc1 0 _ rfl
        rw [Nat.mul_one, Nat.add_zero] at q0
        have HID := Lib.hid hid
        clear hc1 hid
        by_cases h1 : id < 1
        · have e1 : Hid (textE (r, ids) = (⟨#[]⟩, 13)) := Lib.hid (by rw [hT.out, okIds_bad HID.out (by unfold okId; exact decide_eq_false (by omega))]; rfl)
          go_wp2_with fail
          go_ret2
          exact ⟨by rw [e1.out]; rfl, HK.out⟩
        · by_cases h2 : 999999999 < id
          · have e1 : Hid (textE (r, ids) = (⟨#[]⟩, 13)) := Lib.hid (by rw [hT.out, okIds_bad HID.out (by unfold okId; exact decide_eq_false (by omega))]; rfl)
            go_wp2_with fail
            go_ret2
            exact ⟨by rw [e1.out]; rfl, HK.out⟩
          · have HO2 : Hid (okIds (ids.take (j + 1)) = true) := Lib.hid (by rw [List.take_add_one, HID.out]; show okIds (_ ++ [id]) = true; rw [okIds_snoc, HO.out, okId_iff.2 ⟨by omega, by omega⟩]; rfl)
            have CD := Lib.hid (fun W => digits_int id (by omega) (by omega) W)
            have hns := nstr_size (n := id) (by omega) (by omega)
            have HTX := Lib.hid (txtK_next (r := r) HID.out)
            have hs2 : (⟨#[32]⟩ ++ nstr id : ByteArray).size ≤ 22 := by
              rw [ByteArray.size_append]
              have : (⟨#[32]⟩ : ByteArray).size = 1 := rfl
              omega
            have h2' : id ≤ 999999999 := by omega
            go_wp2_with fail
            refine (CD.out _).mono ?_
            rintro e w4 ⟨rfl, k4⟩
            have K4 := Lib.hid (HK.out.trans k4 (fun _ _ e => e))
            clear k4
            go_wp2_with fail
            go_roundw
            case rel => exact ⟨j + 1, hlt, by go_num, by rw [HTX.out], HO2, K4⟩
            case measure => simp [intOf]; omega
      · have e : j = n := by omega
        subst e
        have htk : ids.take j = ids := List.take_of_length_le (by have := HL.out; omega)
        have hO := HO.out
        rw [htk] at hO
        have e1 : Hid (textE (r, ids) = (txtK r (ids.take j), 0)) := Lib.hid (by rw [hT.out, hO, htk]; rfl)
        clear htk hO
        go_wp2_with fail
        go_ret2
        exact ⟨by rw [e1.out]; rfl, HK.out⟩
end Go.Proofs.YtkffcpjaciomjaaDoor
