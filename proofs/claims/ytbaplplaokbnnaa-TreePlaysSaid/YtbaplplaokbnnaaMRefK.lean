/- The document's own tree: Kids, At, With, Len. -/
import Derived.Test.YtbaplplaokbnnaaMRef
namespace Go.Proofs.Ytbaplplaokbnnaa
open Go.RowKit Go.Maps Go.WideMaps
set_option maxRecDepth 100000

section
variable {w : World} {B q : Nat} {a : Option Addr} {cap : Nat} {L : List TokS}
set_option maxHeartbeats 4000000 in
theorem refKids_any (h : RTx w B q a cap L) (hl : L.length ≤ 1000) {id : Int} (hid : 1 ≤ id) :
    Calls Try.prog 34 #[.pointer (some ⟨q, 0, none⟩), .int .i64 id] w fun e w' => ∃ a' c', e = .returned (.slice a' (kids L id).length c') ∧ Row cN 3 1 w' w.heap.size (.slice a' (kids L id).length c') (kids L id) ∧ Kept Nil w w' := by
  have HR := Lib.hid h
  have c0 := h.cell
  obtain ⟨n, hn⟩ : ∃ n, L.length = n := ⟨_, rfl⟩
  rw [hn] at c0 hl
  have HL := Lib.hid hn
  clear h hn
  go_enter Try.func34, Try.ntmps34
  go_wp2_with fail
  go_loopw [5, 13] (fun ov i wr => ∃ (j : Nat) (a1 : Option Addr) (n1 c1 : Nat), j ≤ n ∧ i = .int .i64 j ∧ ov = .slice a1 n1 c1 ∧ Row cN 3 1 wr w.heap.size (.slice a1 n1 c1) (ids (L.take j) (fun x => decide (x.par = id ∧ id ≠ 0))) ∧ Kept Nil w wr) (fun _ i _ => n - (intOf i).toNat)
  case atStart => exact ⟨0, none, 0, 0, Nat.zero_le _, rfl, rfl, by rw [List.take_zero]; exact Row.nil _ _, Kept.refl _ _⟩
  case round =>
    obtain ⟨j, a1, n1, c1, hj, rfl, rfl, hRow, hK⟩ := hrel
    have HRow := Lib.hid hRow
    have HK := Lib.hid hK
    have hsz := hK.size
    clear hRow hK
    by_cases hlt : j < n
    · obtain ⟨⟨xp, xl, xf, xo⟩, hx⟩ : ∃ x, L[j]? = some x := ⟨_, List.getElem?_eq_getElem (by rw [HL.out]; exact hlt)⟩
      obtain ⟨b, o, rfl, z0, z1, z2, z3⟩ := (HR.out.keptN HK.out).at_ hx
      have kA := (Kept.refl Nil wr).alloc (.cells #[.int .i64 xp, .string xl, .int .i64 xf, .int .i64 (outI xo)] 43)
      have BA := Blk.new wr 43 #[.int .i64 xp, .string xl, .int .i64 xf, .int .i64 (outI xo)]
      have HBA := Lib.hid BA
      have KA := Lib.hid (HK.out.trans kA (fun _ _ e => e))
      have HRA := Lib.hid (HRow.out.keptN kA)
      have HT := Lib.hid (ids_take L (fun x => decide (x.par = id ∧ id ≠ 0)) hx)
      have hszA : w.heap.size ≤ (wr.alloc (.cells #[.int .i64 xp, .string xl, .int .i64 xf, .int .i64 (outI xo)] 43)).heap.size := KA.out.size
      clear hx kA BA HK HRow hsz
      go_upto_region 5 with fail
      clear z0 z1 z2 z3
      generalize wr.alloc (.cells #[.int .i64 xp, .string xl, .int .i64 xf, .int .i64 (outI xo)] 43) = WA at *
      have y0 := HBA.out.cell 0
      have y1 := HBA.out.cell 1
      have y2 := HBA.out.cell 2
      have y3 := HBA.out.cell 3
      simp at y0 y1 y2 y3
      cases xo
      rotate_left
      · have ho : (outI true == 0) = false := by rfl
        have HE : Hid (ids (L.take (j + 1)) (fun x => decide (x.par = id ∧ id ≠ 0)) = ids (L.take j) (fun x => decide (x.par = id ∧ id ≠ 0))) := Lib.hid (by rw [HT.out, if_neg (by simp), List.append_nil])
        go_wp2_with fail
        go_roundw
        case rel => exact ⟨j + 1, a1, n1, c1, by omega, by go_num, rfl, by rw [HE.out]; exact HRA.out, KA.out⟩
        case measure => simp [intOf]; omega
      · have ho : (outI false == 0) = true := by rfl
        by_cases hc : xp = id
        · obtain rfl : id = xp := hc.symm
          clear hc
          have hgt : decide ((0 : Int) < id) = true := decide_eq_true (by omega)
          have hi0 : id ≠ 0 := by omega
          have HE : Hid (ids (L.take (j + 1)) (fun x => decide (x.par = id ∧ id ≠ 0)) = ids (L.take j) (fun x => decide (x.par = id ∧ id ≠ 0)) ++ [(j : Int) + 1]) := Lib.hid (by rw [HT.out, if_pos (by simp [hi0])])
          have hln : (ids (L.take j) (fun x => decide (x.par = id ∧ id ≠ 0))).length ≤ 5000 := Nat.le_trans (ids_length _ _) (by rw [List.length_take]; omega)
          obtain ⟨j1, hj1⟩ : ∃ j1 : Int, (j : Int) + 1 = j1 := ⟨_, rfl⟩
          have s1 : IntKind.i64.wrap ((j : Int) + 1) = j1 := by rw [IntKind.wrap_i64]; omega
          rw [hj1] at HE
          have HJ1 := Lib.hid hj1
          obtain ⟨a2, c2, W2, r2, o2, k2, _⟩ := HRA.out.push2 elsI1 cN_len cN_one 38 hszA hln j1 #[.int .i64 j1] rfl
          have R2 := Lib.hid r2
          have O2 := Lib.hid o2
          have K2 := Lib.hid (KA.out.trans k2 (fun b hb e => by have := (HRA.out.lt b e).1; omega))
          clear r2 o2 k2 hj1 hln
          go_wp2_with (at_builtin; refine wpList_append_run rfl (.tmp 31) (.tmp 34) 38 rfl _ _ rfl rfl R2.out ?_)
          go_roundw
          case rel => exact ⟨j + 1, a2, n1 + 1, c2, by omega, by rw [← HJ1.out]; rfl, rfl, by rw [HE.out]; exact O2.out, K2.out⟩
          case measure => have := HJ1.out; simp [intOf]; omega
        · have hcb : (xp == id) = false := by simpa using hc
          have HE : Hid (ids (L.take (j + 1)) (fun x => decide (x.par = id ∧ id ≠ 0)) = ids (L.take j) (fun x => decide (x.par = id ∧ id ≠ 0))) := Lib.hid (by rw [HT.out, if_neg (by simp [hc]), List.append_nil])
          go_wp2_with fail
          go_roundw
          case rel => exact ⟨j + 1, a1, n1, c1, by omega, by go_num, rfl, by rw [HE.out]; exact HRA.out, KA.out⟩
          case measure => simp [intOf]; omega

    · obtain rfl : j = n := by omega
      have hcp := (HRow.out.caps).1
      rw [List.take_of_length_le (by rw [HL.out]; exact Nat.le_refl _)] at HRow hcp
      subst hcp
      go_wp2_with fail
      go_ret
      exact ⟨a1, c1, rfl, HRow.out, HK.out⟩
set_option maxHeartbeats 4000000 in
theorem refAt_any (h : RTx w B q a cap L) (hl : L.length ≤ 1000) {k : ByteArray}  :
    Calls Try.prog 39 #[.pointer (some ⟨q, 0, none⟩), .string k] w fun e w' => ∃ a' c', e = .returned (.slice a' (atL L k).length c') ∧ Row cN 3 1 w' w.heap.size (.slice a' (atL L k).length c') (atL L k) ∧ Kept Nil w w' := by
  have HR := Lib.hid h
  have c0 := h.cell
  obtain ⟨n, hn⟩ : ∃ n, L.length = n := ⟨_, rfl⟩
  rw [hn] at c0 hl
  have HL := Lib.hid hn
  clear h hn
  go_enter Try.func39, Try.ntmps39
  go_wp2_with fail
  go_loopw [5, 13] (fun ov i wr => ∃ (j : Nat) (a1 : Option Addr) (n1 c1 : Nat), j ≤ n ∧ i = .int .i64 j ∧ ov = .slice a1 n1 c1 ∧ Row cN 3 1 wr w.heap.size (.slice a1 n1 c1) (ids (L.take j) (fun x => decide (x.loc = k))) ∧ Kept Nil w wr) (fun _ i _ => n - (intOf i).toNat)
  case atStart => exact ⟨0, none, 0, 0, Nat.zero_le _, rfl, rfl, by rw [List.take_zero]; exact Row.nil _ _, Kept.refl _ _⟩
  case round =>
    obtain ⟨j, a1, n1, c1, hj, rfl, rfl, hRow, hK⟩ := hrel
    have HRow := Lib.hid hRow
    have HK := Lib.hid hK
    have hsz := hK.size
    clear hRow hK
    by_cases hlt : j < n
    · obtain ⟨⟨xp, xl, xf, xo⟩, hx⟩ : ∃ x, L[j]? = some x := ⟨_, List.getElem?_eq_getElem (by rw [HL.out]; exact hlt)⟩
      obtain ⟨b, o, rfl, z0, z1, z2, z3⟩ := (HR.out.keptN HK.out).at_ hx
      have kA := (Kept.refl Nil wr).alloc (.cells #[.int .i64 xp, .string xl, .int .i64 xf, .int .i64 (outI xo)] 43)
      have BA := Blk.new wr 43 #[.int .i64 xp, .string xl, .int .i64 xf, .int .i64 (outI xo)]
      have HBA := Lib.hid BA
      have KA := Lib.hid (HK.out.trans kA (fun _ _ e => e))
      have HRA := Lib.hid (HRow.out.keptN kA)
      have HT := Lib.hid (ids_take L (fun x => decide (x.loc = k)) hx)
      have hszA : w.heap.size ≤ (wr.alloc (.cells #[.int .i64 xp, .string xl, .int .i64 xf, .int .i64 (outI xo)] 43)).heap.size := KA.out.size
      clear hx kA BA HK HRow hsz
      go_upto_region 5 with fail
      clear z0 z1 z2 z3
      generalize wr.alloc (.cells #[.int .i64 xp, .string xl, .int .i64 xf, .int .i64 (outI xo)] 43) = WA at *
      have y0 := HBA.out.cell 0
      have y1 := HBA.out.cell 1
      have y2 := HBA.out.cell 2
      have y3 := HBA.out.cell 3
      simp at y0 y1 y2 y3
      cases xo
      rotate_left
      · have ho : (outI true == 0) = false := by rfl
        have HE : Hid (ids (L.take (j + 1)) (fun x => decide (x.loc = k)) = ids (L.take j) (fun x => decide (x.loc = k))) := Lib.hid (by rw [HT.out, if_neg (by simp), List.append_nil])
        go_wp2_with fail
        go_roundw
        case rel => exact ⟨j + 1, a1, n1, c1, by omega, by go_num, rfl, by rw [HE.out]; exact HRA.out, KA.out⟩
        case measure => simp [intOf]; omega
      · have ho : (outI false == 0) = true := by rfl
        by_cases hc : xl = k
        · obtain rfl : k = xl := hc.symm
          clear hc
          have HE : Hid (ids (L.take (j + 1)) (fun x => decide (x.loc = k)) = ids (L.take j) (fun x => decide (x.loc = k)) ++ [(j : Int) + 1]) := Lib.hid (by rw [HT.out, if_pos (by simp)])
          have hln : (ids (L.take j) (fun x => decide (x.loc = k))).length ≤ 5000 := Nat.le_trans (ids_length _ _) (by rw [List.length_take]; omega)
          obtain ⟨j1, hj1⟩ : ∃ j1 : Int, (j : Int) + 1 = j1 := ⟨_, rfl⟩
          have s1 : IntKind.i64.wrap ((j : Int) + 1) = j1 := by rw [IntKind.wrap_i64]; omega
          rw [hj1] at HE
          have HJ1 := Lib.hid hj1
          obtain ⟨a2, c2, W2, r2, o2, k2, _⟩ := HRA.out.push2 elsI1 cN_len cN_one 38 hszA hln j1 #[.int .i64 j1] rfl
          have R2 := Lib.hid r2
          have O2 := Lib.hid o2
          have K2 := Lib.hid (KA.out.trans k2 (fun b hb e => by have := (HRA.out.lt b e).1; omega))
          clear r2 o2 k2 hj1 hln
          go_wp2_with (at_builtin; refine wpList_append_run rfl (.tmp 27) (.tmp 30) 38 rfl _ _ rfl rfl R2.out ?_)
          go_roundw
          case rel => exact ⟨j + 1, a2, n1 + 1, c2, by omega, by rw [← HJ1.out]; rfl, rfl, by rw [HE.out]; exact O2.out, K2.out⟩
          case measure => have := HJ1.out; simp [intOf]; omega
        · have hcb : (xl.toList == k.toList) = false := str_ne hc
          have HE : Hid (ids (L.take (j + 1)) (fun x => decide (x.loc = k)) = ids (L.take j) (fun x => decide (x.loc = k))) := Lib.hid (by rw [HT.out, if_neg (by simp [hc]), List.append_nil])
          go_wp2_with fail
          go_roundw
          case rel => exact ⟨j + 1, a1, n1, c1, by omega, by go_num, rfl, by rw [HE.out]; exact HRA.out, KA.out⟩
          case measure => simp [intOf]; omega

    · obtain rfl : j = n := by omega
      have hcp := (HRow.out.caps).1
      rw [List.take_of_length_le (by rw [HL.out]; exact Nat.le_refl _)] at HRow hcp
      subst hcp
      go_wp2_with fail
      go_ret
      exact ⟨a1, c1, rfl, HRow.out, HK.out⟩
set_option maxHeartbeats 4000000 in
theorem refWith_any (h : RTx w B q a cap L) (hl : L.length ≤ 1000) {f : Int}  :
    Calls Try.prog 40 #[.pointer (some ⟨q, 0, none⟩), .int .i64 f] w fun e w' => ∃ a' c', e = .returned (.slice a' (withL L f).length c') ∧ Row cN 3 1 w' w.heap.size (.slice a' (withL L f).length c') (withL L f) ∧ Kept Nil w w' := by
  have HR := Lib.hid h
  have c0 := h.cell
  obtain ⟨n, hn⟩ : ∃ n, L.length = n := ⟨_, rfl⟩
  rw [hn] at c0 hl
  have HL := Lib.hid hn
  clear h hn
  go_enter Try.func40, Try.ntmps40
  go_wp2_with fail
  go_loopw [5, 13] (fun ov i wr => ∃ (j : Nat) (a1 : Option Addr) (n1 c1 : Nat), j ≤ n ∧ i = .int .i64 j ∧ ov = .slice a1 n1 c1 ∧ Row cN 3 1 wr w.heap.size (.slice a1 n1 c1) (ids (L.take j) (fun x => decide (x.fact = f ∧ f ≠ 0))) ∧ Kept Nil w wr) (fun _ i _ => n - (intOf i).toNat)
  case atStart => exact ⟨0, none, 0, 0, Nat.zero_le _, rfl, rfl, by rw [List.take_zero]; exact Row.nil _ _, Kept.refl _ _⟩
  case round =>
    obtain ⟨j, a1, n1, c1, hj, rfl, rfl, hRow, hK⟩ := hrel
    have HRow := Lib.hid hRow
    have HK := Lib.hid hK
    have hsz := hK.size
    clear hRow hK
    by_cases hlt : j < n
    · obtain ⟨⟨xp, xl, xf, xo⟩, hx⟩ : ∃ x, L[j]? = some x := ⟨_, List.getElem?_eq_getElem (by rw [HL.out]; exact hlt)⟩
      obtain ⟨b, o, rfl, z0, z1, z2, z3⟩ := (HR.out.keptN HK.out).at_ hx
      have kA := (Kept.refl Nil wr).alloc (.cells #[.int .i64 xp, .string xl, .int .i64 xf, .int .i64 (outI xo)] 43)
      have BA := Blk.new wr 43 #[.int .i64 xp, .string xl, .int .i64 xf, .int .i64 (outI xo)]
      have HBA := Lib.hid BA
      have KA := Lib.hid (HK.out.trans kA (fun _ _ e => e))
      have HRA := Lib.hid (HRow.out.keptN kA)
      have HT := Lib.hid (ids_take L (fun x => decide (x.fact = f ∧ f ≠ 0)) hx)
      have hszA : w.heap.size ≤ (wr.alloc (.cells #[.int .i64 xp, .string xl, .int .i64 xf, .int .i64 (outI xo)] 43)).heap.size := KA.out.size
      clear hx kA BA HK HRow hsz
      go_upto_region 5 with fail
      clear z0 z1 z2 z3
      generalize wr.alloc (.cells #[.int .i64 xp, .string xl, .int .i64 xf, .int .i64 (outI xo)] 43) = WA at *
      have y0 := HBA.out.cell 0
      have y1 := HBA.out.cell 1
      have y2 := HBA.out.cell 2
      have y3 := HBA.out.cell 3
      simp at y0 y1 y2 y3
      cases xo
      rotate_left
      · have ho : (outI true == 0) = false := by rfl
        have HE : Hid (ids (L.take (j + 1)) (fun x => decide (x.fact = f ∧ f ≠ 0)) = ids (L.take j) (fun x => decide (x.fact = f ∧ f ≠ 0))) := Lib.hid (by rw [HT.out, if_neg (by simp), List.append_nil])
        go_wp2_with fail
        go_roundw
        case rel => exact ⟨j + 1, a1, n1, c1, by omega, by go_num, rfl, by rw [HE.out]; exact HRA.out, KA.out⟩
        case measure => simp [intOf]; omega
      · have ho : (outI false == 0) = true := by rfl
        by_cases hc : xf = f
        · obtain rfl : f = xf := hc.symm
          clear hc
          by_cases hf : f = 0
          · have hfb : (f != 0) = false := by simpa using hf
            have HE : Hid (ids (L.take (j + 1)) (fun x => decide (x.fact = f ∧ f ≠ 0)) = ids (L.take j) (fun x => decide (x.fact = f ∧ f ≠ 0))) := Lib.hid (by rw [HT.out, if_neg (by simp [hf]), List.append_nil])
            go_wp2_with fail
            go_roundw
            case rel => exact ⟨j + 1, a1, n1, c1, by omega, by go_num, rfl, by rw [HE.out]; exact HRA.out, KA.out⟩
            case measure => simp [intOf]; omega
          · have hfb : (f != 0) = true := bne_iff_ne.2 hf
            have HE : Hid (ids (L.take (j + 1)) (fun x => decide (x.fact = f ∧ f ≠ 0)) = ids (L.take j) (fun x => decide (x.fact = f ∧ f ≠ 0)) ++ [(j : Int) + 1]) := Lib.hid (by rw [HT.out, if_pos (by simp [hf])])
            have hln : (ids (L.take j) (fun x => decide (x.fact = f ∧ f ≠ 0))).length ≤ 5000 := Nat.le_trans (ids_length _ _) (by rw [List.length_take]; omega)
            obtain ⟨j1, hj1⟩ : ∃ j1 : Int, (j : Int) + 1 = j1 := ⟨_, rfl⟩
            have s1 : IntKind.i64.wrap ((j : Int) + 1) = j1 := by rw [IntKind.wrap_i64]; omega
            rw [hj1] at HE
            have HJ1 := Lib.hid hj1
            obtain ⟨a2, c2, W2, r2, o2, k2, _⟩ := HRA.out.push2 elsI1 cN_len cN_one 38 hszA hln j1 #[.int .i64 j1] rfl
            have R2 := Lib.hid r2
            have O2 := Lib.hid o2
            have K2 := Lib.hid (KA.out.trans k2 (fun b hb e => by have := (HRA.out.lt b e).1; omega))
            clear r2 o2 k2 hj1 hln
            go_wp2_with (at_builtin; refine wpList_append_run rfl (.tmp 31) (.tmp 34) 38 rfl _ _ rfl rfl R2.out ?_)
            go_roundw
            case rel => exact ⟨j + 1, a2, n1 + 1, c2, by omega, by rw [← HJ1.out]; rfl, rfl, by rw [HE.out]; exact O2.out, K2.out⟩
            case measure => have := HJ1.out; simp [intOf]; omega
        · have hcb : (xf == f) = false := by simpa using hc
          have HE : Hid (ids (L.take (j + 1)) (fun x => decide (x.fact = f ∧ f ≠ 0)) = ids (L.take j) (fun x => decide (x.fact = f ∧ f ≠ 0))) := Lib.hid (by rw [HT.out, if_neg (by simp [hc]), List.append_nil])
          go_wp2_with fail
          go_roundw
          case rel => exact ⟨j + 1, a1, n1, c1, by omega, by go_num, rfl, by rw [HE.out]; exact HRA.out, KA.out⟩
          case measure => simp [intOf]; omega

    · obtain rfl : j = n := by omega
      have hcp := (HRow.out.caps).1
      rw [List.take_of_length_le (by rw [HL.out]; exact Nat.le_refl _)] at HRow hcp
      subst hcp
      go_wp2_with fail
      go_ret
      exact ⟨a1, c1, rfl, HRow.out, HK.out⟩
end
end Go.Proofs.Ytbaplplaokbnnaa
