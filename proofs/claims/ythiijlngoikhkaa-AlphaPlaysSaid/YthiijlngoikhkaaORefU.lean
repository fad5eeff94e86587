/- The document's own store: Touched; the law's Ref, fine, one, keys. -/
import Derived.Test.YthiijlngoikhkaaORefX
namespace Go.Proofs.Ythiijlngoikhkaa
open Go.RowKit Go.Maps Go.WideMaps
set_option maxRecDepth 100000

theorem infoK : (Try.prog.info? 30).map (fun i => (i.zero, i.size, i.bytes)) = some (some (.agg #[.int .i64 0, .int .i64 0, .int .i64 0]), 3, 24) := by kernel_rfl
theorem elsK : Els Try.prog 46 30 3 := Els.of Try.underlying46 infoK rfl (by decide) (by decide)
theorem infoR : (Try.prog.info? 81).map (fun i => (i.zero, i.size, i.bytes)) = some (some (.agg #[.int .i64 0, .int .i64 0, .int .i64 0, .int .i64 0]), 4, 32) := by kernel_rfl
theorem elsR : Els Try.prog 38 81 4 := Els.of Try.underlying38 infoR rfl (by decide) (by decide)
section
variable {w : World} {G : Nat → Prop} {q : Nat} {a : Option Addr} {c : Nat} {LV : List (Mem × Value)}
theorem FindR.sign {L : List Mem} {k : T3} {r : Int} (h : FindR L k r) : (mem L k).isSome = decide (0 ≤ r) := by
  rcases h with ⟨rfl, hm⟩ | ⟨i, m, rfl, _, hm⟩
  · rw [hm]; rfl
  · rw [hm]; exact (decide_eq_true (by omega)).symm
set_option maxHeartbeats 4000000 in
theorem touchedR_any (h : RSv w G q a c LV) (t : T3) (hl : LV.length ≤ 1000) :
    Calls Try.prog 14 #[.pointer (some ⟨q, 0, none⟩), av t] w fun e w' => ∃ a' c', e = .returned (.slice a' (touched (LV.map Prod.fst) t).length c') ∧ Row cT 30 3 w' w.heap.size (.slice a' (touched (LV.map Prod.fst) t).length c') (touched (LV.map Prod.fst) t) ∧ Kept Nil w w' := by
  have B1 := Lib.hid (B3.new w 30 t)
  have K1 := Lib.hid ((Kept.refl Nil w).alloc (.cells #[.int .i64 t.1, .int .i64 t.2.1, .int .i64 t.2.2] 30))
  have H1 := Lib.hid (h.keptN K1.out)
  have hle := touchedN_le (LV.map Prod.fst) t
  clear h
  go_enter Try.func14, Try.ntmps14
  go_upto_region 1 with fail
  have hbs : w.heap.size < (w.alloc (.cells #[.int .i64 t.1, .int .i64 t.2.1, .int .i64 t.2.2] 30)).heap.size := by simp
  generalize w.alloc (.cells #[.int .i64 t.1, .int .i64 t.2.1, .int .i64 t.2.2] 30) = w1 at *
  generalize w.heap.size = b at *
  go_wp2_with fail
  go_loopw [5, 6] (fun v i wr => ∃ (j k' : Nat) (a : Option Addr) (cap : Nat), j ≤ 8 ∧ i = .int .i64 j ∧ v = .slice a k' cap ∧ (touchedN (LV.map Prod.fst) t j).length = k' ∧ Row cT 30 3 wr w1.heap.size (.slice a k' cap) (touchedN (LV.map Prod.fst) t j) ∧ Kept Nil w1 wr) (fun _ i _ => 8 - (intOf i).toNat)
  case atStart => exact ⟨0, 0, none, 0, Nat.zero_le _, rfl, rfl, rfl, Row.nil _ _, Kept.refl _ _⟩
  case round =>
    obtain ⟨j, k', a', cap, hj, rfl, rfl, hk', hR, hK⟩ := hrel
    have HR := Lib.hid hR
    have HK := Lib.hid hK
    have ⟨b0, b1, b2⟩ := B1.out.kept hK (fun e => e)
    clear hR hK
    by_cases hj8 : j < 8
    · obtain ⟨⟨x, y, z⟩, hxyz⟩ : ∃ q, keyT t j = q := ⟨_, rfl⟩
      have HE := Lib.hid (show touchedN (LV.map Prod.fst) t (j + 1) = touchedN (LV.map Prod.fst) t j ++ if (mem (LV.map Prod.fst) (keyT t j)).isSome then [keyT t j] else [] from rfl)
      rw [hxyz] at HE
      have HKey : Hid (∀ W : World, Calls Try.prog 39 #[av t, .int .i64 j] W fun e w' => e = .returned (.agg #[.int .i64 x, .int .i64 y, .int .i64 z]) ∧ Kept Nil W w') := Lib.hid fun W => by
        have := refKey_any t j hj8 W
        rw [hxyz] at this
        exact this
      have hlj := hle j
      generalize hT : touchedN (LV.map Prod.fst) t j = T at *
      have HKK := Lib.hid hk'
      clear hxyz hT hk'
      go_wp2_with fail
      refine (HKey.out _).mono ?_
      rintro e w2 ⟨rfl, k2⟩
      have K2 := Lib.hid (HK.out.trans k2 (fun _ _ e => e))
      have HR2 := Lib.hid (HR.out.keptN k2)
      have Bx := Lib.hid (B3.new w2 30 (x, y, z))
      have hbx := Lib.hid ((Kept.refl Nil w2).alloc (.cells #[.int .i64 x, .int .i64 y, .int .i64 z] 30))
      have ⟨c0, c1, c2⟩ := Bx.out
      clear k2 b0 b1 b2
      go_wp2_with fail
      refine (findR_any (k := (x, y, z)) ((H1.out.keptN K2.out).keptN hbx.out) (by omega)).mono ?_
      rintro e w3 ⟨r, rfl, hr, k3⟩
      have hs := hr.sign
      have K3 := Lib.hid (hbx.out.trans k3 (fun _ _ e => e))
      have ⟨d0, d1, d2⟩ := Bx.out.kept k3 (fun e => e)
      clear k3 c0 c1 c2 hr
      by_cases hm : (mem (LV.map Prod.fst) (x, y, z)).isSome = true
      · have hd : decide (0 ≤ r) = true := by rw [← hs]; exact hm
        obtain ⟨a4, c4, w4, r4, row4, kk4⟩ := (HR2.out.keptN K3.out).pushB elsK cT_len cT_one 46 HKK.out.symm (by omega) (Nat.le_trans K2.out.size K3.out.size) (x, y, z) #[.int .i64 x, .int .i64 y, .int .i64 z] rfl
        have R4 := Lib.hid r4
        have H4 := Lib.hid (And.intro row4 ((K2.out.trans K3.out (fun _ _ e => e)).trans kk4 (fun i hi e => absurd hi (Nat.not_lt.2 e))))
        have HE2 := Lib.hid (show touchedN (LV.map Prod.fst) t (j + 1) = T ++ [(x, y, z)] from by rw [HE.out, if_pos hm])
        clear r4 row4 kk4 hs hm
        go_wp2_with (at_builtin; refine wpList_append_run rfl (.tmp 19) (.tmp 21) 46 rfl _ _ rfl rfl R4.out ?_)
        go_roundw
        case rel =>
          refine ⟨j + 1, k' + 1, a4, c4, hj8, by go_num, rfl, by rw [HE2.out, List.length_append, HKK.out]; rfl, ?_, H4.out.2⟩
          rw [HE2.out]; exact H4.out.1
        case measure => simp [intOf]; omega
      · have hd : decide (0 ≤ r) = false := by rw [← hs]; simpa using hm
        have HE2 := Lib.hid (show touchedN (LV.map Prod.fst) t (j + 1) = T from by rw [HE.out, if_neg hm, List.append_nil])
        clear hs hm
        go_wp2_with fail
        go_roundw
        case rel =>
          refine ⟨j + 1, k', a', cap, hj8, by go_num, rfl, by rw [HE2.out, HKK.out], ?_, K2.out.trans K3.out (fun _ _ e => e)⟩
          rw [HE2.out]; exact HR2.out.keptN K3.out
        case measure => simp [intOf]; omega
    · obtain rfl : j = 8 := by omega
      have HKK := Lib.hid (show (touched (LV.map Prod.fst) t).length = k' from hk')
      clear hk' b0 b1 b2
      go_wp2_with fail
      go_ret
      rw [HKK.out]
      exact ⟨a', cap, rfl, HR.out.down K1.out.size, K1.out.trans HK.out (fun _ _ e => e)⟩
end
theorem one_any (b : Bool) (w : World) : Calls Try.prog 20 #[.bool b] w fun e w' => e = .returned (.int .i64 (oneI b)) ∧ w = w' := by
  go_enter Try.func20, Try.ntmps20
  cases b
  · go_wp2_with fail
    go_ret
    exact ⟨rfl, rfl⟩
  · go_wp2_with fail
    go_ret
    exact ⟨rfl, rfl⟩
set_option maxHeartbeats 4000000 in
theorem keysL_any {w : World} {a a' : Option Addr} {n n' c c' : Nat} {xs ys : List T3} (hx : In cT 3 w a n xs) (hy : In cT 3 w a' n' ys) (hn : n ≤ 100000) (hn' : n' ≤ 100000) :
    Calls Try.prog 19 #[.slice a n c, .slice a' n' c'] w fun e w' => e = .returned (.bool (decide (xs = ys))) ∧ Kept Nil w w' := by
  by_cases hl : n = n'
  · subst hl
    have HX := Lib.hid hx
    have HY := Lib.hid hy
    clear hx hy
    go_enter Try.func19, Try.ntmps19
    go_wp2_with fail
    go_loopw [5, 13] (fun _ i wr => ∃ j : Nat, j ≤ n ∧ i = .int .i64 j ∧ xs.take j = ys.take j ∧ Kept Nil w wr) (fun _ i _ => n - (intOf i).toNat)
    case atStart => exact ⟨0, Nat.zero_le _, rfl, by simp, Kept.refl _ _⟩
    case round =>
      obtain ⟨j, hj, rfl, hE, hK⟩ := hrel
      have HE := Lib.hid hE
      have HK := Lib.hid hK
      clear hE hK
      by_cases hjn : j < n
      · obtain ⟨⟨x1, x2, x3⟩, hxj⟩ : ∃ x, xs[j]? = some x := ⟨xs[j]'(by have := HX.out.1; omega), by simp⟩
        obtain ⟨⟨y1, y2, y3⟩, hyj⟩ : ∃ y, ys[j]? = some y := ⟨ys[j]'(by have := HY.out.1; omega), by simp⟩
        obtain ⟨b, o, rfl, hb, q1, q2, q3⟩ := ((HX.out.kept HK.out).kept ((Kept.refl Nil wr).drew)).three hxj
        obtain ⟨b', o', rfl, hb', r1, r2, r3⟩ := ((HY.out.kept HK.out).kept ((Kept.refl Nil wr).drew)).three hyj
        have HXJ := Lib.hid (And.intro hxj hyj)
        simp only at q1 q2 q3 r1 r2 r3
        have q1' : wr.cell? ⟨b, o + j * 3, none⟩ = some (.int .i64 x1) := q1
        have q2' : wr.cell? ⟨b, o + j * 3 + 1, none⟩ = some (.int .i64 x2) := q2
        have q3' : wr.cell? ⟨b, o + j * 3 + 2, none⟩ = some (.int .i64 x3) := q3
        have r1' : wr.cell? ⟨b', o' + j * 3, none⟩ = some (.int .i64 y1) := r1
        have r2' : wr.cell? ⟨b', o' + j * 3 + 1, none⟩ = some (.int .i64 y2) := r2
        have r3' : wr.cell? ⟨b', o' + j * 3 + 2, none⟩ = some (.int .i64 y3) := r3
        have heq := fun W : World => eqT_at Try.underlying31 (x1, x2, x3) (y1, y2, y3) W
        clear hxj hyj q1 q2 q3 r1 r2 r3
        by_cases e : (x1, x2, x3) = (y1, y2, y3)
        · rw [decide_eq_true e] at heq
          have HXE := Lib.hid e
          clear e
          go_wp2_with fail
          go_quiet (fail)
          go_wp2_with fail
          go_roundw
          case rel => exact ⟨j + 1, hjn, by go_num, take_eq_succ HE.out HXJ.out.1 HXJ.out.2 HXE.out, HK.out.drewN _⟩
          case measure => simp [intOf]; omega
        · rw [decide_eq_false e] at heq
          have hd := Lib.hid (show decide (xs = ys) = false from decide_eq_false (fun e2 => e (by
            have h1 := HXJ.out.1
            rw [e2, HXJ.out.2] at h1
            injection h1 with h1
            exact h1.symm)))
          clear e
          go_wp2_with fail
          go_quiet (fail)
          go_wp2_with fail
          go_ret
          exact ⟨ret_bool hd.out.symm, HK.out.drewN _⟩
      · obtain rfl : j = n := by omega
        have hd := Lib.hid (show decide (xs = ys) = true from decide_eq_true (by
          have := HE.out
          rwa [List.take_of_length_le (by rw [HX.out.1]; exact Nat.le_refl _), List.take_of_length_le (by rw [HY.out.1]; exact Nat.le_refl _)] at this))
        go_wp2_with fail
        go_ret
        exact ⟨ret_bool hd.out.symm, HK.out⟩
  · have hd := Lib.hid (show decide (xs = ys) = false from decide_eq_false (fun e => hl (by rw [← hx.1, ← hy.1, e])))
    have hne : (n != n') = true := bne_iff_ne.2 hl
    have hne2 : ((n : Int) != (n' : Int)) = true := bne_iff_ne.2 (by omega)
    clear hl hx hy
    go_enter Try.func19, Try.ntmps19
    go_wp2_with fail
    go_ret
    exact ⟨ret_bool hd.out.symm, Kept.refl _ _⟩
set_option maxHeartbeats 4000000 in
theorem refF_any {w : World} {a : Option Addr} {n c : Nat} {fs : List F4} (h : In cF 4 w a n fs) (hn : n ≤ 1000) :
    Calls Try.prog 11 #[.slice a n c] w fun e w' => ∃ a' c', e = .returned (.slice a' n c') ∧ In cF 4 w' a' n fs ∧ (∀ b, (Value.slice a' n c').ownBlock = some b → w.heap.size ≤ b) ∧ Kept Nil w w' := by
  have HIn := Lib.hid h
  clear h
  go_enter Try.func11, Try.ntmps11
  go_wp2_with fail
  go_loopw [3, 8] (fun v i wr => ∃ (j : Nat) (a' : Option Addr) (c' : Nat), j ≤ n ∧ i = .int .i64 j ∧ v = .slice a' j c' ∧ (fs.take j).length = j ∧ Row cF 81 4 wr w.heap.size (.slice a' j c') (fs.take j) ∧ Kept Nil w wr) (fun _ i _ => n - (intOf i).toNat)
  case atStart => exact ⟨0, none, 0, Nat.zero_le _, rfl, rfl, rfl, Row.nil _ _, Kept.refl _ _⟩
  case round =>
    obtain ⟨j, a', c', hj, rfl, rfl, hlj, hR, hK⟩ := hrel
    have HR := Lib.hid hR
    have HK := Lib.hid hK
    have HLJ := Lib.hid hlj
    clear hR hK hlj
    by_cases hjn : j < n
    · obtain ⟨⟨fi, fx, fy, fz⟩, hf⟩ : ∃ f, fs[j]? = some f := ⟨fs[j]'(by rw [HIn.out.1]; exact hjn), by simp⟩
      obtain ⟨b, o, rfl, hb, p0, p1, p2, p3⟩ := (HIn.out.kept HK.out).four hf
      have HT := Lib.hid (show fs.take (j + 1) = fs.take j ++ [(fi, fx, fy, fz)] from by rw [List.take_add_one, hf]; rfl)
      simp only at p0 p1 p2 p3
      have kb := (Kept.refl Nil wr).alloc (.cells #[.int .i64 fi, .int .i64 fx, .int .i64 fy, .int .i64 fz] 51)
      obtain ⟨a4, c4, w4, r4, row4, kk4⟩ := (HR.out.keptN kb).pushB elsR cF_len cF_one 38 HLJ.out.symm (by rw [HLJ.out]; omega) (Nat.le_trans HK.out.size kb.size) (fi, fx, fy, fz) #[.int .i64 fi, .int .i64 fx, .int .i64 fy, .int .i64 fz] rfl
      have hs4 : (wr.alloc (.cells #[.int .i64 fi, .int .i64 fx, .int .i64 fy, .int .i64 fz] 51)).heap.size = wr.heap.size + 1 := by simp
      rw [hs4] at r4
      have R4 := Lib.hid r4
      have H4 := Lib.hid (And.intro row4 ((HK.out.trans kb (fun _ _ e => e)).trans kk4 (fun i hi e => absurd hi (Nat.not_lt.2 e))))
      clear hf kb r4 row4 kk4 hs4
      go_wp2_with (at_builtin; refine wpList_append_run rfl (.tmp 12) (.tmp 18) 38 rfl _ _ rfl rfl R4.out ?_)
      go_roundw
      case rel =>
        refine ⟨j + 1, a4, c4, hjn, by go_num, rfl, by rw [HT.out, List.length_append, HLJ.out]; rfl, ?_, H4.out.2⟩
        rw [HT.out]; exact H4.out.1
      case measure => simp [intOf]; omega
    · obtain rfl : n = j := by omega
      have e1 : fs.take n = fs := List.take_of_length_le (by rw [HIn.out.1]; exact Nat.le_refl _)
      rw [e1] at HR
      go_wp2_with fail
      go_ret
      exact ⟨a', c', rfl, HR.out.toIn cF_len (by decide), fun b hb => (HR.out.lt b hb).1, HK.out⟩
end Go.Proofs.Ythiijlngoikhkaa
