/- Layer block: the document's own answer in memory: Close, Free, By. -/
import Derived.Test.YtodghgeghpbdlaaBRefA
namespace Go.Proofs.Ytodghgeghpbdlaa
open Go.RowKit Go.Maps Go.WideMaps
set_option maxRecDepth 100000

section
variable {w w' : World} {B q : Nat} {R : List ByteArray} {Ps : List (ByteArray × Int)} {a1 a2 : Option Addr} {c1 c2 : Nat}
/-- The answer with another row, in new memory. -/
theorem RBs.newPrs (h : RBs w B q R Ps a1 c1 a2 c2) (hB : B ≤ w.heap.size) (k : Kept Nil w w') {Ps' : List (ByteArray × Int)} {a : Option Addr} {n c : Nat} (hr : Row cPr 75 2 w' w.heap.size (.slice a n c) Ps') :
    RB (w'.setCell ⟨q, 1, none⟩ (.slice a n c)) B q R Ps' ∧ Kept (FR w B) w (w'.setCell ⟨q, 1, none⟩ (.slice a n c)) := by
  have hn := hr.caps.1
  subst hn
  have k2 : Kept (fun b => b = q) w' (w'.setCell ⟨q, 1, none⟩ (.slice a Ps'.length c)) := Kept.setCell (F := fun b => b = q) (Kept.refl _ _) _ (.inl rfl) _
  have h' := h.keptN k
  refine ⟨⟨a1, c1, a, c, h.base, by simpa using h'.here.set_ 1 (.slice a Ps'.length c), h'.row.keptF k2 (fun b e f => ?_), (hr.down hB).keptF k2 (fun b e f => ?_)⟩, ((k.mono (fun _ _ e => e.elim)).trans k2 (fun b hb e => ?_))⟩
  · exact h'.row.notOwn h'.here (by decide) (f ▸ e)
  · exact hr.notOwn h'.here (by decide) (f ▸ e)
  · rw [e]; exact ⟨h.base, _, _, _, h.here, .inl rfl⟩
theorem RBs.newBoth (h : RBs w B q R Ps a1 c1 a2 c2) (hB : B ≤ w.heap.size) (k : Kept Nil w w') {R' : List ByteArray} {Ps' : List (ByteArray × Int)} {a b : Option Addr} {n c n2 d : Nat} (hr : Row cKP 9 1 w' w.heap.size (.slice a n c) R') (hp : Row cPr 75 2 w' w.heap.size (.slice b n2 d) Ps') :
    RB ((w'.setCell ⟨q, 0, none⟩ (.slice a n c)).setCell ⟨q, 1, none⟩ (.slice b n2 d)) B q R' Ps' ∧ Kept (FR w B) w ((w'.setCell ⟨q, 0, none⟩ (.slice a n c)).setCell ⟨q, 1, none⟩ (.slice b n2 d)) := by
  have hn := hr.caps.1
  have hn2 := hp.caps.1
  subst hn hn2
  have k2 : Kept (fun b => b = q) w' ((w'.setCell ⟨q, 0, none⟩ (.slice a R'.length c)).setCell ⟨q, 1, none⟩ (.slice b Ps'.length d)) := Kept.setCell (F := fun b => b = q) (Kept.setCell (F := fun b => b = q) (Kept.refl _ _) _ (.inl rfl) _) _ (.inl rfl) _
  have h' := h.keptN k
  refine ⟨⟨a, c, b, d, h.base, by simpa using (h'.here.set_ 0 (.slice a R'.length c)).set_ 1 (.slice b Ps'.length d), (hr.down hB).keptF k2 (fun x e f => ?_), (hp.down hB).keptF k2 (fun x e f => ?_)⟩, ((k.mono (fun _ _ e => e.elim)).trans k2 (fun x hb e => ?_))⟩
  · exact hr.notOwn h'.here (by decide) (f ▸ e)
  · exact hp.notOwn h'.here (by decide) (f ▸ e)
  · rw [e]; exact ⟨h.base, _, _, _, h.here, .inl rfl⟩
/-- Free. -/
theorem free_r (h : RB w B q R Ps) (hB : B ≤ w.heap.size) (hl : Ps.length ≤ 4000) (k : ByteArray) (v : Int) :
    Calls Try.prog 36 #[.pointer (some ⟨q, 0, none⟩), .string k, .int .i64 v] w fun e w' => e = .returned (.tuple #[]) ∧ RB w' B q R (wo (k, v) Ps) ∧ Kept (FR w B) w w' := by
  obtain ⟨a1, c1, a2, c2, h⟩ := h
  have HH := Lib.hid h
  have HIn := Lib.hid (h.prs.toIn cPr_len (by decide))
  have p0 := h.here.cell 1
  simp only [List.getElem?_toArray, List.getElem?_cons_zero, List.getElem?_cons_succ] at p0
  obtain ⟨n, hn⟩ : ∃ n, Ps.length = n := ⟨_, rfl⟩
  have HN := Lib.hid hn
  simp only [hn] at HIn p0 hl
  clear h hn
  go_enter Try.func36, Try.ntmps36
  go_wp2_with fail
  go_loopw [6, 14] (fun o i wr => ∃ (j : Nat) (a : Option Addr) (m c : Nat), j ≤ n ∧ i = .int .i64 j ∧ o = .slice a m c ∧ Row cPr 75 2 wr w.heap.size (.slice a m c) (wo (k, v) (Ps.take j)) ∧ Kept Nil w wr) (fun _ i _ => n - (intOf i).toNat)
  case atStart => exact ⟨0, none, 0, 0, Nat.zero_le _, rfl, rfl, Row.nil _ _, Kept.refl _ _⟩
  case round =>
    obtain ⟨j, a, m, c, hj, rfl, rfl, hr, hk⟩ := hrel
    have HK := Lib.hid hk
    have HR := Lib.hid hr
    clear hk hr
    by_cases hlt : j < n
    · obtain ⟨⟨x, y⟩, hx⟩ : ∃ x, Ps[j]? = some x := ⟨_, List.getElem?_eq_getElem (by have := HN.out; omega)⟩
      obtain ⟨b, off, rfl, hb, hc⟩ := (HIn.out.kept HK.out).at_ hx
      have q0 := hc 0 _ rfl
      have q1 := hc 1 _ rfl
      rw [Nat.add_zero] at q0
      simp only at q0 q1
      have HT := Lib.hid (take_snoc hx)
      have HKa := Lib.hid ((Kept.refl Nil wr).alloc (.cells #[.string x, .int .i64 y] 75))
      have HBx := Lib.hid (Blk.new wr 75 #[.string x, .int .i64 y])
      have HR5 := Lib.hid (HR.out.keptN HKa.out)
      have HK5 := Lib.hid (HK.out.trans HKa.out (fun _ _ e => e))
      clear hx hc
      go_upto_region 4 with fail
      show Code.wp _ _ _ _ (wr.alloc (.cells #[.string x, .int .i64 y] 75))
      generalize wr.alloc (.cells #[.string x, .int .i64 y] 75) = w5 at *
      generalize wr.heap.size = b8 at *
      have d0 := HBx.out.cell 0
      have d1 := HBx.out.cell 1
      simp only [List.getElem?_toArray, List.getElem?_cons_zero, List.getElem?_cons_succ] at d0 d1
      clear q0 q1 hb
      by_cases e : (x, y) = (k, v)
      · have hs := str_eq (Prod.mk.inj e).1
        have hv : (!y == v) = false := by simp [(Prod.mk.inj e).2]
        have hv2 : (y != v) = false := by simp [(Prod.mk.inj e).2]
        have HE := Lib.hid (show wo (k, v) (Ps.take (j + 1)) = wo (k, v) (Ps.take j) by rw [HT.out, e]; simp [wo])
        clear e
        go_wp2_with fail
        go_roundw
        case rel => exact ⟨j + 1, a, m, c, hlt, by go_num, rfl, by rw [HE.out]; exact HR5.out, HK5.out⟩
        case measure => simp [intOf]; omega
      · have HE := Lib.hid (show wo (k, v) (Ps.take (j + 1)) = wo (k, v) (Ps.take j) ++ [(x, y)] by rw [HT.out]; simp [wo, List.filter_append, e])
        have hle1 : (wo (k, v) (Ps.take j)).length ≤ 5000 := Nat.le_trans (List.length_filter_le _ _) (by simp; omega)
        have hmx : m ≤ 5000 := by have := HR5.out.caps.1; omega
        obtain ⟨a9, c9, w6, hrun, hR9, k9, _⟩ := HR5.out.push2 elsPr cPr_len cPr_one 63 HK5.out.size hle1 (x, y) #[.string x, .int .i64 y] rfl
        have hlow : ∀ z, (Value.slice a m c).ownBlock = some z → w.heap.size ≤ z := fun z ez => by
          rcases HR5.out.2 with ⟨e2, _⟩ | ⟨g, c, cur, e2, hb, _⟩
          · rw [e2] at ez; cases ez
          · rw [e2] at ez; cases ez; exact hb
        have HR9 := Lib.hid hR9
        have HK9 := Lib.hid (HK5.out.trans k9 (fun i hi ez => absurd (hlow i ez) (Nat.not_le.2 hi)))
        clear hR9 k9 hlow hle1
        by_cases ex : x = k
        · have hs := str_eq ex
          have hv : (y != v) = true := by
            refine bne_iff_ne.2 (fun ey => e ?_)
            rw [ex, ey]
          clear e ex
          go_wp2_with (refine wpList_append_run rfl (.tmp 28) (.tmp 30) 63 rfl (.slice a m c) (.slice (some ⟨w5.heap.size, 0, none⟩) 1 1) rfl rfl (by with_reducible exact hrun) ?_)
          go_roundw
          case rel => exact ⟨j + 1, a9, m + 1, c9, hlt, by go_num, rfl, by rw [HE.out]; exact HR9.out, HK9.out⟩
          case measure => simp [intOf]; omega
        · have hs := str_ne ex
          clear e ex
          go_wp2_with (refine wpList_append_run rfl (.tmp 28) (.tmp 30) 63 rfl (.slice a m c) (.slice (some ⟨w5.heap.size, 0, none⟩) 1 1) rfl rfl (by with_reducible exact hrun) ?_)
          go_roundw
          case rel => exact ⟨j + 1, a9, m + 1, c9, hlt, by go_num, rfl, by rw [HE.out]; exact HR9.out, HK9.out⟩
          case measure => simp [intOf]; omega
    · obtain rfl : j = n := by omega
      have hr := HR.out
      rw [List.take_of_length_le (by rw [HN.out]; exact Nat.le_refl _)] at hr
      have HF := Lib.hid (HH.out.newPrs hB HK.out hr)
      have hh := HH.out.keptN HK.out
      have z1 := hh.here.cell 1
      have f1 := hh.here.frozen 1
      simp only [List.getElem?_toArray, List.getElem?_cons_zero, List.getElem?_cons_succ] at z1
      clear hr hh
      go_wp2_with fail
      go_end0
      exact ⟨rfl, HF.out⟩
/-- Close. -/
theorem close_r (h : RB w B q R Ps) (hB : B ≤ w.heap.size) (hl0 : R.length ≤ 4000) (hl : Ps.length ≤ 4000) (k : ByteArray) :
    Calls Try.prog 32 #[.pointer (some ⟨q, 0, none⟩), .string k] w fun e w' => e = .returned (.tuple #[]) ∧ RB w' B q (wo k R) (outP k Ps) ∧ Kept (FR w B) w w' := by
  obtain ⟨a1, c1, a2, c2, h⟩ := h
  have HH := Lib.hid h
  have HIn := Lib.hid (h.row.toIn cKP_len (by decide))
  have HIn2 := Lib.hid (h.prs.toIn cPr_len (by decide))
  have p0 := h.here.cell 0
  simp only [List.getElem?_toArray, List.getElem?_cons_zero] at p0
  have p1 := h.here.cell 1
  simp only [List.getElem?_toArray, List.getElem?_cons_zero, List.getElem?_cons_succ] at p1
  obtain ⟨n, hn⟩ : ∃ n, R.length = n := ⟨_, rfl⟩
  have HN := Lib.hid hn
  obtain ⟨n2, hn2⟩ : ∃ n2, Ps.length = n2 := ⟨_, rfl⟩
  have HN2 := Lib.hid hn2
  simp only [hn] at HIn p0 hl0
  simp only [hn2] at HIn2 p1 hl
  have P1 := Lib.hid p1
  clear h hn hn2 p1
  go_enter Try.func32, Try.ntmps32
  go_wp2_with fail
  go_loopw [4, 15] (fun o i wr => ∃ (j : Nat) (a : Option Addr) (m c : Nat), j ≤ n ∧ i = .int .i64 j ∧ o = .slice a m c ∧ Row cKP 9 1 wr w.heap.size (.slice a m c) (wo k (R.take j)) ∧ Kept Nil w wr) (fun _ i _ => n - (intOf i).toNat)
  case atStart => exact ⟨0, none, 0, 0, Nat.zero_le _, rfl, rfl, Row.nil _ _, Kept.refl _ _⟩
  case round =>
    obtain ⟨j, a, m, c, hj, rfl, rfl, hr, hk⟩ := hrel
    have HK := Lib.hid hk
    have HR := Lib.hid hr
    clear hk hr
    by_cases hlt : j < n
    · obtain ⟨x, hx⟩ : ∃ x, R[j]? = some x := ⟨_, List.getElem?_eq_getElem (by have := HN.out; omega)⟩
      obtain ⟨b, off, rfl, hb, hc⟩ := (HIn.out.kept HK.out).at_ hx
      have q0 := hc 0 _ rfl
      rw [Nat.add_zero, Nat.mul_one] at q0
      have HT := Lib.hid (take_snoc hx)
      clear hx hc
      by_cases e : x = k
      · have hs := str_eq e
        have hs2 : (!x.toList == k.toList) = false := by rw [hs]; rfl
        have HE := Lib.hid (show wo k (R.take (j + 1)) = wo k (R.take j) by rw [HT.out, e]; simp [wo])
        clear e
        go_wp2_with fail
        go_roundw
        case rel => exact ⟨j + 1, a, m, c, hlt, by go_num, rfl, by rw [HE.out]; exact HR.out, HK.out⟩
        case measure => simp [intOf]; omega
      · have hs := str_ne e
        have hs2 : (!x.toList == k.toList) = true := by rw [hs]; rfl
        have HE := Lib.hid (show wo k (R.take (j + 1)) = wo k (R.take j) ++ [x] by rw [HT.out]; simp [wo, List.filter_append, e])
        have hle1 : (wo k (R.take j)).length ≤ 5000 := Nat.le_trans (List.length_filter_le _ _) (by simp; omega)
        have hmx : m ≤ 5000 := by have := HR.out.caps.1; omega
        obtain ⟨a9, c9, w6, hrun, hR9, k9, _⟩ := HR.out.push2 elsP cKP_len cKP_one 62 HK.out.size hle1 x #[.string x] rfl
        have hlow : ∀ z, (Value.slice a m c).ownBlock = some z → w.heap.size ≤ z := fun z ez => by
          rcases HR.out.2 with ⟨e2, _⟩ | ⟨g, c, cur, e2, hb, _⟩
          · rw [e2] at ez; cases ez
          · rw [e2] at ez; cases ez; exact hb
        have HR9 := Lib.hid hR9
        have HK9 := Lib.hid (HK.out.trans k9 (fun i hi ez => absurd (hlow i ez) (Nat.not_le.2 hi)))
        clear hR9 k9 hlow hle1 e
        go_wp2_with (refine wpList_append_run rfl (.tmp 22) (.tmp 24) 62 rfl (.slice a m c) (.slice (some ⟨wr.heap.size, 0, none⟩) 1 1) rfl rfl (by with_reducible exact hrun) ?_)
        go_roundw
        case rel => exact ⟨j + 1, a9, m + 1, c9, hlt, by go_num, rfl, by rw [HE.out]; exact HR9.out, HK9.out⟩
        case measure => simp [intOf]; omega
    · obtain rfl : j = n := by omega
      have hr := HR.out
      rw [List.take_of_length_le (by rw [HN.out]; exact Nat.le_refl _)] at hr
      have HR1 := Lib.hid hr
      have p1 := (HK.out.cell (p := ⟨q, 1, none⟩) HH.out.here.lt (fun e => e)).trans P1.out
      clear hr HR hlt
      rename World => w3
      have HK3 := HK
      clear HK
      go_wp2_with fail
      go_loopw [5, 32] (fun o i wr => ∃ (j : Nat) (a : Option Addr) (m c : Nat), j ≤ n2 ∧ i = .int .i64 j ∧ o = .slice a m c ∧ Row cPr 75 2 wr w3.heap.size (.slice a m c) (outP k (Ps.take j)) ∧ Kept Nil w3 wr) (fun _ i _ => n2 - (intOf i).toNat)
      case atStart => exact ⟨0, none, 0, 0, Nat.zero_le _, rfl, rfl, Row.nil _ _, Kept.refl _ _⟩
      case round =>
        obtain ⟨j2, a3, m3, c3, hj2, rfl, rfl, hr, hk⟩ := hrel
        have HK := Lib.hid hk
        have HR := Lib.hid hr
        clear hk hr
        by_cases hlt : j2 < n2
        · obtain ⟨⟨x, y⟩, hx⟩ : ∃ x, Ps[j2]? = some x := ⟨_, List.getElem?_eq_getElem (by have := HN2.out; omega)⟩
          obtain ⟨b, off, rfl, hb, hc⟩ := ((HIn2.out.kept HK3.out).kept HK.out).at_ hx
          have q0 := hc 0 _ rfl
          have q1 := hc 1 _ rfl
          rw [Nat.add_zero] at q0
          simp only at q0 q1
          have HT := Lib.hid (take_snoc hx)
          have HKa := Lib.hid ((Kept.refl Nil wr).alloc (.cells #[.string x, .int .i64 y] 75))
          have HBx := Lib.hid (Blk.new wr 75 #[.string x, .int .i64 y])
          have HR5 := Lib.hid (HR.out.keptN HKa.out)
          have HK5 := Lib.hid (HK.out.trans HKa.out (fun _ _ e => e))
          clear hx hc
          go_upto_region 11 with fail
          show Code.wp _ _ _ _ (wr.alloc (.cells #[.string x, .int .i64 y] 75))
          generalize wr.alloc (.cells #[.string x, .int .i64 y] 75) = w5 at *
          generalize wr.heap.size = b8 at *
          have d0 := HBx.out.cell 0
          have d1 := HBx.out.cell 1
          simp only [List.getElem?_toArray, List.getElem?_cons_zero, List.getElem?_cons_succ] at d0 d1
          clear q0 q1 hb
          by_cases e : x = k
          · have hs := str_eq e
            have hs2 : (!x.toList == k.toList) = false := by rw [hs]; rfl
            have HE := Lib.hid (show outP k (Ps.take (j2 + 1)) = outP k (Ps.take j2) by rw [HT.out, e]; simp [outP])
            clear e
            go_wp2_with fail
            go_roundw
            case rel => exact ⟨j2 + 1, a3, m3, c3, hlt, by go_num, rfl, by rw [HE.out]; exact HR5.out, HK5.out⟩
            case measure => simp [intOf]; omega
          · have hs := str_ne e
            have hs2 : (!x.toList == k.toList) = true := by rw [hs]; rfl
            have HE := Lib.hid (show outP k (Ps.take (j2 + 1)) = outP k (Ps.take j2) ++ [(x, y)] by rw [HT.out]; simp [outP, List.filter_append, e])
            have hle1 : (outP k (Ps.take j2)).length ≤ 5000 := Nat.le_trans (List.length_filter_le _ _) (by simp; omega)
            have hmx : m3 ≤ 5000 := by have := HR5.out.caps.1; omega
            obtain ⟨a9, c9, w6, hrun, hR9, k9, _⟩ := HR5.out.push2 elsPr cPr_len cPr_one 63 HK5.out.size hle1 (x, y) #[.string x, .int .i64 y] rfl
            have hlow : ∀ z, (Value.slice a3 m3 c3).ownBlock = some z → w3.heap.size ≤ z := fun z ez => by
              rcases HR5.out.2 with ⟨e2, _⟩ | ⟨g, c, cur, e2, hb, _⟩
              · rw [e2] at ez; cases ez
              · rw [e2] at ez; cases ez; exact hb
            have HR9 := Lib.hid hR9
            have HK9 := Lib.hid (HK5.out.trans k9 (fun i hi ez => absurd (hlow i ez) (Nat.not_le.2 hi)))
            clear hR9 k9 hlow hle1 e
            go_wp2_with (refine wpList_append_run rfl (.tmp 40) (.tmp 42) 63 rfl (.slice a3 m3 c3) (.slice (some ⟨w5.heap.size, 0, none⟩) 1 1) rfl rfl (by with_reducible exact hrun) ?_)
            go_roundw
            case rel => exact ⟨j2 + 1, a9, m3 + 1, c9, hlt, by go_num, rfl, by rw [HE.out]; exact HR9.out, HK9.out⟩
            case measure => simp [intOf]; omega
        · obtain rfl : j2 = n2 := by omega
          have hr := HR.out
          rw [List.take_of_length_le (by rw [HN2.out]; exact Nat.le_refl _)] at hr
          have HK4 := Lib.hid (HK3.out.trans HK.out (fun _ _ e => e))
          have HF := Lib.hid (HH.out.newBoth hB HK4.out (HR1.out.keptN HK.out) (hr.down HK3.out.size))
          have hh := HH.out.keptN HK4.out
          have z0 := hh.here.cell 0
          have f0 := hh.here.frozen 0
          have z1 := hh.here.cell 1
          have f1 := hh.here.frozen 1
          have hq := hh.here.lt
          simp only [List.getElem?_toArray, List.getElem?_cons_zero, List.getElem?_cons_succ] at z0 z1
          clear hr hh p1
          go_wp2_with fail
          go_end0
          exact ⟨rfl, HF.out⟩
/-- By. -/
theorem by_r (h : RB w B q R Ps) (hl0 : R.length ≤ 4000) (hl : Ps.length ≤ 4000) (v : Int) :
    Calls Try.prog 43 #[.pointer (some ⟨q, 0, none⟩), .int .i64 v] w fun e w' => ∃ a n c, e = .returned (.slice a n c) ∧ In cKP 1 w' a n (byP R Ps v) ∧ Kept Nil w w' := by
  have HRB := Lib.hid h
  obtain ⟨a1, c1, a2, c2, h⟩ := h
  have HIn := Lib.hid (h.row.toIn cKP_len (by decide))
  have p0 := h.here.cell 0
  simp only [List.getElem?_toArray, List.getElem?_cons_zero] at p0
  obtain ⟨n, hn⟩ : ∃ n, R.length = n := ⟨_, rfl⟩
  have HN := Lib.hid hn
  simp only [hn] at HIn p0 hl0
  clear h hn
  go_enter Try.func43, Try.ntmps43
  go_wp2_with fail
  go_loopw [5, 13] (fun o i wr => ∃ (j : Nat) (a : Option Addr) (m c : Nat), j ≤ n ∧ i = .int .i64 j ∧ o = .slice a m c ∧ Row cKP 9 1 wr w.heap.size (.slice a m c) (byP (R.take j) Ps v) ∧ Kept Nil w wr) (fun _ i _ => n - (intOf i).toNat)
  case atStart => exact ⟨0, none, 0, 0, Nat.zero_le _, rfl, rfl, Row.nil _ _, Kept.refl _ _⟩
  case round =>
    obtain ⟨j, a, m, c, hj, rfl, rfl, hr, hk⟩ := hrel
    have HK := Lib.hid hk
    have HR := Lib.hid hr
    clear hk hr
    by_cases hlt : j < n
    · obtain ⟨x, hx⟩ : ∃ x, R[j]? = some x := ⟨_, List.getElem?_eq_getElem (by have := HN.out; omega)⟩
      obtain ⟨b, off, rfl, hb, hc⟩ := (HIn.out.kept HK.out).at_ hx
      have q0 := hc 0 _ rfl
      rw [Nat.add_zero, Nat.mul_one] at q0
      have HT := Lib.hid (take_snoc hx)
      have CH := Lib.hid (has_r (HRB.out.keptN HK.out) (by omega) x v)
      clear hx hc
      go_wp2_with fail
      refine CH.out.mono ?_
      rintro e w4 ⟨rfl, k4⟩
      have HK4 := Lib.hid (HK.out.trans k4 (fun _ _ e => e))
      have HR4 := Lib.hid (HR.out.keptN k4)
      clear k4 CH q0
      by_cases e : isIn (x, v) Ps = true
      · rw [e]
        have HE := Lib.hid (show byP (R.take (j + 1)) Ps v = byP (R.take j) Ps v ++ [x] by rw [HT.out]; simp [byP, List.filter_append, e])
        have hle1 : (byP (R.take j) Ps v).length ≤ 5000 := Nat.le_trans (List.length_filter_le _ _) (by simp; omega)
        have hmx : m ≤ 5000 := by have := HR4.out.caps.1; omega
        obtain ⟨a9, c9, w6, hrun, hR9, k9, _⟩ := HR4.out.push2 elsP cKP_len cKP_one 62 HK4.out.size hle1 x #[.string x] rfl
        have hlow : ∀ z, (Value.slice a m c).ownBlock = some z → w.heap.size ≤ z := fun z ez => by
          rcases HR4.out.2 with ⟨e2, _⟩ | ⟨g, c, cur, e2, hb, _⟩
          · rw [e2] at ez; cases ez
          · rw [e2] at ez; cases ez; exact hb
        have HR9 := Lib.hid hR9
        have HK9 := Lib.hid (HK4.out.trans k9 (fun i hi ez => absurd (hlow i ez) (Nat.not_le.2 hi)))
        clear hR9 k9 hlow hle1 e
        go_wp2_with (refine wpList_append_run rfl (.tmp 21) (.tmp 23) 62 rfl (.slice a m c) (.slice (some ⟨w4.heap.size, 0, none⟩) 1 1) rfl rfl (by with_reducible exact hrun) ?_)
        go_roundw
        case rel => exact ⟨j + 1, a9, m + 1, c9, hlt, by go_num, rfl, by rw [HE.out]; exact HR9.out, HK9.out⟩
        case measure => simp [intOf]; omega
      · have e : isIn (x, v) Ps = false := by simpa using e
        rw [e]
        have HE := Lib.hid (show byP (R.take (j + 1)) Ps v = byP (R.take j) Ps v by rw [HT.out]; simp [byP, List.filter_append, e])
        clear e
        go_wp2_with fail
        go_roundw
        case rel => exact ⟨j + 1, a, m, c, hlt, by go_num, rfl, by rw [HE.out]; exact HR4.out, HK4.out⟩
        case measure => simp [intOf]; omega
    · obtain rfl : j = n := by omega
      have hr := HR.out
      rw [List.take_of_length_le (by rw [HN.out]; exact Nat.le_refl _)] at hr
      have HR1 := Lib.hid (hr.toIn cKP_len (by decide))
      clear hr
      go_wp2_with fail
      go_ret
      exact ⟨a, m, c, rfl, HR1.out, HK.out⟩
end
end Go.Proofs.Ytodghgeghpbdlaa
