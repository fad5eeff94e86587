/- Contracts of rising, Sort, slices.BinarySearchFunc, isIn and its closure, without, Diff, Same. -/
import Derived.Test.YtkffcpjaciomjaaDoorXSort
namespace Go.Proofs.YtkffcpjaciomjaaDoor
open Go.RowKit Go.Shelf Go.Sort
set_option maxRecDepth 100000

/-- Matches that lie at a slice, their ids with them. -/
structure Ms (w : World) (a : Option Addr) (n : Nat) (l : List MC) : Prop where
  row : In cM 2 w a n l
  ok : ∀ m ∈ l, Mok w m
theorem Ms.kept {w w' : World} {a : Option Addr} {n : Nat} {l : List MC} (h : Ms w a n l) (k : Kept Nil w w') : Ms w' a n l := ⟨h.row.kept k, fun m hm => (h.ok m hm).kept k⟩
/-- What belongs to a list of a call's own: each match's ids lie in new memory of their own. -/
def Own (w' : World) (B : Nat) (a : Option Addr) (l : List MC) : Prop := ∀ m ∈ l, Mok w' m ∧ Row cN 3 1 w' B (.slice m.a m.n m.c) m.ids ∧ (m.a.map (·.block) ≠ a.map (·.block) ∨ m.a = none)
/-- An answer: these matches, in new memory. -/
def CopyEnd (vals : List M) (w : World) (e : Ending) (w' : World) : Prop := ∃ a' n' c' l', e = .returned (.slice a' n' c') ∧ n' = vals.length ∧ Row cM 37 2 w' w.heap.size (.slice a' n' c') l' ∧ l'.map MC.val = vals ∧ Own w' w.heap.size a' l' ∧ Kept Nil w w'
theorem each_vals {w w' : World} {l l' : List MC} (h : Each (Fresh w w') l l') : l'.map MC.val = l.map MC.val := by
  apply List.ext_getElem?
  intro i
  rw [List.getElem?_map, List.getElem?_map]
  cases h1 : l[i]? with
  | none =>
    have : l'[i]? = none := by rw [List.getElem?_eq_none_iff] at h1 ⊢; rw [← h.1]; exact h1
    rw [this]
  | some x =>
    have hi := (List.getElem?_eq_some_iff.1 h1).1
    obtain ⟨y, hy⟩ : ∃ y, l'[i]? = some y := ⟨_, List.getElem?_eq_getElem (by rw [← h.1]; exact hi)⟩
    obtain ⟨f1, f2, _⟩ := h.2 i x y h1 hy
    rw [hy]
    show some y.val = some x.val
    unfold MC.val
    rw [f1, f2]
theorem each_mok {w w' : World} {l l' : List MC} (h : Each (Fresh w w') l l') (hok : ∀ m ∈ l, Mok w m) : ∀ m' ∈ l', Mok w' m' ∧ Row cN 3 1 w' w.heap.size (.slice m'.a m'.n m'.c) m'.ids := by
  intro m' hm'
  obtain ⟨i, hi⟩ := List.getElem?_of_mem hm'
  have hil := (List.getElem?_eq_some_iff.1 hi).1
  obtain ⟨x, hx⟩ : ∃ x, l[i]? = some x := ⟨_, List.getElem?_eq_getElem (by rw [h.1]; exact hil)⟩
  obtain ⟨f1, f2, f3, f4⟩ := h.2 i x m' hx hi
  have hk := hok x (List.mem_of_getElem? hx)
  exact ⟨⟨f4.toIn cN_len (by decide), f4.cap, by rw [f3]; exact hk.few, by rw [f1]; exact hk.small⟩, f4⟩
theorem copy2_any {w : World} {a : Option Addr} {n c : Nat} {l : List MC} (h : Ms w a n l) (hn : n ≤ 5000) :
    Calls Tryd.prog 25 #[.slice a n c] w (CopyEnd (l.map MC.val) w) := by
  refine (copy_any (c := c) h.row h.ok hn).mono ?_
  rintro e w' ⟨a', c', l', rfl, hr, he, hb, hk⟩
  have := each_mok he h.ok
  exact ⟨a', n, c', l', rfl, by rw [List.length_map]; exact h.row.1.symm, hr, each_vals he, fun m hm => ⟨(this m hm).1, (this m hm).2, hb m hm⟩, hk⟩

theorem sortNil_any (fv : Value) (w : World) : Calls Tryd.prog 47 #[.slice none 0 0, fv] w fun e w' => e = .returned (.tuple #[]) ∧ w' = w := by
  have h := AnyF.slices_SortFunc_none (P := Tryd.prog) (ρ := Tryd.sortF_ren) { Tryd.sortF with } none 0 fv w
  change Calls Tryd.prog 47 _ _ _ at h
  exact h
theorem compactNil_any (w : World) : Calls Tryd.prog 48 #[.slice none 0 0, .func (.func 31) #[] #[]] w fun e w' => e = .returned (.slice none 0 0) ∧ w' = w := by
  go_enter Tryd.func48, Tryd.ntmps48
  go_wp2_with fail
  go_ret
  exact ⟨rfl, rfl⟩
/-- A rising list: some of the elements that came in. -/
def RiseEnd (l : List MC) (w : World) (e : Ending) (w' : World) : Prop := ∃ a' n' c' l', e = .returned (.slice a' n' c') ∧ Ms w' a' n' l' ∧ l'.map MC.val = sortM (l.map MC.val) ∧ Kept Nil w w'
theorem sortM_perm {l l' : List M} (h : l'.Perm l) : sortM l' = sortM l := srt_eq (sortM_srt _) (sortM_srt _) (fun z => by rw [sortM_mem, sortM_mem]; exact h.mem_iff)
theorem rising_any {w : World} {a : Option Addr} {n c : Nat} {l : List MC} (h : Ms w a n l) (hn : n ≤ 5000) :
    Calls Tryd.prog 26 #[.slice a n c] w (RiseEnd l w) := by
  have HH := Lib.hid h
  have CC := Lib.hid (cloneM_any (c := c) h.row hn)
  clear h
  go_enter Tryd.func26, Tryd.ntmps26
  go_wp2_with fail
  refine CC.out.mono ?_
  rintro e w1 ⟨a', c', rfl, hr, hk⟩
  clear CC
  have HK := Lib.hid hk
  rcases hr.addr with ⟨rfl, rfl⟩ | ⟨g, rfl, hBg, hg⟩
  · have hn0 : n = 0 := by
      obtain ⟨_, _, e⟩ := hr.shape
      exact (Value.slice.inj e).2.1
    subst hn0
    have hc0 : c' = 0 := by
      rcases hr.2 with ⟨e3, _⟩ | ⟨_, _, _, e3, _⟩
      · injection e3
      · cases e3
    subst hc0
    have CS : Hid (∀ W, Calls Tryd.prog 47 #[.slice none 0 0, .func (.func 20) #[] #[]] W fun e w' => e = .returned (.tuple #[]) ∧ w' = W) := Lib.hid (fun W => sortNil_any _ W)
    have CM : Hid (∀ W, Calls Tryd.prog 48 #[.slice none 0 0, .func (.func 31) #[] #[]] W fun e w' => e = .returned (.slice none 0 0) ∧ w' = W) := Lib.hid (fun W => compactNil_any W)
    clear hr hk
    go_wp2_with fail
    refine (CS.out _).mono ?_
    rintro e w2 ⟨rfl, rfl⟩
    go_wp2_with fail
    refine (CM.out _).mono ?_
    rintro e w3 ⟨rfl, rfl⟩
    go_wp2_with fail
    go_ret
    exact ⟨none, 0, 0, [], rfl, ⟨⟨rfl, .inl rfl⟩, fun m hm => by cases hm⟩, rfl, HK.out⟩
  · have hlen : l.length = n := HH.out.row.1
    have hcap := hr.cap
    have HMM : ∀ m ∈ l, ∀ W, Kept (fun k => k = g) w1 W → Mok W m := fun m hm W kW => by
      have hm' := HH.out.ok m hm
      exact ⟨hm'.ids.keptLow hk kW (fun b e => by rw [e]; exact hBg), hm'.fits, hm'.few, hm'.small⟩
    have CS := Lib.hid (sort_any (c := c') hr.rw_ hlen hn HMM)
    have CM : Hid (∀ (l' : List MC) W, l'.Perm l → Rw W g l' → Kept (fun k => k = g) w1 W → Calls Tryd.prog 48 #[.slice (some ⟨g, 0, none⟩) n c', .func (.func 31) #[] #[]] W (CmpctEnd l' g c' W)) := Lib.hid fun l' W hp hR kW =>
      compact_any hR (hp.length_eq.trans hlen) hcap hn (fun m hm W' kW' => HMM m (hp.mem_iff.1 hm) W' (kW.trans kW' (fun _ _ e => e)))
    have HM := Lib.hid HMM
    have HL := Lib.hid hlen
    clear hr hk HMM hlen
    go_wp2_with fail
    refine CS.out.mono ?_
    rintro e w2 ⟨rfl, l', hp, hwk, hR, hk2⟩
    have HP := Lib.hid hp
    have HWK := Lib.hid hwk
    have HR := Lib.hid hR
    have HK2 := Lib.hid hk2
    clear hp hwk hR hk2 CS
    go_wp2_with fail
    refine (CM.out l' _ HP.out HR.out HK2.out).mono ?_
    rintro e w3 ⟨n', rfl, hin, hk3⟩
    have HIN := Lib.hid hin
    have HK3 := Lib.hid (HK2.out.trans hk3 (fun _ _ e => e))
    clear hin hk3 CM
    go_wp2_with fail
    go_ret
    refine ⟨_, n', c', _, rfl, ⟨HIN.out, fun m hm => HM.out m (HP.out.mem_iff.1 (cptL_sub hm)) _ HK3.out⟩, ?_, HK.out.trans HK3.out (fun i hi e => by omega)⟩
    rw [cptL_spec HWK.out]
    exact sortM_perm (HP.out.map _)
theorem sortP_any {w : World} {a : Option Addr} {n c : Nat} {l : List MC} (h : Ms w a n l) (hn : n ≤ 5000) :
    Calls Tryd.prog 12 #[.slice a n c] w (CopyEnd (sortM (l.map MC.val)) w) := by
  have CR := Lib.hid (rising_any (c := c) h hn)
  have HL : Hid ((sortM (l.map MC.val)).length ≤ 5000) := Lib.hid (by have := sortM_len (l.map MC.val); rw [List.length_map, h.row.1] at this; omega)
  clear h
  go_enter Tryd.func12, Tryd.ntmps12
  go_wp2_with fail
  refine CR.out.mono ?_
  rintro e w1 ⟨a1, n1, c1, l1, rfl, hm, hv, hk⟩
  have hn1 : n1 ≤ 5000 := by rw [← hm.row.1, ← List.length_map (f := MC.val), hv]; exact HL.out
  have CC := Lib.hid (copy2_any (c := c1) hm hn1)
  rw [hv] at CC
  have HK := Lib.hid hk
  clear hm hv hk CR
  go_wp2_with fail
  refine CC.out.mono ?_
  rintro e w2 ⟨a2, n2, c2, l2, rfl, hn2, hr, hv2, ho, hk2⟩
  have H := Lib.hid (show Row cM 37 2 w2 w.heap.size (.slice a2 n2 c2) l2 ∧ l2.map MC.val = sortM (l.map MC.val) ∧ Own w2 w.heap.size a2 l2 ∧ Kept Nil w w2 from
    ⟨hr.down HK.out.size, hv2, fun m hm => ⟨(ho m hm).1, (ho m hm).2.1.down HK.out.size, (ho m hm).2.2⟩, HK.out.trans hk2 (fun _ _ e => e)⟩)
  have HN := Lib.hid hn2
  clear hr hv2 ho hk2 hn2 CC
  go_wp2_with fail
  go_ret
  exact ⟨a2, n2, c2, l2, rfl, HN.out, H.out⟩

/-! ### Whether a rising list has a match -/
set_option maxHeartbeats 4000000 in
theorem search_any {w : World} {a : Option Addr} {n c : Nat} {l : List MC} (h : Ms w a n l) (hn : n ≤ 5000) (hs : Srt (l.map MC.val)) {m : MC} (hm : Mok w m) :
    Calls Tryd.prog 50 #[.slice a n c, vM m, .func (.func 20) #[] #[]] w fun e w' => (∃ i : Nat, e = .returned (.tuple #[.int .i64 i, .bool (decide (m.val ∈ l.map MC.val))])) ∧ Kept Nil w w' := by
  have HH := Lib.hid h
  have HL := Lib.hid h.row.1
  have HS := Lib.hid hs
  have HM := Lib.hid hm
  have HC : Hid (∀ x ∈ l, ∀ W, Kept Nil w W → Calls Tryd.prog 20 #[vM x, vM m] W fun e w' => e = .returned (.int .i64 (cmpM x.val m.val)) ∧ Kept Nil W w') := Lib.hid fun x hx W k => (compare_any ((h.ok x hx).kept k) (hm.kept k)).mono fun e w' ⟨he, hg⟩ => ⟨he, hg.kept⟩
  have HA : Hid (∀ (i j : Nat) (x y : MC), i < j → l[i]? = some x → l[j]? = some y → ltM x.val y.val = true) := Lib.hid fun i j x y hij hx hy => by
    have := List.pairwise_iff_getElem.1 hs i j (by rw [List.length_map]; exact (List.getElem?_eq_some_iff.1 hx).1) (by rw [List.length_map]; exact (List.getElem?_eq_some_iff.1 hy).1) hij
    rw [List.getElem_map, List.getElem_map, (List.getElem?_eq_some_iff.1 hx).2, (List.getElem?_eq_some_iff.1 hy).2] at this
    exact this
  clear h hs hm
  obtain ⟨r, ids, mn, ma, mc⟩ := m
  show Calls Tryd.prog 50 #[.slice a n c, .agg #[.string r, .slice ma mn mc], .func (.func 20) #[] #[]] w _
  obtain ⟨v, hv⟩ : ∃ v : M, (r, ids) = v := ⟨_, rfl⟩
  have HC2 : Hid (∀ x ∈ l, ∀ W, Kept Nil w W → Calls Tryd.prog 20 #[.agg #[.string x.r, .slice x.a x.n x.c], .agg #[.string r, .slice ma mn mc]] W fun e w' => e = .returned (.int .i64 (cmpM x.val v)) ∧ Kept Nil W w') := Lib.hid (by rw [← hv]; exact HC.out)
  show Calls Tryd.prog 50 #[.slice a n c, .agg #[.string r, .slice ma mn mc], .func (.func 20) #[] #[]] w fun e w' => (∃ i : Nat, e = .returned (.tuple #[.int .i64 i, .bool (decide ((r, ids) ∈ l.map MC.val))])) ∧ Kept Nil w w'
  rw [hv]
  clear hv HC HM
  have HB : Hid (∀ W, Kept Nil (w.alloc (.cells #[.string r, .slice ma mn mc] 37)) W → W.cell? ⟨w.heap.size, 0, none⟩ = some (.string r) ∧ W.cell? ⟨w.heap.size, 1, none⟩ = some (.slice ma mn mc)) := Lib.hid fun W kW => by
    have hb := (Blk.new w 37 #[.string r, .slice ma mn mc]).kept kW (fun e => e)
    exact ⟨hb.cell 0, hb.cell 1⟩
  have HK0 := Lib.hid ((Kept.refl Nil w).alloc (.cells #[.string r, .slice ma mn mc] 37))
  go_enter Tryd.func50, Tryd.ntmps50
  go_wp2_with fail
  go_loopw [9, 10, 11] (fun s9 s10 _ wr => ∃ lo hi : Nat, s9 = .int .i64 lo ∧ s10 = .int .i64 hi ∧ lo ≤ hi ∧ hi ≤ n ∧ Hid (Kept Nil (w.alloc (.cells #[.string r, .slice ma mn mc] 37)) wr) ∧ Hid ((∀ (t : Nat) (x : MC), t < lo → l[t]? = some x → ltM x.val v = true) ∧ (∀ (t : Nat) (x : MC), hi ≤ t → l[t]? = some x → ltM x.val v = false))) (fun s9 s10 _ _ => (intOf s10).toNat - (intOf s9).toNat)
  case atStart => exact ⟨0, n, rfl, rfl, Nat.zero_le _, Nat.le_refl _, Kept.refl _ _, ⟨fun t x ht => absurd ht (Nat.not_lt_zero _), fun t x ht hx => by have := (List.getElem?_eq_some_iff.1 hx).1; have := HL.out; omega⟩⟩
  case round =>
    obtain ⟨lo, hi, rfl, rfl, hlh, hin, HK, I⟩ := hrel
    by_cases hlt : lo < hi
    · obtain ⟨x, hx⟩ : ∃ x, l[(lo + hi) / 2]? = some x := ⟨_, List.getElem?_eq_getElem (by have := HL.out; omega)⟩
      obtain ⟨g, off, rfl, _, hc⟩ := (HH.out.row.kept (HK0.out.trans HK.out (fun _ _ e => e))).at_ hx
      have HX := Lib.hid hx
      have HS' : Hid (∀ W, Kept Nil wr W → W.cell? ⟨g, off + (lo + hi) / 2 * 2, none⟩ = some (.string x.r) ∧ W.cell? ⟨g, off + (lo + hi) / 2 * 2 + 1, none⟩ = some (.slice x.a x.n x.c) ∧ W.cell? ⟨w.heap.size, 0, none⟩ = some (.string r) ∧ W.cell? ⟨w.heap.size, 1, none⟩ = some (.slice ma mn mc)) := Lib.hid fun W kW => by
        obtain ⟨b2, o2, e2, _, hc2⟩ := (HH.out.row.kept ((HK0.out.trans HK.out (fun _ _ e => e)).trans kW (fun _ _ e => e))).at_ hx
        cases e2
        obtain ⟨b0, b1⟩ := HB.out W (HK.out.trans kW (fun _ _ e => e))
        exact ⟨hc2 0 _ rfl, hc2 1 _ rfl, b0, b1⟩
      have CC : Hid (∀ W, Kept Nil wr W → Calls Tryd.prog 20 #[.agg #[.string x.r, .slice x.a x.n x.c], .agg #[.string r, .slice ma mn mc]] W fun e w' => e = .returned (.int .i64 (cmpM x.val v)) ∧ Kept Nil W w') := Lib.hid fun W kW => HC2.out x (List.mem_of_getElem? hx) W ((HK0.out.trans HK.out (fun _ _ e => e)).trans kW (fun _ _ e => e))
      obtain ⟨cv, hcv⟩ : ∃ cv, cmpM x.val v = cv := ⟨_, rfl⟩
      have HCV := Lib.hid hcv
      rw [hcv] at CC
      clear hx hc hcv
      have inst : Nonempty (CW (Kept Nil wr)) := ⟨⟨_, Kept.refl Nil wr⟩⟩
      have hc0 : ∀ n : CW (Kept Nil wr), n.w.cell? ⟨g, off + (lo + hi) / 2 * 2, none⟩ = some (.string x.r) := fun n => (HS'.out _ n.of).1
      have hc1 : ∀ n : CW (Kept Nil wr), n.w.cell? ⟨g, off + (lo + hi) / 2 * 2 + 1, none⟩ = some (.slice x.a x.n x.c) := fun n => (HS'.out _ n.of).2.1
      have hc2 : ∀ n : CW (Kept Nil wr), n.w.cell? ⟨w.heap.size, 0, none⟩ = some (.string r) := fun n => (HS'.out _ n.of).2.2.1
      have hc3 : ∀ n : CW (Kept Nil wr), n.w.cell? ⟨w.heap.size, 1, none⟩ = some (.slice ma mn mc) := fun n => (HS'.out _ n.of).2.2.2
      by_cases hneg : cv < 0
      · have hd : decide (cv < 0) = true := decide_eq_true hneg
        have I2 : Hid ((∀ (t : Nat) (x : MC), t < (lo + hi) / 2 + 1 → l[t]? = some x → ltM x.val v = true) ∧ (∀ (t : Nat) (x : MC), hi ≤ t → l[t]? = some x → ltM x.val v = false)) := Lib.hid ⟨fun t y ht hy => by
          have hxv : ltM x.val v = true := cmpM_neg.1 (by rw [HCV.out]; exact hneg)
          by_cases e : t = (lo + hi) / 2
          · rw [e, HX.out] at hy; cases hy; exact hxv
          · exact ltM_trans _ _ _ (HA.out t _ y x (by omega) hy HX.out) hxv, I.out.2⟩
        clear hneg
        go_wp2_with fail
        refine wp_region_in (Kept Nil wr) (by kernel_rfl) (by kernel_rfl) ((Kept.refl Nil wr).drew) ?_
        repeat (go_big_quiet_step ((go_at_call 20; exact call_in (fun W W' h k => h.trans k (fun _ _ e => e)) (CC.out _ (CW.of _)))))
        refine wpQuiet_nil ?_
        rintro _ ⟨nn, rfl⟩
        have K2 := Lib.hid (HK.out.trans nn.of (fun _ _ e => e))
        clear hc0 hc1 hc2 hc3
        go_wp2_with fail
        go_roundw
        case rel => exact ⟨(lo + hi) / 2 + 1, hi, by rw [show ((lo : Int) + (hi : Int)) / 2 + 1 = (((lo + hi) / 2 + 1 : Nat) : Int) by omega], rfl, by omega, hin, K2, I2⟩
        case measure => simp [intOf]; omega
      · have hd : decide (cv < 0) = false := decide_eq_false hneg
        have I2 : Hid ((∀ (t : Nat) (x : MC), t < lo → l[t]? = some x → ltM x.val v = true) ∧ (∀ (t : Nat) (x : MC), (lo + hi) / 2 ≤ t → l[t]? = some x → ltM x.val v = false)) := Lib.hid ⟨I.out.1, fun t y ht hy => by
          have hxv : ltM x.val v = false := by
            cases h : ltM x.val v with
            | false => rfl
            | true => exact absurd (cmpM_neg.2 h) (by rw [HCV.out]; exact hneg)
          by_cases e : t = (lo + hi) / 2
          · rw [e, HX.out] at hy; cases hy; exact hxv
          · cases h : ltM y.val v with
            | false => rfl
            | true => have := ltM_trans _ _ _ (HA.out _ t x y (by omega) HX.out hy) h; rw [hxv] at this; cases this⟩
        clear hneg
        go_wp2_with fail
        refine wp_region_in (Kept Nil wr) (by kernel_rfl) (by kernel_rfl) ((Kept.refl Nil wr).drew) ?_
        repeat (go_big_quiet_step ((go_at_call 20; exact call_in (fun W W' h k => h.trans k (fun _ _ e => e)) (CC.out _ (CW.of _)))))
        refine wpQuiet_nil ?_
        rintro _ ⟨nn, rfl⟩
        have K2 := Lib.hid (HK.out.trans nn.of (fun _ _ e => e))
        clear hc0 hc1 hc2 hc3
        go_wp2_with fail
        go_roundw
        case rel => exact ⟨lo, (lo + hi) / 2, rfl, by rw [show ((lo : Int) + (hi : Int)) / 2 = (((lo + hi) / 2 : Nat) : Int) by omega], by omega, by omega, K2, I2⟩
        case measure => simp [intOf]; omega
    · have e : hi = lo := by omega
      subst e
      have HE : Hid (v ∈ l.map MC.val ↔ ∃ x, l[hi]? = some x ∧ x.val = v) := Lib.hid (by
        constructor
        · intro hv
          obtain ⟨x, hx, e⟩ := List.mem_map.1 hv
          obtain ⟨t, ht⟩ := List.getElem?_of_mem hx
          by_cases h1 : t < hi
          · have := I.out.1 t x h1 ht
            rw [e, ltM_irrefl] at this; cases this
          · by_cases h2 : t = hi
            · exact ⟨x, by rw [← h2]; exact ht, e⟩
            · obtain ⟨y, hy⟩ : ∃ y, l[hi]? = some y := ⟨_, List.getElem?_eq_getElem (by have := (List.getElem?_eq_some_iff.1 ht).1; omega)⟩
              have h3 := HA.out hi t y x (by omega) hy ht
              rw [e, I.out.2 hi y (Nat.le_refl _) hy] at h3; cases h3
        · rintro ⟨x, hx, e⟩
          exact List.mem_map.2 ⟨x, List.mem_of_getElem? hx, e⟩)
      by_cases hn2 : hi < n
      · obtain ⟨x, hx⟩ : ∃ x, l[hi]? = some x := ⟨_, List.getElem?_eq_getElem (by have := HL.out; omega)⟩
        obtain ⟨g, off, rfl, _, hc⟩ := (HH.out.row.kept (HK0.out.trans HK.out (fun _ _ e => e))).at_ hx
        have HS' : Hid (∀ W, Kept Nil wr W → W.cell? ⟨g, off + hi * 2, none⟩ = some (.string x.r) ∧ W.cell? ⟨g, off + hi * 2 + 1, none⟩ = some (.slice x.a x.n x.c) ∧ W.cell? ⟨w.heap.size, 0, none⟩ = some (.string r) ∧ W.cell? ⟨w.heap.size, 1, none⟩ = some (.slice ma mn mc)) := Lib.hid fun W kW => by
          obtain ⟨b2, o2, e2, _, hc2⟩ := (HH.out.row.kept ((HK0.out.trans HK.out (fun _ _ e => e)).trans kW (fun _ _ e => e))).at_ hx
          cases e2
          obtain ⟨b0, b1⟩ := HB.out W (HK.out.trans kW (fun _ _ e => e))
          exact ⟨hc2 0 _ rfl, hc2 1 _ rfl, b0, b1⟩
        have CC : Hid (∀ W, Kept Nil wr W → Calls Tryd.prog 20 #[.agg #[.string x.r, .slice x.a x.n x.c], .agg #[.string r, .slice ma mn mc]] W fun e w' => e = .returned (.int .i64 (cmpM x.val v)) ∧ Kept Nil W w') := Lib.hid fun W kW => HC2.out x (List.mem_of_getElem? hx) W ((HK0.out.trans HK.out (fun _ _ e => e)).trans kW (fun _ _ e => e))
        obtain ⟨cv, hcv⟩ : ∃ cv, cmpM x.val v = cv := ⟨_, rfl⟩
        have HD : Hid ((cv == 0) = decide (v ∈ l.map MC.val)) := Lib.hid (by
          rw [Bool.eq_iff_iff, beq_iff_eq, decide_eq_true_eq, HE.out, ← hcv, cmpM_zero]
          exact ⟨fun e => ⟨x, hx, e⟩, fun ⟨y, hy, e⟩ => by rw [hx] at hy; cases hy; exact e⟩)
        rw [hcv] at CC
        have inst : Nonempty (CW (Kept Nil wr)) := ⟨⟨_, Kept.refl Nil wr⟩⟩
        have hc0 : ∀ n : CW (Kept Nil wr), n.w.cell? ⟨g, off + hi * 2, none⟩ = some (.string x.r) := fun n => (HS'.out _ n.of).1
        have hc1 : ∀ n : CW (Kept Nil wr), n.w.cell? ⟨g, off + hi * 2 + 1, none⟩ = some (.slice x.a x.n x.c) := fun n => (HS'.out _ n.of).2.1
        have hc2 : ∀ n : CW (Kept Nil wr), n.w.cell? ⟨w.heap.size, 0, none⟩ = some (.string r) := fun n => (HS'.out _ n.of).2.2.1
        have hc3 : ∀ n : CW (Kept Nil wr), n.w.cell? ⟨w.heap.size, 1, none⟩ = some (.slice ma mn mc) := fun n => (HS'.out _ n.of).2.2.2
        clear hx hc hcv hlt
        go_wp2_with fail
        refine wp_region_in (Kept Nil wr) (by kernel_rfl) (by kernel_rfl) ((Kept.refl Nil wr).drew) ?_
        repeat (go_big_quiet_step ((go_at_call 20; exact call_in (fun W W' h k => h.trans k (fun _ _ e => e)) (CC.out _ (CW.of _)))))
        refine wpQuiet_nil ?_
        rintro _ ⟨nn, rfl⟩
        have K2 := Lib.hid ((HK0.out.trans HK.out (fun _ _ e => e)).trans nn.of (fun _ _ e => e))
        clear hc0 hc1 hc2 hc3
        go_wp2_with fail
        go_ret2
        exact ⟨⟨hi, show Ending.returned (.tuple #[.int .i64 hi, .bool (cv == 0)]) = _ from by rw [HD.out]⟩, K2.out⟩
      · have HD : Hid (false = decide (v ∈ l.map MC.val)) := Lib.hid (by
          cases h : decide (v ∈ l.map MC.val) with
          | false => rfl
          | true =>
            obtain ⟨y, hy, e⟩ := HE.out.1 (of_decide_eq_true h)
            have := (List.getElem?_eq_some_iff.1 hy).1
            have := HL.out
            omega)
        have hnn : hi = n := by omega
        clear hlt
        go_wp2_with fail
        have inst : Nonempty (CW (Kept Nil wr)) := ⟨⟨_, Kept.refl Nil wr⟩⟩
        refine wp_region_in (Kept Nil wr) (by kernel_rfl) (by kernel_rfl) ((Kept.refl Nil wr).drew) ?_
        repeat (go_big_quiet_step (fail))
        refine wpQuiet_nil ?_
        rintro _ ⟨nn, rfl⟩
        have K2 := Lib.hid ((HK0.out.trans HK.out (fun _ _ e => e)).trans nn.of (fun _ _ e => e))
        go_wp2_with fail
        go_ret2
        exact ⟨⟨hi, show Ending.returned (.tuple #[.int .i64 hi, .bool false]) = _ from by rw [HD.out]⟩, K2.out⟩

/-- The box of what isIn makes, and the list in it. -/
theorem isIn1_any {w : World} {q : Nat} {a : Option Addr} {n c : Nat} {l : List MC} (h : Ms w a n l) (hn : n ≤ 5000) (hs : Srt (l.map MC.val)) (hq : w.cell? ⟨q, 0, none⟩ = some (.slice a n c)) {m : MC} (hm : Mok w m) :
    Calls Tryd.prog 49 #[vM m, .pointer (some ⟨q, 0, none⟩)] w fun e w' => e = .returned (.bool (decide (m.val ∈ l.map MC.val))) ∧ Kept Nil w w' := by
  have hql : q < w.heap.size := World.block_lt_of_cell? w _ hq
  have CS : Hid (∀ W, Kept Nil w W → Calls Tryd.prog 50 #[.slice a n c, vM m, .func (.func 20) #[] #[]] W fun e w' => (∃ i : Nat, e = .returned (.tuple #[.int .i64 i, .bool (decide (m.val ∈ l.map MC.val))])) ∧ Kept Nil W w') := Lib.hid fun W k => search_any (h.kept k) hn hs (hm.kept k)
  generalize decide (m.val ∈ l.map MC.val) = b at CS ⊢
  clear h hs hm
  obtain ⟨r, ids, mn, ma, mc⟩ := m
  unfold vM at CS
  have HK0 := Lib.hid ((Kept.refl Nil w).alloc (.cells #[.string r, .slice ma mn mc] 37))
  have hq2 : (w.alloc (.cells #[.string r, .slice ma mn mc] 37)).cell? ⟨q, 0, none⟩ = some (.slice a n c) := by rw [HK0.out.cell hql (fun e => e)]; exact hq
  show Calls Tryd.prog 49 #[.agg #[.string r, .slice ma mn mc], .pointer (some ⟨q, 0, none⟩)] w _
  go_enter Tryd.func49, Tryd.ntmps49
  go_wp2_with fail
  refine (CS.out _ HK0.out).mono ?_
  rintro e w1 ⟨⟨i, rfl⟩, hk⟩
  have HK := Lib.hid (HK0.out.trans hk (fun _ _ e => e))
  clear hk
  go_wp2_with fail
  go_ret
  exact ⟨rfl, HK.out⟩
theorem isIn_any {w : World} {a : Option Addr} {n c : Nat} :
    Calls Tryd.prog 28 #[.slice a n c] w fun e w' => e = .returned (.func (.func 49) #[] #[.pointer (some ⟨w.heap.size, 0, none⟩)]) ∧ w'.cell? ⟨w.heap.size, 0, none⟩ = some (.slice a n c) ∧ Kept Nil w w' := by
  go_enter Tryd.func28, Tryd.ntmps28
  go_wp2_with fail
  go_ret
  exact ⟨rfl, by go_simp, (Kept.refl Nil w).alloc _⟩

/-! ### Those that another list doesn't have -/
set_option maxHeartbeats 2000000 in
theorem without_any {w : World} {a : Option Addr} {n c : Nat} {l : List MC} (h : Ms w a n l) (hn : n ≤ 5000) {f : Nat} {q : Nat} (p : M → Bool)
    (hf : f = 49)
    (hc : ∀ m ∈ l, ∀ W, Kept Nil w W → Calls Tryd.prog 49 #[vM m, .pointer (some ⟨q, 0, none⟩)] W fun e w' => e = .returned (.bool (p m.val)) ∧ Kept Nil W w') :
    Calls Tryd.prog 27 #[.slice a n c, .func (.func f) #[] #[.pointer (some ⟨q, 0, none⟩)]] w fun e w' => ∃ a' n' c', e = .returned (.slice a' n' c') ∧ Ms w' a' n' (l.filter fun m => !p m.val) ∧ Kept Nil w w' := by
  subst hf
  have HH := Lib.hid h
  have HC := Lib.hid hc
  have HL := Lib.hid h.row.1
  clear h hc
  go_enter Tryd.func27, Tryd.ntmps27
  go_wp2_with fail
  go_loopw [5, 7, 10] (fun r _ i wr => ∃ (j : Nat) (a2 : Option Addr) (n2 c2 : Nat), j ≤ n ∧ i = .int .i64 j ∧ r = .slice a2 n2 c2 ∧ n2 ≤ j ∧ Hid (Row cM 37 2 wr w.heap.size (.slice a2 n2 c2) ((l.take j).filter fun m => !p m.val)) ∧ Hid (Kept Nil w wr)) (fun _ _ i _ => n - (intOf i).toNat)
  case atStart => exact ⟨0, none, 0, 0, Nat.zero_le _, rfl, rfl, Nat.le_refl _, Row.nil _ _, Kept.refl _ _⟩
  case round =>
    obtain ⟨j, a2, n2, c2, hj, rfl, rfl, hn2, HR, HK⟩ := hrel
    by_cases hlt : j < n
    · obtain ⟨m, hm⟩ : ∃ m, l[j]? = some m := ⟨_, List.getElem?_eq_getElem (by have := HL.out; omega)⟩
      obtain ⟨b0, o0, rfl, hb0, hc0⟩ := (HH.out.row.kept HK.out).at_ hm
      have q0 := hc0 0 _ rfl
      have q1 := hc0 1 _ rfl
      rw [Nat.add_zero] at q0
      have htk : l.take (j + 1) = l.take j ++ [m] := take_succ' hm
      have CM : Hid (∀ W, Kept Nil wr W → Calls Tryd.prog 49 #[vM m, .pointer (some ⟨q, 0, none⟩)] W fun e w' => e = .returned (.bool (p m.val)) ∧ Kept Nil W w') := Lib.hid fun W kW => HC.out m (List.mem_of_getElem? hm) W (HK.out.trans kW (fun _ _ e => e))
      have HT : Hid ((l.take (j + 1)).filter (fun m => !p m.val) = (l.take j).filter (fun m => !p m.val) ++ if p m.val then [] else [m]) := Lib.hid (by rw [htk, List.filter_append]; cases hpm : p m.val <;> simp [hpm])
      generalize p m.val = pb at CM HT
      obtain ⟨r, ids, mn, ma, mc⟩ := m
      unfold vM at CM
      have KA := Lib.hid ((Kept.refl Nil wr).alloc (.cells #[.string r, .slice ma mn mc] 37))
      have HB : Hid (∀ W, Kept Nil (wr.alloc (.cells #[.string r, .slice ma mn mc] 37)) W → W.cell? ⟨wr.heap.size, 0, none⟩ = some (.string r) ∧ W.cell? ⟨wr.heap.size, 1, none⟩ = some (.slice ma mn mc)) := Lib.hid fun W kW => by
        have hb := (Blk.new wr 37 #[.string r, .slice ma mn mc]).kept kW (fun e => e)
        exact ⟨hb.cell 0, hb.cell 1⟩
      clear hc0 hm htk
      simp only at q0 q1
      go_wp2_with fail
      refine (CM.out _ KA.out).mono ?_
      rintro e w1 ⟨rfl, k1⟩
      obtain ⟨y0, y1⟩ := HB.out _ k1
      have HK1 := Lib.hid ((HK.out.trans KA.out (fun _ _ e => e)).trans k1 (fun _ _ e => e))
      have KW1 := Lib.hid (KA.out.trans k1 (fun _ _ e => e))
      clear k1 q0 q1
      cases pb with
      | true =>
        have HR2 : Hid (Row cM 37 2 w1 w.heap.size (.slice a2 n2 c2) ((l.take (j + 1)).filter fun m => !p m.val)) := Lib.hid (by rw [HT.out, if_pos rfl, List.append_nil]; exact HR.out.keptN KW1.out)
        go_wp2_with fail
        go_roundw
        case rel => exact ⟨j + 1, a2, n2, c2, hlt, by go_num, rfl, by omega, HR2, HK1⟩
        case measure => simp [intOf]; omega
      | false =>
        have hnl : n2 = ((l.take j).filter fun m => !p m.val).length := by
          obtain ⟨_, _, e⟩ := HR.out.shape
          exact (Value.slice.inj e).2.1
        obtain ⟨a3, c3, w2, r3, hr3, hk3, hk4⟩ := Row.push elsM cM_len cM_one 22 HK1.out (HR.out.keptN KW1.out) hnl (by omega) ⟨r, ids, mn, ma, mc⟩ #[.string r, .slice ma mn mc] rfl
        have R3 := Lib.hid r3
        have HR3 : Hid (Row cM 37 2 w2 w.heap.size (.slice a3 (n2 + 1) c3) ((l.take (j + 1)).filter fun m => !p m.val)) := Lib.hid (by rw [HT.out]; simpa using hr3)
        have HK3 := Lib.hid hk3
        clear r3 hr3 hk3 hk4 hnl
        go_wp2_with (at_builtin; refine wpList_append_run rfl (.tmp 18) (.tmp 20) 22 rfl _ _ rfl rfl R3.out ?_)
        go_roundw
        case rel => exact ⟨j + 1, a3, n2 + 1, c3, hlt, by go_num, rfl, by omega, HR3, HK3⟩
        case measure => simp [intOf]; omega
    · have e : j = n := by omega
      subst e
      have HR2 : Hid (Row cM 37 2 wr w.heap.size (.slice a2 n2 c2) (l.filter fun m => !p m.val)) := Lib.hid (by have := HR.out; rwa [List.take_of_length_le (by have := HL.out; omega)] at this)
      go_wp2_with fail
      go_ret
      exact ⟨a2, n2, c2, rfl, ⟨HR2.out.toIn cM_len (by decide), fun m hm => (HH.out.ok m (List.mem_filter.1 hm).1).kept HK.out⟩, HK.out⟩
end Go.Proofs.YtkffcpjaciomjaaDoor
