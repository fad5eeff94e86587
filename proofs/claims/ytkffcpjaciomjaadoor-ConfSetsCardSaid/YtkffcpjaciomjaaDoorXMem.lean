/- Matches in memory; contracts of cmp.Compare, slices.Compare, strings.Compare, Compare, alike. -/
import Derived.Test.YtkffcpjaciomjaaDoorXMath
import Derived.Test.YtkffcpjaciomjaaDoorShelf
import Derived.Sort.Grow
namespace Go.Proofs.YtkffcpjaciomjaaDoor
open Go.RowKit Go.Shelf Go.Sort
set_option maxRecDepth 100000

/-- New memory and draws alone, as a sort wants it said. -/
def Gr (w w' : World) : Prop := ∃ q os, w' = grow (w.drewN q) os
theorem Gr.refl (w : World) : Gr w w := ⟨0, #[], by simp [grow, World.drewN]⟩
theorem Gr.alloc {w w' : World} (h : Gr w w') (o : Obj) : Gr w (w'.alloc o) := by
  obtain ⟨q, os, rfl⟩ := h
  exact ⟨q, os ++ #[o], by rw [alloc_eq_grow, grow_grow]⟩
theorem Gr.kept {w w' : World} (h : Gr w w') : Kept Nil w w' := by
  obtain ⟨q, os, rfl⟩ := h
  exact ⟨rfl, rfl, rfl, by simp [grow, World.drewN], fun k hk _ => by simp [grow, World.drewN, Array.getElem?_append, hk]⟩
theorem Gr.trans {a b c : World} (h : Gr a b) (k : Gr b c) : Gr a c := by
  obtain ⟨q, os, rfl⟩ := h
  obtain ⟨q2, os2, rfl⟩ := k
  refine ⟨q + q2, os ++ os2, ?_⟩
  unfold grow World.drewN
  simp [Array.append_assoc, Nat.add_assoc]

/-- A match as it lies. -/
structure MC where
  r : ByteArray
  ids : List Int
  n : Nat
  a : Option Addr
  c : Nat
def cM (m : MC) : List Value := [.string m.r, .slice m.a m.n m.c]
def vM (m : MC) : Value := .agg #[.string m.r, .slice m.a m.n m.c]
def MC.val (m : MC) : M := (m.r, m.ids)
theorem cM_len (m : MC) : (cM m).length = 2 := rfl
theorem cM_one (m : MC) : ∀ v ∈ cM m, v.oneCell' = true := fun v hv => by
  simp only [cM, List.mem_cons, List.not_mem_nil, or_false] at hv
  rcases hv with rfl | rfl <;> rfl
/-- Its ids lie there; they are few. -/
structure Mok (w : World) (m : MC) : Prop where
  ids : In cN 1 w m.a m.n m.ids
  fits : m.n ≤ m.c
  few : m.n ≤ 1000
  small : m.r.size ≤ 1000
theorem Mok.kept {w w' : World} {m : MC} (h : Mok w m) (k : Kept Nil w w') : Mok w' m := ⟨h.ids.kept k, h.fits, h.few, h.small⟩
theorem Mok.keptF {F : Nat → Prop} {w w' : World} {m : MC} (h : Mok w m) (k : Kept F w w') (hF : ∀ b, (Value.slice m.a m.n m.c).ownBlock = some b → ¬ F b) : Mok w' m := ⟨h.ids.keptF k hF, h.fits, h.few, h.small⟩

def cmp1 (x y : Int) : Int := if x < y then -1 else if y < x then 1 else 0
theorem cmpInt_any (x y : Int) (w : World) :
    Calls Tryd.prog 52 #[.int .i64 x, .int .i64 y] w fun e w' => e = .returned (.int .i64 (cmp1 x y)) ∧ w' = w := by
  rcases Int.lt_trichotomy x y with h | h | h
  · have H := Lib.hid (show cmp1 x y = -1 by unfold cmp1; rw [if_pos h])
    go_enter Tryd.func52, Tryd.ntmps52
    go_wp2
    go_ret
    exact ⟨ret_int H.out.symm, rfl⟩
  · subst h
    have H := Lib.hid (show cmp1 x x = 0 by unfold cmp1; rw [if_neg (by omega), if_neg (by omega)])
    go_enter Tryd.func52, Tryd.ntmps52
    go_wp2
    go_ret
    exact ⟨ret_int H.out.symm, rfl⟩
  · have H := Lib.hid (show cmp1 x y = 1 by unfold cmp1; rw [if_neg (by omega), if_pos h])
    go_enter Tryd.func52, Tryd.ntmps52
    go_wp2
    go_ret
    exact ⟨ret_int H.out.symm, rfl⟩
theorem cmpStr_any (x y : ByteArray) (w : World) :
    Calls Tryd.prog 33 #[.string x, .string y] w fun e w' => e = .returned (.int .i64 (Lib.compareBytes x.data.toList y.data.toList)) ∧ w' = w := by
  have h := Any.strings_Compare Tryd.lays106 x y w
  change Calls Tryd.prog 33 _ _ _ at h
  exact h
theorem cmpIds_any {w : World} {a b : Option Addr} {n m c d : Nat} {x y : List Int} (hx : In cN 1 w a n x) (hy : In cN 1 w b m y) (hn : n ≤ 1000) (hm : m ≤ 1000) :
    Calls Tryd.prog 34 #[.slice a n c, .slice b m d] w fun e w' => e = .returned (.int .i64 (cmpI x y)) ∧ w' = w := by
  have HX := Lib.hid hx
  have HY := Lib.hid hy
  have hnx := hx.1
  have hmy := hy.1
  have HNX := Lib.hid hnx
  have HMY := Lib.hid hmy
  clear hx hy hnx hmy
  go_enter Tryd.func34, Tryd.ntmps34
  go_wp2_with fail
  go_loopw [5, 6, 7, 8, 11] (fun _ _ _ _ i wr => ∃ k : Nat, k ≤ n ∧ k ≤ m ∧ i = .int .i64 k ∧ Hid (x.take k = y.take k) ∧ wr = w) (fun _ _ _ _ i _ => n - (intOf i).toNat)
  case atStart => exact ⟨0, Nat.zero_le _, Nat.zero_le _, rfl, rfl, rfl⟩
  case round =>
    obtain ⟨k, hk, hkm, rfl, HT, rfl⟩ := hrel
    by_cases hlt : k < n
    · obtain ⟨u, hu⟩ : ∃ u, x[k]? = some u := ⟨_, List.getElem?_eq_getElem (by have := HNX.out; omega)⟩
      obtain ⟨b1, o1, rfl, _, hc1⟩ := HX.out.at_ hu
      have q1 := hc1 0 _ rfl
      rw [Nat.mul_one, Nat.add_zero] at q1
      by_cases hlm : k < m
      · obtain ⟨v, hv⟩ : ∃ v, y[k]? = some v := ⟨_, List.getElem?_eq_getElem (by have := HMY.out; omega)⟩
        obtain ⟨b2, o2, rfl, _, hc2⟩ := HY.out.at_ hv
        have q2 := hc2 0 _ rfl
        rw [Nat.mul_one, Nat.add_zero] at q2
        have HU := Lib.hid hu
        have HV := Lib.hid hv
        clear hc1 hc2 hu hv
        rcases Int.lt_trichotomy u v with h | h | h
        · have HE := Lib.hid (show cmpI x y = -1 by unfold cmpI; rw [ltI_diff HT.out HU.out HV.out (by omega), decide_eq_true h]; rfl)
          have CC : Hid (∀ W, Calls Tryd.prog 52 #[.int .i64 u, .int .i64 v] W fun e w' => e = .returned (.int .i64 (-1)) ∧ w' = W) := Lib.hid fun W => by have := cmpInt_any u v W; unfold cmp1 at this; rwa [if_pos h] at this
          clear h
          go_wp2_with fail
          refine (CC.out _).mono ?_
          rintro e w1 ⟨rfl, rfl⟩
          go_wp2_with fail
          go_ret
          exact ⟨ret_int HE.out.symm, rfl⟩
        · subst h
          have CC : Hid (∀ W, Calls Tryd.prog 52 #[.int .i64 u, .int .i64 u] W fun e w' => e = .returned (.int .i64 0) ∧ w' = W) := Lib.hid fun W => by have := cmpInt_any u u W; unfold cmp1 at this; rwa [if_neg (Int.lt_irrefl _), if_neg (Int.lt_irrefl _)] at this
          have HT2 := Lib.hid (take_more HT.out HU.out HV.out)
          go_wp2_with fail
          refine (CC.out _).mono ?_
          rintro e w1 ⟨rfl, rfl⟩
          go_wp2_with fail
          go_roundw
          case rel => exact ⟨k + 1, hlt, hlm, by go_num, HT2, by first | rfl | trivial⟩
          case measure => simp [intOf]; omega
        · have HE := Lib.hid (show cmpI x y = 1 by unfold cmpI; rw [ltI_diff HT.out HU.out HV.out (by omega), decide_eq_false (by omega), ltI_diff HT.out.symm HV.out HU.out (by omega), decide_eq_true h]; rfl)
          have CC : Hid (∀ W, Calls Tryd.prog 52 #[.int .i64 u, .int .i64 v] W fun e w' => e = .returned (.int .i64 1) ∧ w' = W) := Lib.hid fun W => by have := cmpInt_any u v W; unfold cmp1 at this; rwa [if_neg (by omega), if_pos h] at this
          clear h
          go_wp2_with fail
          refine (CC.out _).mono ?_
          rintro e w1 ⟨rfl, rfl⟩
          go_wp2_with fail
          go_ret
          exact ⟨ret_int HE.out.symm, rfl⟩
      · have e : k = m := by omega
        subst e
        have HE := Lib.hid (show cmpI x y = 1 by
          have h1 : x.take y.length = y.take y.length := by rw [HMY.out]; exact HT.out
          unfold cmpI; rw [ltI_right h1, ltI_left h1.symm (by rw [HMY.out, HNX.out]; omega)]; rfl)
        clear hc1 hu
        go_wp2_with fail
        go_ret
        exact ⟨ret_int HE.out.symm, rfl⟩
    · have e : k = n := by omega
      subst e
      have h1 : x.take x.length = y.take x.length := by rw [HNX.out]; exact HT.out
      by_cases hl : k < m
      · have HE := Lib.hid (show cmpI x y = -1 by unfold cmpI; rw [ltI_left h1 (by rw [HMY.out, HNX.out]; omega)]; rfl)
        clear h1
        go_wp2_with fail
        go_ret
        exact ⟨ret_int HE.out.symm, rfl⟩
      · have HE := Lib.hid (show cmpI x y = 0 by rw [eq_of_take h1 (by rw [HMY.out, HNX.out]; omega)]; unfold cmpI; rw [ltI_irrefl]; rfl)
        have hkm2 : k = m := by omega
        clear h1
        go_wp2_with fail
        go_ret
        exact ⟨ret_int HE.out.symm, rfl⟩

theorem compare_any {w : World} {x y : MC} (hx : Mok w x) (hy : Mok w y) :
    Calls Tryd.prog 20 #[vM x, vM y] w fun e w' => e = .returned (.int .i64 (cmpM x.val y.val)) ∧ Gr w w' := by
  obtain ⟨r, ids, n, a, c⟩ := x
  obtain ⟨s, jds, m, b, d⟩ := y
  have GA := Lib.hid (((Gr.refl w).alloc (.cells #[.string r, .slice a n c] 37)).alloc (.cells #[.string s, .slice b m d] 37))
  have CS := Lib.hid (fun W => cmpStr_any r s W)
  have CI : Hid (∀ W, Kept Nil w W → Calls Tryd.prog 34 #[.slice a n c, .slice b m d] W fun e w' => e = .returned (.int .i64 (cmpI ids jds)) ∧ w' = W) := Lib.hid fun W k => cmpIds_any (hx.ids.kept k) (hy.ids.kept k) hx.few hy.few
  clear hx hy
  show Calls Tryd.prog 20 #[.agg #[.string r, .slice a n c], .agg #[.string s, .slice b m d]] w _
  by_cases h : r = s
  · subst h
    have HE : Hid (cmpM (r, ids) (r, jds) = cmpI ids jds) := Lib.hid (cmpM_ids rfl)
    have h0 : Lib.compareBytes r.data.toList r.data.toList = 0 := cmpB_zero.2 rfl
    rw [h0] at CS
    clear h0
    go_enter Tryd.func20, Tryd.ntmps20
    go_wp2_with fail
    refine (CS.out _).mono ?_
    rintro e w1 ⟨rfl, rfl⟩
    go_wp2_with fail
    refine (CI.out _ GA.out.kept).mono ?_
    rintro e w2 ⟨rfl, rfl⟩
    go_wp2_with fail
    go_ret
    exact ⟨ret_int HE.out.symm, GA.out⟩
  · have HE : Hid (cmpM (r, ids) (s, jds) = Lib.compareBytes r.data.toList s.data.toList) := Lib.hid (cmpM_names h)
    have h0 : (Lib.compareBytes r.data.toList s.data.toList != 0) = true := bne_iff_ne.2 (fun e => h (cmpB_zero.1 e))
    generalize Lib.compareBytes r.data.toList s.data.toList = z at CS HE h0
    clear h
    go_enter Tryd.func20, Tryd.ntmps20
    go_wp2_with fail
    refine (CS.out _).mono ?_
    rintro e w1 ⟨rfl, rfl⟩
    go_wp2_with fail
    go_ret
    exact ⟨ret_int HE.out.symm, GA.out⟩
theorem alike_any {w : World} {x y : MC} (hx : Mok w x) (hy : Mok w y) :
    Calls Tryd.prog 31 #[vM x, vM y] w fun e w' => e = .returned (.bool (decide (x.val = y.val))) ∧ Gr w w' := by
  have HE : Hid (decide (x.val = y.val) = (cmpM x.val y.val == 0)) := Lib.hid (by rw [Bool.eq_iff_iff]; simp [cmpM_zero])
  have CC : Hid (∀ W, Kept Nil w W → Calls Tryd.prog 20 #[vM x, vM y] W fun e w' => e = .returned (.int .i64 (cmpM x.val y.val)) ∧ Gr W w') := Lib.hid fun W k => compare_any (hx.kept k) (hy.kept k)
  generalize decide (x.val = y.val) = z at HE ⊢
  generalize cmpM x.val y.val = u at HE CC
  obtain ⟨r, ids, n, a, c⟩ := x
  obtain ⟨s, jds, m, b, d⟩ := y
  have GA := Lib.hid (((Gr.refl w).alloc (.cells #[.string r, .slice a n c] 37)).alloc (.cells #[.string s, .slice b m d] 37))
  clear hx hy
  unfold vM at CC
  show Calls Tryd.prog 31 #[.agg #[.string r, .slice a n c], .agg #[.string s, .slice b m d]] w _
  go_enter Tryd.func31, Tryd.ntmps31
  go_wp2_with fail
  refine (CC.out _ GA.out.kept).mono ?_
  rintro e w1 ⟨rfl, g1⟩
  go_wp2_with fail
  go_ret
  exact ⟨ret_bool HE.out.symm, GA.out.trans g1⟩
end Go.Proofs.YtkffcpjaciomjaaDoor
