/- Layer term: the contract of Vars: the variables, each once, rising. -/
import Derived.Test.YtkfijbinaidaiaaURef
import Derived.Test.YtkfijbinaidaiaaUFit
import Derived.Test.YtkfijbinaidaiaaUShelf
import Derived.Test.YtkfijbinaidaiaaUPairs
namespace Go.Proofs.Ytkfijbinaidaiaa
open Go.RowKit Go.Shelf Go.Sort

/-- A row of the call's own that holds numbers. -/
def IRow (w : World) (B : Nat) (v : Value) (l : List Int) : Prop := w.ownsRow B 3 1 v l.length (l.map (Value.int .i64))
theorem IRow.shape {w : World} {B : Nat} {v : Value} {l : List Int} (h : IRow w B v l) : ∃ a cap, v = .slice a l.length cap := by
  rcases h.2 with ⟨e, e0⟩ | ⟨g, cap, cur, e, _⟩
  · exact ⟨none, 0, by rw [e, e0]⟩
  · exact ⟨_, _, e⟩
theorem IRow.kept {w w' : World} {B : Nat} {v : Value} {l : List Int} (h : IRow w B v l) (k : Kept Nil w w') : IRow w' B v l := Kept.row k h (fun _ _ g => g)
theorem IRow.own {w : World} {B : Nat} {v : Value} {l : List Int} (h : IRow w B v l) : ∀ k, v.ownBlock = some k → B ≤ k := by
  intro k hk
  rcases h.2 with ⟨e, _⟩ | ⟨g, cap, cur, e, hb, _⟩
  · rw [e] at hk; cases hk
  · rw [e] at hk; cases hk; exact hb
theorem Try.infoI : (Try.prog.info? 3).map (fun i => (i.zero, i.size, i.bytes)) = some (some (.int .i64 0), 1, 8) := by kernel_rfl
theorem appendI_one (w : World) {B : Nat} {v : Value} {l : List Int} (h : IRow w B v l) (hB : B ≤ w.heap.size) (hl : l.length ≤ 5000) (s : Int) :
    ∃ v' w', (Builtin.append_ #[54, 54] 54 #[v, .slice (some ⟨w.heap.size, 0, none⟩) 1 1]).run Try.prog (w.alloc (.cells #[.int .i64 s] 3)) = .ok v' w' ∧ IRow w' B v' (l ++ [s]) ∧ (w.alloc (.cells #[.int .i64 s] 3)).grownBy w' v.ownBlock := by
  obtain ⟨i0, hi, hz0, hz1, hz2⟩ := info_parts Try.infoI
  obtain ⟨v', w', r, o, g', _⟩ := run_append_own (P := Try.prog) (w.alloc (.cells #[.int .i64 s] 3)) B 54 54 3 i0 (.int .i64 0) 1 8 Try.underlying54 hi hz0 hz1 hz2 rfl (by decide) v l.length (l.map (Value.int .i64)) (h.alloc _)
    ⟨w.heap.size, 0, none⟩ 1 1 [.int .i64 s] rfl (cell_one_new _ _ _) (fun u hu => by simp at hu; subst hu; rfl) (by unfold maxLen; omega) (by omega) (by simp; omega)
  exact ⟨v', w', r, by simpa [IRow] using o, g'⟩

/-- The variables among the first k terms. -/
def varsTo (k : Nat) (x0 x1 x2 : Bool) (n0 n1 n2 : Int) : List Int := (if decide (0 < k) && x0 then [n0] else []) ++ ((if decide (1 < k) && x1 then [n1] else []) ++ (if decide (2 < k) && x2 then [n2] else []))
theorem varsTo_zero (x0 x1 x2 : Bool) (n0 n1 n2 : Int) : varsTo 0 x0 x1 x2 n0 n1 n2 = [] := rfl
theorem varsTo_len (k : Nat) (x0 x1 x2 : Bool) (n0 n1 n2 : Int) : (varsTo k x0 x1 x2 n0 n1 n2).length ≤ 3 := by
  have h : ∀ (b : Bool) (n : Int), (if b then [n] else ([] : List Int)).length ≤ 1 := fun b n => by cases b <;> simp
  unfold varsTo
  rw [List.length_append, List.length_append]
  have h0 := h (decide (0 < k) && x0) n0
  have h1 := h (decide (1 < k) && x1) n1
  have h2 := h (decide (2 < k) && x2) n2
  omega
theorem varsTo_succ {k : Nat} (hk : k < 3) {x0 x1 x2 : Bool} {n0 n1 n2 t0 t1 t2 : Int} {v : Bool} {n s : Int} (h : (fl x0 x1 x2 n0 n1 n2 t0 t1 t2)[k]? = some ((v, n), s)) :
    varsTo (k + 1) x0 x1 x2 n0 n1 n2 = varsTo k x0 x1 x2 n0 n1 n2 ++ (if v then [n] else []) := by
  have : k = 0 ∨ k = 1 ∨ k = 2 := by omega
  rcases this with rfl | rfl | rfl
  · cases h; unfold varsTo; simp
  · cases h; unfold varsTo; simp
  · cases h; unfold varsTo; simp
/-- All of them, each once, rising. -/
def varsC (x0 x1 x2 : Bool) (n0 n1 n2 : Int) : List Int := Lib.compact ((varsTo 3 x0 x1 x2 n0 n1 n2).mergeSort fun x y => decide (x ≤ y))

def VarsEnd (c : List Int) (w : World) (e : Ending) (w' : World) : Prop := ∃ a cap, e = .returned (.slice a c.length cap) ∧ Kept Nil w w' ∧ (c = [] ∨ ∃ g, a = some ⟨g, 0, none⟩ ∧ ∀ i x, c[i]? = some x → w'.cell? ⟨g, i, none⟩ = some (.int .i64 x))

theorem kept_putRow (w : World) (g n : Nat) (d : Array Int) (os : Array Obj) : Kept (fun k => k = g) w (Sort.grow (putRow (Value.int .i64) (Sort.ahead w n) g 0 d) os) := by
  refine (?_ : Kept (fun k => k = g) w (putRow (Value.int .i64) (Sort.ahead w n) g 0 d)).trans (Kept.mono (F := Nil) ?_ (fun _ _ h => h.elim)) (fun _ _ h => h)
  · refine ⟨rfl, rfl, rfl, by simp [putRow, mapBlock, Sort.ahead], fun k hk hF => ?_⟩
    show (w.heap.modify g _)[k]? = _
    rw [Array.getElem?_modify, if_neg (fun e => hF e.symm)]
  · refine ⟨rfl, rfl, rfl, by simp [Sort.grow], fun k hk _ => ?_⟩
    show ((putRow (Value.int .i64) (Sort.ahead w n) g 0 d).heap ++ os)[k]? = _
    rw [Array.getElem?_append_left hk]
theorem IRow.holds {w : World} {B g cap : Nat} {l : List Int} (h : IRow w B (.slice (some ⟨g, 0, none⟩) l.length cap) l) (hl : 0 < l.length) : Holds (Value.int .i64) w g 0 l.toArray ∧ g < w.heap.size ∧ B ≤ g ∧ l.length ≤ cap := by
  rcases h.2 with ⟨e, e0⟩ | ⟨g', cap', cur, e, hb, hg, hle, _⟩
  · omega
  · cases e
    refine ⟨fun j hj => ?_, (Array.getElem?_eq_some_iff.1 hg).1, hb, hle⟩
    have hj' : j < l.length := by simpa using hj
    have := h.cells (g := g) rfl j (.int .i64 l[j]) (by simp [hj'])
    rw [show (⟨g, 0, none⟩ : Addr).add j = ⟨g, 0 + j, none⟩ from by unfold Addr.add; split <;> simp_all] at this
    exact ⟨by rw [this]; simp [hj'], by simp [World.frozen?, hg]⟩

set_option maxHeartbeats 2000000 in
theorem vars_any (x0 x1 x2 : Bool) (n0 n1 n2 : Int) (w : World) :
    Calls Try.prog 23 #[valL x0 x1 x2 n0 n1 n2] w (VarsEnd (varsC x0 x1 x2 n0 n1 n2) w) := by
  have K0 := Lib.hid ((Kept.refl Nil w).alloc (.cells #[.bool x0, .int .i64 n0, .bool x1, .int .i64 n1, .bool x2, .int .i64 n2] 30))
  go_enter Try.func23, Try.ntmps23
  go_wp2_with fail
  go_loopw [3, 7] (fun v i wr => ∃ k : Nat, k ≤ 3 ∧ i = .int .i64 k ∧ IRow wr w.heap.size v (varsTo k x0 x1 x2 n0 n1 n2) ∧ Kept Nil w wr) (fun _ i _ => 3 - (intOf i).toNat)
  case atStart => exact ⟨0, by omega, rfl, World.ownsRow_nil _ _ _ _, K0.out⟩
  case round =>
    obtain ⟨k, hk, rfl, hR, hK⟩ := hrel
    have HR := Lib.hid hR
    have HK := Lib.hid hK
    clear hR hK K0
    by_cases hlt : k < 3
    · obtain ⟨v, n, s, hget, hidx, _⟩ := fieldsL x0 x1 x2 n0 n1 n2 0 0 0 hlt
      have HM := Lib.hid (varsTo_succ hlt hget)
      clear hget
      cases v
      · go_wp2_with fail
        go_roundw
        case rel => exact ⟨k + 1, by omega, by go_num, by rw [HM.out]; simpa using HR.out.kept ((Kept.refl _ _).alloc _), HK.out.alloc _⟩
        case measure => simp [intOf]; omega
      · have R1 := Lib.hid (appendI_one (wr.alloc (.cells #[.bool true, .int .i64 n] 23)) (HR.out.kept ((Kept.refl _ _).alloc _)) (by have := HK.out.size; simp; omega) (by have := varsTo_len k x0 x1 x2 n0 n1 n2; omega) n)
        obtain ⟨v', w', r1, o1, g1⟩ := R1.out
        have RR : Hid ((Builtin.append_ #[54, 54] 54 #[u3, .slice (some ⟨wr.heap.size + 1, 0, none⟩) 1 1]).run Try.prog ((wr.alloc (.cells #[.bool true, .int .i64 n] 23)).alloc (.cells #[.int .i64 n] 3)) = .ok v' w') := Lib.hid (by simpa using r1)
        have O1 := Lib.hid o1
        have G1 := Lib.hid g1
        clear r1 o1 g1 R1
        go_wp2_with (at_builtin; refine wpList_append_run rfl (.tmp 12) (.tmp 15) 54 rfl _ _ rfl rfl RR.out ?_)
        go_roundw
        case rel => exact ⟨k + 1, by omega, by go_num, by rw [HM.out]; exact O1.out, ((HK.out.alloc _).alloc _).grown G1.out (fun i hi => .inr (HR.out.own i hi))⟩
        case measure => simp [intOf]; omega
    · obtain rfl : k = 3 := by omega
      obtain ⟨a, cap, hv⟩ := HR.out.shape
      obtain ⟨l, hl⟩ : ∃ l, l = varsTo 3 x0 x1 x2 n0 n1 n2 := ⟨_, rfl⟩
      have HL3 : Hid (l.length ≤ 3) := Lib.hid (by rw [hl]; exact varsTo_len _ _ _ _ _ _ _)
      have HVC : Hid (varsC x0 x1 x2 n0 n1 n2 = Lib.compact (l.mergeSort fun x y => decide (x ≤ y))) := Lib.hid (by rw [hl]; rfl)
      rw [← hl] at hv HR
      clear hl
      rcases Nat.eq_zero_or_pos l.length with h0 | hpos
      · rw [h0] at hv
        subst hv
        have e0 : l = [] := List.length_eq_zero_iff.1 h0
        have HN : Hid (varsC x0 x1 x2 n0 n1 n2 = []) := Lib.hid (by rw [HVC.out, e0, List.mergeSort_nil]; rfl)
        have CS : Hid (∀ W, Calls Try.prog 25 #[.slice a 0 cap] W fun e w' => e = .returned (.tuple #[]) ∧ w' = W) := Lib.hid fun W => AnyM.slices_Sort_int_none Try.sortI a cap W
        have CC : Hid (∀ W, Calls Try.prog 26 #[.slice a 0 cap] W fun e w' => e = .returned (.slice a 0 cap) ∧ w' = W) := Lib.hid fun W => Any.slices_Compact_int_empty Try.compactI a cap W
        clear h0 e0 HVC HL3 HR
        go_wp2_with fail
        refine (CS.out _).mono ?_
        rintro e w2 ⟨rfl, rfl⟩
        go_wp2_with fail
        refine (CC.out _).mono ?_
        rintro e w3 ⟨rfl, rfl⟩
        go_wp2_with fail
        go_ret
        unfold VarsEnd
        rw [HN.out]
        exact ⟨a, cap, rfl, HK.out, .inl rfl⟩
      · obtain ⟨g, rfl⟩ : ∃ g, a = some ⟨g, 0, none⟩ := by
          rcases HR.out.2 with ⟨e, e0⟩ | ⟨g, cap', cur, e, _⟩
          · omega
          · rw [hv] at e
            exact ⟨g, by cases e; rfl⟩
        subst hv
        obtain ⟨hH, hg, hB, hcap⟩ := HR.out.holds hpos
        have CS : Hid (Calls Try.prog 25 #[.slice (some ⟨g, 0, none⟩) l.length cap] wr fun e w' => e = .returned (.tuple #[]) ∧ ∃ n os, w' = Sort.grow (putRow (Value.int .i64) (Sort.ahead wr n) g 0 (l.mergeSort fun x y => decide (x ≤ y)).toArray) os) :=
          Lib.hid (AnyM.slices_Sort_int Try.sortI g 0 cap l wr hH hg (by have := HL3.out; omega))
        have hsz : (l.mergeSort fun x y => decide (x ≤ y)).length = l.length := List.length_mergeSort _
        have HH := Lib.hid hH
        have HSz := Lib.hid hsz
        have HG := Lib.hid hg
        have HB := Lib.hid hB
        have HCap := Lib.hid hcap
        clear hH hsz hg hB hcap hpos
        go_wp2_with fail
        refine CS.out.mono ?_
        rintro e w2 ⟨rfl, n, os, rfl⟩
        have KS := Lib.hid (kept_putRow wr g n (l.mergeSort fun x y => decide (x ≤ y)).toArray os)
        have H2 : Holds (Value.int .i64) (Sort.grow (putRow (Value.int .i64) (Sort.ahead wr n) g 0 (l.mergeSort fun x y => decide (x ≤ y)).toArray) os) g 0 (l.mergeSort fun x y => decide (x ≤ y)).toArray :=
          holds_grow _ _ _ _ _ _ (by simpa [putRow, mapBlock, Sort.ahead] using HG.out) (holds_putRow _ _ _ _ _ _ (holds_ahead _ _ _ _ _ _ HH.out) (by simp [HSz.out]))
        generalize Sort.grow (putRow (Value.int .i64) (Sort.ahead wr n) g 0 (l.mergeSort fun x y => decide (x ≤ y)).toArray) os = w2 at KS H2
        generalize (l.mergeSort fun x y => decide (x ≤ y)) = sl at H2 HSz HVC
        have CC := Any.slices_Compact_int Try.compactI g 0 cap sl w2 H2 (by rw [HSz.out]; have := HL3.out; omega) (by rw [HSz.out]; exact HCap.out)
        change Calls Try.prog 26 #[.slice (some ⟨g, 0, none⟩) sl.length cap] w2 _ at CC
        rw [HSz.out] at CC
        have HC := Lib.hid CC
        have HH2 := Lib.hid H2
        clear CC H2
        go_wp2_with fail
        refine HC.out.mono ?_
        rintro e w3 ⟨rfl, q, rfl⟩
        go_wp2_with fail
        go_ret
        unfold VarsEnd
        rw [HVC.out]
        have hle : (Lib.compact sl).length ≤ sl.length := by
          unfold Lib.compact Lib.compactUpTo
          rw [List.length_map]
          exact Nat.le_trans (List.length_filter_le _ _) (by simp)
        refine ⟨_, _, rfl, ?_, .inr ⟨g, rfl, fun i x hi => ?_⟩⟩
        · have kc := kept_putRow w2 g q (Lib.compact sl ++ List.replicate (l.length - (Lib.compact sl).length) 0).toArray #[]
          rw [Sort.grow_empty] at kc
          exact (HK.out.trans KS.out (fun i hi e => by have := HB.out; omega)).trans kc (fun i hi e => by have := HB.out; omega)
        · have hh := holds_putRow (Value.int .i64) (Sort.ahead w2 q) g 0 sl.toArray (Lib.compact sl ++ List.replicate (l.length - (Lib.compact sl).length) 0).toArray (holds_ahead _ _ _ _ _ _ HH2.out) (by simp; have := HSz.out; omega)
          have hil := (List.getElem?_eq_some_iff.1 hi).1
          have := (hh i (by simp; omega)).1
          rw [Nat.zero_add] at this
          rw [this]
          have e : (Lib.compact sl ++ List.replicate (l.length - (Lib.compact sl).length) 0).toArray[i]! = x := by
            rw [getElem!_pos _ i (by simp; omega)]
            have h2 : (Lib.compact sl ++ List.replicate (l.length - (Lib.compact sl).length) 0)[i]? = some x := by rw [List.getElem?_append_left hil]; exact hi
            simpa using (List.getElem?_eq_some_iff.1 h2).2
          rw [e]
end Go.Proofs.Ytkfijbinaidaiaa
