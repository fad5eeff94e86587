/- Layer term: the reference's Put. -/
import Derived.Test.YtkfijbinaidaiaaURefFit
import Derived.Test.YtkfijbinaidaiaaUPut
namespace Go.Proofs.Ytkfijbinaidaiaa
open Go.RowKit

structure PutR (w : World) (rc oc : Array Value) (B : Nat) (v : Value) (qs : List P2) (W : World) : Prop where
  kept : Kept Nil w W
  b0 : Blk W w.heap.size 28 rc
  b1 : Blk W (w.heap.size + 1) 34 z3
  b2 : Blk W (w.heap.size + 1 + 1) 34 oc
  row : PRow W B v qs
  far : ∀ k, v.ownBlock = some k → k < w.heap.size
theorem PutR.step {w : World} {rc oc : Array Value} {B : Nat} {v : Value} {qs : List P2} {W W' : World} (h : PutR w rc oc B v qs W) (k : Kept Nil W W') : PutR w rc oc B v qs W' :=
  ⟨h.kept.trans k (fun _ _ g => g), h.b0.kept k id, h.b1.kept k id, h.b2.kept k id, h.row.kept k, h.far⟩
theorem PutR.set_ {w : World} {rc oc : Array Value} {B : Nat} {v : Value} {qs : List P2} {W : World} (h : PutR w rc oc B v qs W) (i : Nat) (u : Value) : PutR w rc (oc.setIfInBounds i u) B v qs (W.setCell ⟨w.heap.size + 1 + 1, i, none⟩ u) :=
  ⟨h.kept.setCell _ (.inr (by show _ ≤ w.heap.size + 1 + 1; omega)) _, h.b0.far (by show _ ≠ w.heap.size + 1 + 1; omega) _, h.b1.far (by show _ ≠ w.heap.size + 1 + 1; omega) _, h.b2.set_ i u,
    Kept.row (F := fun k => k = w.heap.size + 1 + 1) (Kept.setCell (F := fun k => k = w.heap.size + 1 + 1) (Kept.refl _ W) ⟨w.heap.size + 1 + 1, i, none⟩ (Or.inl rfl) u) h.row (fun k hk e => by have := h.far k hk; omega), h.far⟩
theorem PutR.start {w : World} {B : Nat} {v : Value} {qs : List P2} (h : PRow w B v qs) (rc : Array Value) : PutR w rc z3 B v qs (((w.alloc (.cells rc 28)).alloc (.cells z3 34)).alloc (.cells z3 34)) := by
  have k : Kept Nil w (((w.alloc (.cells rc 28)).alloc (.cells z3 34)).alloc (.cells z3 34)) := (((Kept.refl Nil w).alloc _).alloc _).alloc _
  refine ⟨k, ((Blk.new w _ _).alloc _).alloc _, ?_, ?_, h.kept k, h.own_lt⟩
  · have := (Blk.new (w.alloc (.cells rc 28)) 34 z3).alloc (.cells z3 34)
    simpa using this
  · have := Blk.new ((w.alloc (.cells rc 28)).alloc (.cells z3 34)) 34 z3
    simpa using this
theorem termsR {x0 x1 x2 : Bool} {n0 n1 n2 : Int} (hf : fine x0 x1 x2 n0 n1 n2 = true) (g : Bd) {k : Nat} (hk : k < 3) : ∃ v n, (#[stand (x0, n0) g, stand (x1, n1) g, stand (x2, n2) g] : Array Int)[k]? = some (stand (v, n) g) ∧
    (refC x0 x1 x2 n0 n1 n2)[k * 2]? = some (.int .i64 (isV v)) ∧ (refC x0 x1 x2 n0 n1 n2)[k * 2 + 1]? = some (.int .i64 n) ∧ okTm v n = true := by
  unfold fine at hf
  simp only [Bool.and_eq_true] at hf
  have : k = 0 ∨ k = 1 ∨ k = 2 := by omega
  rcases this with rfl | rfl | rfl
  · exact ⟨x0, n0, rfl, rfl, rfl, hf.1.1⟩
  · exact ⟨x1, n1, rfl, rfl, rfl, hf.1.2⟩
  · exact ⟨x2, n2, rfl, rfl, rfl, hf.2⟩
theorem wpList_store_tri3W {ops : Array Oper} {rest : List Oper} {o : Oper} {a : Act} {w : World} {Q : Exit → Act → World → Prop} (hgd : o.guard = none) (x y : Operand) (ho : o.op = .store 34 x y)
    (g : Nat) (a0 a1 a2 : Int) (hx : a.eval x = .pointer (some ⟨g, 0, none⟩)) (hy : a.eval y = .agg #[.int .i64 a0, .int .i64 a1, .int .i64 a2]) (hg : Blk w g 34 z3)
    (h : ∀ W, Kept (fun k => k = g) w W → Blk W g 34 #[.int .i64 a0, .int .i64 a1, .int .i64 a2] → wpList Try.prog ops Q rest (a.put o.dst undef) W) : wpList Try.prog ops Q (o :: rest) a w :=
  wpList_store_rowW hgd _ x y ho g _ hx hy _ _ hg (by kernel_rfl) rfl (by simp [Value.oneCell']) h
theorem soFar_any {k : Nat} (hk : k < 3) (s0 s1 s2 n : Int) : ((soFar k s0 s1 s2).setIfInBounds k (.int .i64 n))[k]? = some (.int .i64 n) := by
  have : k = 0 ∨ k = 1 ∨ k = 2 := by omega
  rcases this with rfl | rfl | rfl <;> rfl
theorem soFar_two {k : Nat} (s0 s1 s2 n m : Int) : ((soFar k s0 s1 s2).setIfInBounds k (.int .i64 n)).setIfInBounds k (.int .i64 m) = (soFar k s0 s1 s2).setIfInBounds k (.int .i64 m) := by simp

set_option maxHeartbeats 2000000 in
theorem refPut_any {x0 x1 x2 : Bool} {n0 n1 n2 : Int} (hf : fine x0 x1 x2 n0 n1 n2 = true) {w : World} {B : Nat} {v : Value} {qs : List P2} {g : Bd} (h : PRow w B v qs) (hl : qs.length ≤ 60) (hr : Rep qs g) :
    Calls Try.prog 22 #[valR (isV x0) (isV x1) (isV x2) n0 n1 n2, v] w (PutEnd (stand (x0, n0) g) (stand (x1, n1) g) (stand (x2, n2) g) w) := by
  have S0 := Lib.hid (PutR.start h (refC x0 x1 x2 n0 n1 n2))
  have HL := Lib.hid hl
  have HRep := Lib.hid hr
  have IX := Lib.hid (fun (k : Nat) (hk : k < 3) => termsR hf g hk)
  clear h hl hr hf
  generalize stand (x0, n0) g = s0 at IX
  generalize stand (x1, n1) g = s1 at IX
  generalize stand (x2, n2) g = s2 at IX
  go_enter Try.func22, Try.ntmps22
  go_wp2_with fail
  go_loopw [7] (fun i wr => ∃ k : Nat, k ≤ 3 ∧ i = .int .i64 k ∧ noneZ k s0 s1 s2 ∧ PutR w (refC x0 x1 x2 n0 n1 n2) (soFar k s0 s1 s2) B v qs wr) (fun i _ => 3 - (intOf i).toNat)
  case atStart => exact ⟨0, by omega, rfl, fun i s hi => absurd hi (by omega), S0.out⟩
  case round =>
    obtain ⟨k, hk, rfl, hz, hF⟩ := hrel
    have HZ := Lib.hid hz
    have HF := Lib.hid hF
    clear hz hF S0
    by_cases hlt : k < 3
    · obtain ⟨vv, n, hget, hc0, hc1, hok⟩ := IX.out k hlt
      have HGet := Lib.hid hget
      have HO := Lib.hid hok
      have c0 : wr.cell? ⟨w.heap.size, k * 2, none⟩ = some (.int .i64 (isV vv)) := by rw [HF.out.b0.cell]; exact hc0
      have c1 : wr.cell? ⟨w.heap.size, k * 2 + 1, none⟩ = some (.int .i64 n) := by rw [HF.out.b0.cell]; exact hc1
      have c2 : wr.cell? ⟨w.heap.size + 1 + 1, k, none⟩ = some (.int .i64 0) := by rw [HF.out.b2.cell]; exact soFar_get hlt _ _ _
      have f2 := HF.out.b2.frozen k
      clear hget hc0 hc1
      cases vv
      · have hs := okTm_sym.1 hok
        replace c0 : wr.cell? ⟨w.heap.size, k * 2, none⟩ = some (.int .i64 0) := c0
        have e1 : (n == 0) = false := by simp; omega
        have hne : n ≠ 0 := by omega
        rw [stand_sym hok] at HGet
        have F2 := HF.out.set_ k (.int .i64 n)
        rw [soFar_set hlt HGet.out] at F2
        have F3 := Lib.hid F2
        have HE := Lib.hid hne
        clear hok hs F2 hne
        go_wp2_with fail
        go_roundw
        case rel => exact ⟨k + 1, by omega, by go_num, noneZ_succ HZ.out HGet.out HE.out, F3.out⟩
        case measure => simp [intOf]; omega
      · obtain ⟨l, u⟩ := okTm_var.1 hok
        obtain ⟨m, rfl⟩ : ∃ m : Nat, n = (m : Int) := ⟨n.toNat, by omega⟩
        have l' : 1 ≤ m := by omega
        have u' : m < 33 := by omega
        replace c0 : wr.cell? ⟨w.heap.size, k * 2, none⟩ = some (.int .i64 1) := c0
        rw [stand_var hok] at HGet
        clear l u hok
        have F1 := Lib.hid (HF.out.set_ k (.int .i64 (m : Int)))
        have CG : Hid (∀ W, PutR w (refC x0 x1 x2 n0 n1 n2) ((soFar k s0 s1 s2).setIfInBounds k (.int .i64 (m : Int))) B v qs W → Calls Try.prog 20 #[v, .int .i64 m] W fun e w' => e = .returned (.int .i64 (g m)) ∧ Kept Nil W w') := Lib.hid fun W hW => by
          have := get_any hW.row (by have := HL.out; omega) (m : Int)
          rw [HRep.out.2 m l' u'] at this
          exact this
        generalize g m = q at HGet CG
        go_wp2_with fail
        refine (CG.out _ F1.out).mono ?_
        rintro e w2 ⟨rfl, k2⟩
        have F2 := F1.out.step k2
        have d2 : w2.cell? ⟨w.heap.size + 1 + 1, k, none⟩ = some (.int .i64 (m : Int)) := by rw [F2.b2.cell]; exact soFar_any hlt _ _ _ _
        have g2 := F2.b2.frozen k
        have F3 := F2.set_ k (.int .i64 q)
        rw [soFar_two] at F3
        by_cases e0 : q = 0
        · subst e0
          have F4 := Lib.hid F3
          clear F2 F3 k2 c0 c1 c2 f2
          go_wp2_with ((with_reducible refine wpList_store_tri3W rfl _ _ rfl _ _ _ _ rfl rfl ?_ ?_)
                       · exact F4.out.b1
                       intro W kW bW
                       have KW := Lib.hid kW
                       have BW := Lib.hid bW
                       clear kW bW)
          exact bodyPost_ret (results_row Try.results22 _ W _ (.bool false) rfl rfl BW.out Try.underlying34 (by kernel_rfl)) rfl (putEnd_no (zero_any HGet.out) (F4.out.kept.trans KW.out (fun i hi e => by omega)))
        · rw [soFar_set hlt HGet.out] at F3
          have F4 := Lib.hid F3
          have HE := Lib.hid e0
          have e1 : (q == 0) = false := by simpa using e0
          clear F2 F3 k2 c0 c1 c2 f2 e0
          go_wp2_with fail
          go_roundw
          case rel => exact ⟨k + 1, by omega, by go_num, noneZ_succ HZ.out HGet.out HE.out, F4.out⟩
          case measure => simp [intOf]; omega
    · have hk3 : k = 3 := by omega
      subst hk3
      have c0 : wr.cell? ⟨w.heap.size + 1 + 1, 0, none⟩ = some (.int .i64 s0) := HF.out.b2.cell 0
      have c1 : wr.cell? ⟨w.heap.size + 1 + 1, 1, none⟩ = some (.int .i64 s1) := HF.out.b2.cell 1
      have c2 : wr.cell? ⟨w.heap.size + 1 + 1, 2, none⟩ = some (.int .i64 s2) := HF.out.b2.cell 2
      go_wp2_with ((with_reducible refine wpList_store_tri3W rfl _ _ rfl _ _ _ _ rfl rfl ?_ ?_)
                   · exact HF.out.b1
                   intro W kW bW
                   have KW := Lib.hid kW
                   have BW := Lib.hid bW
                   clear kW bW)
      exact bodyPost_ret (results_row Try.results22 _ W _ (.bool true) rfl rfl BW.out Try.underlying34 (by kernel_rfl)) rfl (putEnd_yes (noneZ_all HZ.out) (HF.out.kept.trans KW.out (fun i hi e => by omega)))
end Go.Proofs.Ytkfijbinaidaiaa
