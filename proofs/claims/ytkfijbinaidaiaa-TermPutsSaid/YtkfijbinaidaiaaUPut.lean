/- Layer term: the contract of Put. -/
import Derived.Test.YtkfijbinaidaiaaUFit
import Derived.Test.YtkfijbinaidaiaaURef
namespace Go.Proofs.Ytkfijbinaidaiaa
open Go.RowKit

/-- What is told of three numbers: they themselves, or zeros if one of them is 0. -/
def putT (s0 s1 s2 : Int) : Int × Int × Int := if s0 = 0 ∨ s1 = 0 ∨ s2 = 0 then (0, 0, 0) else (s0, s1, s2)
def putOk (s0 s1 s2 : Int) : Bool := !(decide (s0 = 0 ∨ s1 = 0 ∨ s2 = 0))
abbrev cells3 (t : Int × Int × Int) : Array Value := #[.int .i64 t.1, .int .i64 t.2.1, .int .i64 t.2.2]
theorem put_no {s0 s1 s2 : Int} (h : s0 = 0 ∨ s1 = 0 ∨ s2 = 0) : putT s0 s1 s2 = (0, 0, 0) ∧ putOk s0 s1 s2 = false := by unfold putT putOk; simp [h]
theorem put_yes {s0 s1 s2 : Int} (h : ¬ (s0 = 0 ∨ s1 = 0 ∨ s2 = 0)) : putT s0 s1 s2 = (s0, s1, s2) ∧ putOk s0 s1 s2 = true := by unfold putT putOk; rw [if_neg h]; simp [h]
def PutEnd (s0 s1 s2 : Int) (w : World) (e : Ending) (w' : World) : Prop := e = .returned (.tuple #[.agg (cells3 (putT s0 s1 s2)), .bool (putOk s0 s1 s2)]) ∧ Kept Nil w w'
theorem putEnd_no {s0 s1 s2 : Int} {w w' : World} (h : s0 = 0 ∨ s1 = 0 ∨ s2 = 0) (k : Kept Nil w w') : PutEnd s0 s1 s2 w (.returned (.tuple #[.agg #[.int .i64 0, .int .i64 0, .int .i64 0], .bool false])) w' := by
  unfold PutEnd; rw [(put_no h).1, (put_no h).2]; exact ⟨rfl, k⟩
theorem putEnd_yes {s0 s1 s2 : Int} {w w' : World} (h : ¬ (s0 = 0 ∨ s1 = 0 ∨ s2 = 0)) (k : Kept Nil w w') : PutEnd s0 s1 s2 w (.returned (.tuple #[.agg #[.int .i64 s0, .int .i64 s1, .int .i64 s2], .bool true])) w' := by
  unfold PutEnd; rw [(put_yes h).1, (put_yes h).2]; exact ⟨rfl, k⟩
/-- What is put so far. -/
def soFar (k : Nat) (s0 s1 s2 : Int) : Array Value := #[.int .i64 (if 0 < k then s0 else 0), .int .i64 (if 1 < k then s1 else 0), .int .i64 (if 2 < k then s2 else 0)]
abbrev z3 : Array Value := #[.int .i64 0, .int .i64 0, .int .i64 0]
theorem soFar_set {k : Nat} (hk : k < 3) {s0 s1 s2 s : Int} (h : (#[s0, s1, s2] : Array Int)[k]? = some s) : (soFar k s0 s1 s2).setIfInBounds k (.int .i64 s) = soFar (k + 1) s0 s1 s2 := by
  have : k = 0 ∨ k = 1 ∨ k = 2 := by omega
  rcases this with rfl | rfl | rfl <;> simp at h <;> subst h <;> rfl
theorem soFar_get {k : Nat} (hk : k < 3) (s0 s1 s2 : Int) : (soFar k s0 s1 s2)[k]? = some (.int .i64 0) := by
  have : k = 0 ∨ k = 1 ∨ k = 2 := by omega
  rcases this with rfl | rfl | rfl <;> rfl

structure PutW (w : World) (b : Bd) (tr : TypeId) (oc : Array Value) (W : World) : Prop where
  kept : Kept Nil w W
  b1 : Blk W (w.heap.size + 1) 37 (cellsB b)
  b2 : Blk W (w.heap.size + 1 + 1) tr z3
  b3 : Blk W (w.heap.size + 1 + 1 + 1) tr oc
theorem PutW.step {w : World} {b : Bd} {tr : TypeId} {oc : Array Value} {W W' : World} (h : PutW w b tr oc W) (k : Kept Nil W W') : PutW w b tr oc W' := ⟨h.kept.trans k (fun _ _ g => g), h.b1.kept k id, h.b2.kept k id, h.b3.kept k id⟩
theorem PutW.set_ {w : World} {b : Bd} {tr : TypeId} {oc : Array Value} {W : World} (h : PutW w b tr oc W) (i : Nat) (v : Value) : PutW w b tr (oc.setIfInBounds i v) (W.setCell ⟨w.heap.size + 1 + 1 + 1, i, none⟩ v) :=
  ⟨h.kept.setCell _ (.inr (by show _ ≤ w.heap.size + 1 + 1 + 1; omega)) _, h.b1.far (by show _ ≠ w.heap.size + 1 + 1 + 1; omega) _, h.b2.far (by show _ ≠ w.heap.size + 1 + 1 + 1; omega) _, h.b3.set_ i v⟩
theorem PutW.start (w : World) (lc : Array Value) (lt : TypeId) (b : Bd) (tr : TypeId) : PutW w b tr z3 ((((w.alloc (.cells lc lt)).alloc (.cells (cellsB b) 37)).alloc (.cells z3 tr)).alloc (.cells z3 tr)) := by
  refine ⟨((((Kept.refl Nil w).alloc _).alloc _).alloc _).alloc _, ?_, ?_, ?_⟩
  · have := ((Blk.new (w.alloc (.cells lc lt)) 37 (cellsB b)).alloc (.cells z3 tr)).alloc (.cells z3 tr)
    simpa using this
  · have := (Blk.new ((w.alloc (.cells lc lt)).alloc (.cells (cellsB b) 37)) tr z3).alloc (.cells z3 tr)
    simpa using this
  · have := Blk.new (((w.alloc (.cells lc lt)).alloc (.cells (cellsB b) 37)).alloc (.cells z3 tr)) tr z3
    simpa using this
theorem idxL (x0 x1 x2 : Bool) (n0 n1 n2 : Int) (b : Bd) {k : Nat} (hk : k < 3) : ∃ v n, (#[stand (x0, n0) b, stand (x1, n1) b, stand (x2, n2) b] : Array Int)[k]? = some (stand (v, n) b) ∧
    (∀ w, (Instr.index 30 (.agg #[.bool x0, .int .i64 n0, .bool x1, .int .i64 n1, .bool x2, .int .i64 n2]) (.int .i64 k)).run Try.prog w = .ok (.agg #[.bool v, .int .i64 n]) w) := by
  have : k = 0 ∨ k = 1 ∨ k = 2 := by omega
  rcases this with rfl | rfl | rfl
  · exact ⟨x0, n0, rfl, fun w => by kernel_rfl⟩
  · exact ⟨x1, n1, rfl, fun w => by kernel_rfl⟩
  · exact ⟨x2, n2, rfl, fun w => by kernel_rfl⟩
theorem zero_any {s0 s1 s2 : Int} {k : Nat} (h : (#[s0, s1, s2] : Array Int)[k]? = some 0) : s0 = 0 ∨ s1 = 0 ∨ s2 = 0 := by
  match k, h with
  | 0, h => exact .inl (by simpa using h)
  | 1, h => exact .inr (.inl (by simpa using h))
  | 2, h => exact .inr (.inr (by simpa using h))
  | k + 3, h => simp at h
/-- None of the first k is 0. -/
def noneZ (k : Nat) (s0 s1 s2 : Int) : Prop := ∀ i s, i < k → (#[s0, s1, s2] : Array Int)[i]? = some s → s ≠ 0
theorem noneZ_all {s0 s1 s2 : Int} (h : noneZ 3 s0 s1 s2) : ¬ (s0 = 0 ∨ s1 = 0 ∨ s2 = 0) := by
  have h0 := h 0 s0 (by decide) rfl
  have h1 := h 1 s1 (by decide) rfl
  have h2 := h 2 s2 (by decide) rfl
  omega
theorem noneZ_succ {k : Nat} {s0 s1 s2 s : Int} (h : noneZ k s0 s1 s2) (hk : (#[s0, s1, s2] : Array Int)[k]? = some s) (hs : s ≠ 0) : noneZ (k + 1) s0 s1 s2 := fun i u hi hu => by
  by_cases e : i = k
  · subst e
    rw [hk] at hu
    cases hu
    exact hs
  · exact h i u (by omega) hu
theorem results_row {fn : Func} {p q : Tmp} {ty t e : TypeId} {n : Nat} {cs : Array Value} (h : fn.results = #[.cell p ty, .tmp q]) (tmps : Array Value) (w : World) (g : Nat) (v : Value)
    (hp : tmps.getD p undef = .pointer (some ⟨g, 0, none⟩)) (hq : tmps.getD q undef = v) (hg : Blk w g t cs) (hu : Try.prog.underlying ty = some (.array n e)) (hi : (Try.prog.info? ty).map (·.size) = some cs.size) :
    (results fn tmps).run Try.prog w = .ok (.tuple #[.agg cs, v]) w := by
  have hp' : tmps[p]?.getD undef = .pointer (some ⟨g, 0, none⟩) := by simpa using hp
  have hq' : tmps[q]?.getD undef = v := by simpa using hq
  have hr := run_loadVar_row (P := Try.prog) w g _ _ _ _ _ hg hu rfl hi
  simp [results, h, hp', hq', asAddr, hr]

theorem wpList_store_triW {ops : Array Oper} {rest : List Oper} {o : Oper} {a : Act} {w : World} {Q : Exit → Act → World → Prop} (hgd : o.guard = none) (x y : Operand) (ho : o.op = .store 35 x y)
    (g : Nat) (a0 a1 a2 : Int) (hx : a.eval x = .pointer (some ⟨g, 0, none⟩)) (hy : a.eval y = .agg #[.int .i64 a0, .int .i64 a1, .int .i64 a2]) (hg : Blk w g 35 z3)
    (h : ∀ W, Kept (fun k => k = g) w W → Blk W g 35 #[.int .i64 a0, .int .i64 a1, .int .i64 a2] → wpList Try.prog ops Q rest (a.put o.dst undef) W) : wpList Try.prog ops Q (o :: rest) a w :=
  wpList_store_rowW hgd _ x y ho g _ hx hy _ _ hg (by kernel_rfl) rfl (by simp [Value.oneCell']) h

set_option maxHeartbeats 2000000 in
theorem put_any (x0 x1 x2 : Bool) (n0 n1 n2 : Int) (b : Bd) (w : World) :
    Calls Try.prog 21 #[.agg #[.bool x0, .int .i64 n0, .bool x1, .int .i64 n1, .bool x2, .int .i64 n2], .agg (cellsB b)] w (PutEnd (stand (x0, n0) b) (stand (x1, n1) b) (stand (x2, n2) b) w) := by
  have S0 := Lib.hid (PutW.start w #[.bool x0, .int .i64 n0, .bool x1, .int .i64 n1, .bool x2, .int .i64 n2] 30 b 35)
  have IX := Lib.hid (fun (k : Nat) (hk : k < 3) => idxL x0 x1 x2 n0 n1 n2 b hk)
  generalize stand (x0, n0) b = s0 at IX
  generalize stand (x1, n1) b = s1 at IX
  generalize stand (x2, n2) b = s2 at IX
  go_enter Try.func21, Try.ntmps21
  go_wp2_with fail
  go_loopw [10] (fun i wr => ∃ k : Nat, k ≤ 3 ∧ i = .int .i64 k ∧ noneZ k s0 s1 s2 ∧ PutW w b 35 (soFar k s0 s1 s2) wr) (fun i _ => 3 - (intOf i).toNat)
  case atStart => exact ⟨0, by omega, rfl, fun i s hi => absurd hi (by omega), S0.out⟩
  case round =>
    obtain ⟨k, hk, rfl, hz, hF⟩ := hrel
    have HZ := Lib.hid hz
    have HF := Lib.hid hF
    clear hz hF S0
    by_cases hlt : k < 3
    · obtain ⟨v, n, hget, hidx⟩ := IX.out k hlt
      have HS := Lib.hid (fun W => stands_any v n b W)
      have HGet := Lib.hid hget
      clear hget
      generalize hs : stand (v, n) b = s at HS HGet
      clear hs
      by_cases e0 : s = 0
      · subst e0
        go_wp2_with ((with_reducible refine wpList_load_bind rfl (.tmp 3) rfl _ rfl b ?_ ?_)
                     · exact HF.out.b1.alloc _)
        refine (HS.out _).mono ?_
        rintro e w1 ⟨rfl, k1⟩
        have F1 := HF.out.step (((Kept.refl Nil wr).alloc (.cells #[.bool v, .int .i64 n] 23)).trans k1 (fun _ _ g => g))
        have c3 := F1.b3.cell k
        rw [soFar_get hlt] at c3
        have f3 := F1.b3.frozen k
        have hl3 := F1.b3.lt
        have F2 := Lib.hid (F1.set_ k (.int .i64 0))
        clear F1 k1
        go_wp2_with ((with_reducible refine wpList_store_triW rfl _ _ rfl _ _ _ _ rfl rfl ?_ ?_)
                     · exact F2.out.b2
                     intro W kW bW
                     have KW := Lib.hid kW
                     have BW := Lib.hid bW
                     clear kW bW)
        exact bodyPost_ret (results_row Try.results21 _ W _ (.bool false) rfl rfl BW.out Try.underlying35 (by kernel_rfl)) rfl (putEnd_no (zero_any HGet.out) (F2.out.kept.trans KW.out (fun i hi e => by omega)))
      · go_wp2_with ((with_reducible refine wpList_load_bind rfl (.tmp 3) rfl _ rfl b ?_ ?_)
                     · exact HF.out.b1.alloc _)
        refine (HS.out _).mono ?_
        rintro e w1 ⟨rfl, k1⟩
        have F1 := HF.out.step (((Kept.refl Nil wr).alloc (.cells #[.bool v, .int .i64 n] 23)).trans k1 (fun _ _ g => g))
        have c3 := F1.b3.cell k
        rw [soFar_get hlt] at c3
        have f3 := F1.b3.frozen k
        have hl3 := F1.b3.lt
        have F2 := F1.set_ k (.int .i64 s)
        rw [soFar_set hlt HGet.out] at F2
        have F3 := Lib.hid F2
        have HE := Lib.hid e0
        have e1 : (s == 0) = false := by simpa using e0
        clear F1 k1 F2 e0
        go_wp2_with fail
        go_roundw
        case rel => exact ⟨k + 1, by omega, by go_num, noneZ_succ HZ.out HGet.out HE.out, F3.out⟩
        case measure => simp [intOf]; omega
    · have hk3 : k = 3 := by omega
      subst hk3
      have c0 : wr.cell? ⟨w.heap.size + 1 + 1 + 1, 0, none⟩ = some (.int .i64 s0) := HF.out.b3.cell 0
      have c1 : wr.cell? ⟨w.heap.size + 1 + 1 + 1, 1, none⟩ = some (.int .i64 s1) := HF.out.b3.cell 1
      have c2 : wr.cell? ⟨w.heap.size + 1 + 1 + 1, 2, none⟩ = some (.int .i64 s2) := HF.out.b3.cell 2
      go_wp2_with ((with_reducible refine wpList_store_triW rfl _ _ rfl _ _ _ _ rfl rfl ?_ ?_)
                   · exact HF.out.b2
                   intro W kW bW
                   have KW := Lib.hid kW
                   have BW := Lib.hid bW
                   clear kW bW)
      exact bodyPost_ret (results_row Try.results21 _ W _ (.bool true) rfl rfl BW.out Try.underlying35 (by kernel_rfl)) rfl (putEnd_yes (noneZ_all HZ.out) (HF.out.kept.trans KW.out (fun i hi e => by omega)))
end Go.Proofs.Ytkfijbinaidaiaa
