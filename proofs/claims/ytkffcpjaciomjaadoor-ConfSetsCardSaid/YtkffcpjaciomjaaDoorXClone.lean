/- Contracts of slices.Clone (ints; matches) and Copy. -/
import Derived.Test.YtkffcpjaciomjaaDoorXMem
import Derived.Test.YtkffcpjaciomjaaDoorClone
import Derived.Laws.OwnMore
import Derived.Lib.SliceRun
import Derived.StillTailTactics
import Derived.Deep.RegionLaw
import Derived.Deep.CutBlock
import Derived.Deep.DeepCutAuto
namespace Go.Proofs.YtkffcpjaciomjaaDoor
open Go.RowKit Go.Shelf Go.Sort
set_option maxRecDepth 100000

theorem Tryd.infoI : (Tryd.prog.info? 3).map (fun i => (i.zero, i.size, i.bytes)) = some (some (.int .i64 0), 1, 8) := by kernel_rfl
theorem elsI : Els Tryd.prog 35 3 1 := Els.of Tryd.underlying35 Tryd.infoI rfl (by decide) (by decide)
theorem Tryd.infoMt : (Tryd.prog.info? 37).map (fun i => (i.zero, i.size, i.bytes)) = some (some (.agg #[.string .empty, .slice none 0 0]), 2, 40) := by kernel_rfl
theorem elsM : Els Tryd.prog 22 37 2 := Els.of Tryd.underlying22 Tryd.infoMt rfl (by decide) (by decide)
/-- A row's capacity. -/
theorem Row.cap {α : Type} {cells : α → List Value} {e : TypeId} {size : Nat} {w : World} {B : Nat} {a : Option Addr} {n c : Nat} {l : List α} (h : Row cells e size w B (.slice a n c) l) : n ≤ c := by
  rcases h.2 with ⟨e1, e0⟩ | ⟨g, cap, cur, e1, _, _, hc, _⟩
  · cases e1; exact Nat.le_refl _
  · cases e1; exact hc
theorem Row.addr {α : Type} {cells : α → List Value} {e : TypeId} {size : Nat} {w : World} {B : Nat} {a : Option Addr} {n c : Nat} {l : List α} (h : Row cells e size w B (.slice a n c) l) : (a = none ∧ l = []) ∨ ∃ g, a = some ⟨g, 0, none⟩ ∧ B ≤ g ∧ g < w.heap.size := by
  rcases h.2 with ⟨e1, e0⟩ | ⟨g, cap, cur, e1, hb, hg, _⟩
  · cases e1; exact .inl ⟨rfl, List.length_eq_zero_iff.1 e0⟩
  · cases e1; exact .inr ⟨g, rfl, hb, (Array.getElem?_eq_some_iff.1 hg).1⟩

theorem cloneI_any {w : World} {a : Option Addr} {n c : Nat} {l : List Int} (h : In cN 1 w a n l) (hn : n ≤ 1000) :
    Calls Tryd.prog 46 #[.slice a n c] w fun e w' => ∃ a' c', e = .returned (.slice a' n c') ∧ Row cN 3 1 w' w.heap.size (.slice a' n c') l ∧ Kept Nil w w' := by
  cases a with
  | none =>
    have hl : l = [] ∧ n = 0 := by
      rcases h.2 with e | ⟨b, off, e, _⟩
      · exact ⟨List.length_eq_zero_iff.1 (h.1.trans e), e⟩
      · cases e
    obtain ⟨rfl, rfl⟩ := hl
    have q22 : ∀ (w : World) (a : Option Addr) (n c n' c' : Nat), (binOp .eql 35 (.slice a n c) (.slice none n' c')).run Tryd.prog w = .ok (.bool a.isNone) w := fun w a n c n' c' => Lib.run_eql_slice_nil w _ _ a n c n' c' Tryd.underlying35
    go_enter Tryd.func46, Tryd.ntmps46
    go_wp2_with fail
    go_ret
    exact ⟨_, _, rfl, Row.nil _ _, Kept.refl _ _⟩
  | some ad =>
    have o0 : (w.alloc (.cells #[] 3)).ownsRow w.heap.size 3 1 (.slice (some ⟨w.heap.size, 0, none⟩) 0 0) 0 [] := World.ownsRow_made w #[] 0 (Nat.le_refl _) (Nat.zero_le _) (by simp)
    obtain ⟨v', w', r, o, k, _⟩ := append_any elsI 35 o0 ((h.kept ((Kept.refl Nil w).alloc _)).toAt (cap := c) cN_len (by decide)) (by rw [flat_len cN_len, h.1]) (flatN_one l) (by omega) (by simp)
    have hr : Row cN 3 1 w' w.heap.size v' l := by
      have hl := h.1
      subst hl
      simpa [Row] using o
    obtain ⟨a', c', e⟩ := hr.shape
    rw [h.1] at e
    have R := Lib.hid r
    have HR := Lib.hid hr
    have K := Lib.hid (((Kept.refl Nil w).alloc (.cells #[] 3)).trans k (fun i hi e => by simp [Value.ownBlock] at e; omega))
    clear r o k hr h
    have q22 : ∀ (w : World) (a : Option Addr) (n c n' c' : Nat), (binOp .eql 35 (.slice a n c) (.slice none n' c')).run Tryd.prog w = .ok (.bool a.isNone) w := fun w a n c n' c' => Lib.run_eql_slice_nil w _ _ a n c n' c' Tryd.underlying35
    go_enter Tryd.func46, Tryd.ntmps46
    go_wp2_with (at_builtin; refine wpList_append_run rfl (.tmp 5) (.tmp 6) 35 rfl _ _ rfl rfl R.out ?_)
    go_ret
    exact ⟨a', c', rfl, by rw [← e]; exact HR.out, K.out⟩
theorem flatM_one (l : List MC) : ∀ u ∈ l.flatMap cM, u.oneCell' = true := by
  intro u hu
  obtain ⟨x, _, hx⟩ := List.mem_flatMap.1 hu
  exact cM_one x u hx
theorem cloneM_any {w : World} {a : Option Addr} {n c : Nat} {l : List MC} (h : In cM 2 w a n l) (hn : n ≤ 5000) :
    Calls Tryd.prog 45 #[.slice a n c] w fun e w' => ∃ a' c', e = .returned (.slice a' n c') ∧ Row cM 37 2 w' w.heap.size (.slice a' n c') l ∧ Kept Nil w w' := by
  cases a with
  | none =>
    have hl : l = [] ∧ n = 0 := by
      rcases h.2 with e | ⟨b, off, e, _⟩
      · exact ⟨List.length_eq_zero_iff.1 (h.1.trans e), e⟩
      · cases e
    obtain ⟨rfl, rfl⟩ := hl
    have q22 : ∀ (w : World) (a : Option Addr) (n c n' c' : Nat), (binOp .eql 22 (.slice a n c) (.slice none n' c')).run Tryd.prog w = .ok (.bool a.isNone) w := fun w a n c n' c' => Lib.run_eql_slice_nil w _ _ a n c n' c' Tryd.underlying22
    go_enter Tryd.func45, Tryd.ntmps45
    go_wp2_with fail
    go_ret
    exact ⟨_, _, rfl, Row.nil _ _, Kept.refl _ _⟩
  | some ad =>
    have o0 : (w.alloc (.cells #[] 37)).ownsRow w.heap.size 37 2 (.slice (some ⟨w.heap.size, 0, none⟩) 0 0) 0 [] := World.ownsRow_made w #[] 0 (Nat.le_refl _) (Nat.zero_le _) (by simp)
    obtain ⟨v', w', r, o, k, _⟩ := append_any elsM 22 o0 ((h.kept ((Kept.refl Nil w).alloc _)).toAt (cap := c) cM_len (by decide)) (by rw [flat_len cM_len, h.1]) (flatM_one l) (by omega) (by simp)
    have hr : Row cM 37 2 w' w.heap.size v' l := by
      have hl := h.1
      subst hl
      simpa [Row] using o
    obtain ⟨a', c', e⟩ := hr.shape
    rw [h.1] at e
    have R := Lib.hid r
    have HR := Lib.hid hr
    have K := Lib.hid (((Kept.refl Nil w).alloc (.cells #[] 37)).trans k (fun i hi e => by simp [Value.ownBlock] at e; omega))
    clear r o k hr h
    have q22 : ∀ (w : World) (a : Option Addr) (n c n' c' : Nat), (binOp .eql 22 (.slice a n c) (.slice none n' c')).run Tryd.prog w = .ok (.bool a.isNone) w := fun w a n c n' c' => Lib.run_eql_slice_nil w _ _ a n c n' c' Tryd.underlying22
    go_enter Tryd.func45, Tryd.ntmps45
    go_wp2_with (at_builtin; refine wpList_append_run rfl (.tmp 5) (.tmp 6) 22 rfl _ _ rfl rfl R.out ?_)
    go_ret
    exact ⟨a', c', rfl, by rw [← e]; exact HR.out, K.out⟩

/-! ### A match stored in a row -/
theorem flat_set (u : Value) (v : Value) : ∀ (l : List MC) (j : Nat) (m : MC), j < l.length → cM m = [u, v] → ((l.flatMap cM).set (j * 2) u).set (j * 2 + 1) v = (l.set j m).flatMap cM
  | [], j, m, h, _ => absurd h (Nat.not_lt_zero _)
  | x :: r, 0, m, _, hm => by
    show _ = (m :: r).flatMap cM
    rw [List.flatMap_cons, List.flatMap_cons, hm]; rfl
  | x :: r, j + 1, m, h, hm => by
    show _ = (x :: r.set j m).flatMap cM
    rw [List.flatMap_cons, List.flatMap_cons, ← flat_set u v r j m (by simpa using h) hm, show (j + 1) * 2 = j * 2 + 2 by omega]
    rfl
theorem Row.put {w : World} {B g n c : Nat} {l : List MC} {e : TypeId} (h : Row cM e 2 w B (.slice (some ⟨g, 0, none⟩) n c) l) {j : Nat} (hj : j < l.length) (m : MC) {u v : Value} (hm : cM m = [u, v]) :
    Row cM e 2 ((w.setCell ⟨g, j * 2, none⟩ u).setCell ⟨g, j * 2 + 1, none⟩ v) B (.slice (some ⟨g, 0, none⟩) n c) (l.set j m) ∧ Kept (fun k => k = g) w ((w.setCell ⟨g, j * 2, none⟩ u).setCell ⟨g, j * 2 + 1, none⟩ v) := by
  obtain ⟨a', c', e'⟩ := h.shape
  have hn : n = l.length := by injection e'
  subst hn
  obtain ⟨h1, g1⟩ := World.ownsRow.stored h (j * 2) u
  obtain ⟨h2, g2⟩ := World.ownsRow.stored h1 (j * 2 + 1) v
  refine ⟨?_, Kept.setCell (F := fun k => k = g) (Kept.setCell (F := fun k => k = g) (Kept.refl _ w) ⟨g, j * 2, none⟩ (.inl rfl) u) ⟨g, j * 2 + 1, none⟩ (.inl rfl) v⟩
  rw [flat_set u v l j m hj hm] at h2
  unfold Row
  rw [List.length_set]
  exact h2
theorem Row.at_ {w : World} {B g n c : Nat} {l : List MC} {e : TypeId} (h : Row cM e 2 w B (.slice (some ⟨g, 0, none⟩) n c) l) {j : Nat} {m : MC} (hj : l[j]? = some m) :
    w.cell? ⟨g, j * 2, none⟩ = some (.string m.r) ∧ w.cell? ⟨g, j * 2 + 1, none⟩ = some (.slice m.a m.n m.c) ∧ w.frozen? ⟨g, j * 2, none⟩ = false ∧ w.frozen? ⟨g, j * 2 + 1, none⟩ = false := by
  obtain ⟨b, off, e1, _, hc⟩ := (h.toIn cM_len (by decide)).at_ hj
  cases e1
  have q0 := hc 0 _ rfl
  have q1 := hc 1 _ rfl
  rw [Nat.zero_add] at q0 q1
  obtain ⟨cur, hb⟩ := h.block (k := g) rfl
  exact ⟨q0, q1, by simp [World.frozen?, hb], by simp [World.frozen?, hb]⟩

/-- What lay there stays, where only what is new is turned. -/
theorem In.keptLow {α : Type} {cells : α → List Value} {size : Nat} {w w1 w' : World} {a : Option Addr} {len : Nat} {xs : List α} {F : Nat → Prop} (h : In cells size w a len xs) (k1 : Kept Nil w w1) (hk : Kept F w1 w') (hF : ∀ b, F b → w.heap.size ≤ b) : In cells size w' a len xs :=
  ⟨h.1, h.2.imp id fun ⟨b, off, e, hb, hc⟩ => ⟨b, off, e, Nat.lt_of_lt_of_le hb (Nat.le_trans k1.size hk.size), fun j x i v hj hi =>
    (hk.cell (p := ⟨b, off + j * size + i, none⟩) (Nat.lt_of_lt_of_le hb k1.size) (fun e => Nat.lt_irrefl _ (Nat.lt_of_lt_of_le hb (hF b e)))).trans ((k1.cell (p := ⟨b, off + j * size + i, none⟩) hb (fun e => e)).trans (hc j x i v hj hi))⟩⟩
/-- A match whose ids lie in new memory of their own. -/
def Fresh (w w' : World) (m m' : MC) : Prop := m'.r = m.r ∧ m'.ids = m.ids ∧ m'.n = m.n ∧ Row cN 3 1 w' w.heap.size (.slice m'.a m'.n m'.c) m'.ids
theorem Fresh.kept {w w' w'' : World} {m m' : MC} (h : Fresh w w' m m') (k : Kept Nil w' w'') : Fresh w w'' m m' := ⟨h.1, h.2.1, h.2.2.1, h.2.2.2.keptN k⟩
/-- Two lists one by one. -/
def Each {α β : Type} (R : α → β → Prop) (l : List α) (l' : List β) : Prop := l.length = l'.length ∧ ∀ (i : Nat) x y, l[i]? = some x → l'[i]? = some y → R x y

set_option maxHeartbeats 4000000 in
theorem copy_any {w : World} {a : Option Addr} {n c : Nat} {l : List MC} (h : In cM 2 w a n l) (hok : ∀ m ∈ l, Mok w m) (hn : n ≤ 5000) :
    Calls Tryd.prog 25 #[.slice a n c] w fun e w' => ∃ a' c' l', e = .returned (.slice a' n c') ∧ Row cM 37 2 w' w.heap.size (.slice a' n c') l' ∧ Each (Fresh w w') l l' ∧ (∀ m' ∈ l', m'.a.map (·.block) ≠ a'.map (·.block) ∨ m'.a = none) ∧ Kept Nil w w' := by
  have HO := Lib.hid hok
  have CC := Lib.hid (cloneM_any (c := c) h hn)
  have hl := h.1
  have HL := Lib.hid hl
  clear h hok hl
  go_enter Tryd.func25, Tryd.ntmps25
  go_wp2_with fail
  refine CC.out.mono ?_
  rintro e w1 ⟨a', c', rfl, hr, hk⟩
  clear CC
  have HK := Lib.hid hk
  rcases hr.addr with ⟨rfl, rfl⟩ | ⟨g, rfl, hBg, hg⟩
  · have hn0 : n = 0 := HL.out.symm
    subst hn0
    go_wp2_with fail
    go_loopw [4, 5, 10] (fun _ _ i wr => i = .int .i64 0 ∧ wr = w1) (fun _ _ _ _ => 0)
    case atStart => exact ⟨rfl, rfl⟩
    case round =>
      obtain ⟨rfl, rfl⟩ := hrel
      go_wp2_with fail
      go_ret
      exact ⟨none, _, [], rfl, hr, ⟨rfl, fun i x y hx _ => by cases hx⟩, fun m hm => (by cases hm), HK.out⟩
  · have HR := Lib.hid hr
    clear hr
    go_wp2_with fail
    go_loopw [4, 5, 10] (fun _ _ i wr => ∃ (j : Nat) (l2 : List MC), j ≤ n ∧ i = .int .i64 j ∧ l2.length = j ∧ Row cM 37 2 wr w.heap.size (.slice (some ⟨g, 0, none⟩) n c') (l2 ++ l.drop j) ∧ (∀ (i : Nat) x y, l[i]? = some x → l2[i]? = some y → Fresh w wr x y ∧ ∀ b, y.a = some b → g < b.block) ∧ Kept (fun k => k = g) w1 wr) (fun _ _ i _ => n - (intOf i).toNat)
    case atStart => exact ⟨0, [], Nat.zero_le _, rfl, rfl, HR.out, fun i x y _ h => (by cases h), Kept.refl _ _⟩
    case round =>
      obtain ⟨j, l2, hj, rfl, hl2, hrow, hfr, hk2⟩ := hrel
      have HROW := Lib.hid hrow
      have HFR := Lib.hid hfr
      have HK2 := Lib.hid hk2
      have HL2 := Lib.hid hl2
      clear hrow hfr hk2 hl2
      by_cases hlt : j < n
      · obtain ⟨m, hm⟩ : ∃ m, l[j]? = some m := ⟨_, List.getElem?_eq_getElem (by have := HL.out; omega)⟩
        have hd : (l2 ++ l.drop j)[j]? = some m := by rw [List.getElem?_append_right (by rw [HL2.out]; exact Nat.le_refl _), HL2.out, Nat.sub_self, List.getElem?_drop]; exact hm
        obtain ⟨q0, q1, q2, q3⟩ := HROW.out.at_ hd
        have hmok := HO.out m (List.mem_of_getElem? hm)
        obtain ⟨r, ids, mn, ma, mc⟩ := m
        have HW0 : Hid (Kept (fun k => k = g) w1 (wr.alloc (.cells #[.string r, .slice ma mn mc] 37))) := Lib.hid (HK2.out.alloc _)
        have HS : Hid (∀ W, Kept Nil (wr.alloc (.cells #[.string r, .slice ma mn mc] 37)) W → W.cell? ⟨wr.heap.size, 0, none⟩ = some (.string r) ∧ W.cell? ⟨wr.heap.size, 1, none⟩ = some (.slice ma mn mc) ∧ W.cell? ⟨g, j * 2, none⟩ = some (.string r) ∧ W.cell? ⟨g, j * 2 + 1, none⟩ = some (.slice ma mn mc) ∧ W.frozen? ⟨g, j * 2, none⟩ = false ∧ W.frozen? ⟨g, j * 2 + 1, none⟩ = false) := Lib.hid fun W kW => by
          have hb := (Blk.new wr 37 #[.string r, .slice ma mn mc]).kept kW (fun e => e)
          obtain ⟨p0, p1, p2, p3⟩ := (HROW.out.keptN (((Kept.refl Nil wr).alloc _).trans kW (fun _ _ e => e))).at_ hd
          exact ⟨hb.cell 0, hb.cell 1, p0, p1, p2, p3⟩
        have CS : Hid (∀ W, Calls Tryd.prog 41 #[.string r] W fun e w' => e = .returned (.string r) ∧ Kept Nil W w') := Lib.hid fun W => clone_any r W (by have := hmok.small; simp only at this; omega)
        have CI : Hid (∀ W, Kept Nil (wr.alloc (.cells #[.string r, .slice ma mn mc] 37)) W → Calls Tryd.prog 46 #[.slice ma mn mc] W fun e w' => ∃ a' c', e = .returned (.slice a' mn c') ∧ Row cN 3 1 w' W.heap.size (.slice a' mn c') ids ∧ Kept Nil W w') := Lib.hid fun W kW => by
          exact cloneI_any (hmok.ids.keptLow HK.out (HW0.out.trans kW (fun _ _ e => e.elim)) (fun b e => by rw [e]; exact hBg)) hmok.few
        have HD := Lib.hid hd
        have HM := Lib.hid hm
        clear hmok hd hm
        simp only at q0 q1
        have ⟨y0, y1, y2, y3, y4, y5⟩ := HS.out _ (Kept.refl Nil _)
        have KZ := Lib.hid ((Kept.refl Nil (wr.alloc (.cells #[.string r, .slice ma mn mc] 37))).drew)
        go_wp2_with fail
        go_region_law (first
            | (go_simp; go_at_call 41; (with_reducible refine (CS.out _).mono ?_); rintro e W2 ⟨rfl, k2⟩; have ⟨z0, z1, z2, z3, z4, z5⟩ := HS.out _ (KZ.out.trans k2 (fun _ _ e => e)))
            | (go_simp; go_at_call 46; (with_reducible refine (CI.out _ (KZ.out.trans k2 (fun _ _ e => e))).mono ?_); rintro e W3 ⟨a3, c3, rfl, r3, k3⟩; have ⟨z10, z11, z12, z13, z14, z15⟩ := HS.out _ ((KZ.out.trans k2 (fun _ _ e => e)).trans k3 (fun _ _ e => e))))
        all_goals
          have K23 := Lib.hid ((KZ.out.trans k2 (fun _ _ e => e)).trans k3 (fun _ _ e => e))
          have KX := Lib.hid (((Kept.refl Nil wr).alloc (.cells #[.string r, .slice ma mn mc] 37)).trans K23.out (fun _ _ e => e))
          have hjl : j < (l2 ++ l.drop j).length := (List.getElem?_eq_some_iff.1 HD.out).1
          obtain ⟨hrow3, hk3⟩ := (HROW.out.keptN KX.out).put hjl ⟨r, ids, mn, a3, c3⟩ rfl
          have hset : (l2 ++ l.drop j).set j ⟨r, ids, mn, a3, c3⟩ = (l2 ++ [⟨r, ids, mn, a3, c3⟩]) ++ l.drop (j + 1) := by
            rw [List.set_append_right _ _ (by rw [HL2.out]; exact Nat.le_refl _), HL2.out, Nat.sub_self, List.append_assoc]
            congr 1
            rw [List.drop_eq_getElem_cons (by have := HL.out; omega)]; rfl
          rw [hset] at hrow3
          have HROW3 := Lib.hid hrow3
          have hgs : g < wr.heap.size := (HROW.out.lt g rfl).2
          have hWs := KX.out.size
          have hW2s : wr.heap.size ≤ W2.heap.size := (((Kept.refl Nil wr).alloc (.cells #[.string r, .slice ma mn mc] 37)).trans (KZ.out.trans k2 (fun _ _ e => e)) (fun _ _ e => e)).size
          have HFR3 : Hid (∀ (i : Nat) x y, l[i]? = some x → (l2 ++ [⟨r, ids, mn, a3, c3⟩])[i]? = some y → Fresh w ((W3.setCell ⟨g, j * 2, none⟩ (.string r)).setCell ⟨g, j * 2 + 1, none⟩ (.slice a3 mn c3)) x y ∧ ∀ b, y.a = some b → g < b.block) := Lib.hid fun i x y hx hy => by
            by_cases hij : i < l2.length
            · rw [List.getElem?_append_left hij] at hy
              obtain ⟨⟨f1, f2, f3, f4⟩, f5⟩ := HFR.out i x y hx hy
              refine ⟨⟨f1, f2, f3, (f4.keptN KX.out).keptF hk3 (fun b hb e => ?_)⟩, f5⟩
              rcases f4.addr with ⟨e2, _⟩ | ⟨q, e2, _⟩
              · rw [e2] at hb; cases hb
              · have hgq : g < q := f5 _ e2
                rw [e2] at hb
                cases hb
                have e' : q = g := e
                omega
            · have hi2 : i = l2.length := by
                have := (List.getElem?_eq_some_iff.1 hy).1
                simp at this; omega
              subst hi2
              rw [List.getElem?_concat_length] at hy
              cases hy
              rw [HL2.out, HM.out] at hx
              cases hx
              have haddr := r3.addr
              refine ⟨⟨rfl, rfl, rfl, (r3.down (by have := HK2.out.size; have := HK.out.size; omega)).keptF hk3 (fun b hb e => ?_)⟩, fun b hb => ?_⟩
              · rcases haddr with ⟨e2, _⟩ | ⟨q, e2, hq, _⟩
                · rw [e2] at hb; cases hb
                · rw [e2] at hb; cases hb; have e' : q = g := e; omega
              · rcases haddr with ⟨e2, _⟩ | ⟨q, e2, hq, _⟩
                · simp only at hb; rw [e2] at hb; cases hb
                · simp only at hb; rw [e2] at hb; cases hb; show g < q; omega
          have HK3 := Lib.hid ((HK2.out.trans KX.out (fun _ _ e => e.elim)).trans hk3 (fun _ _ e => e))
          clear hrow3 hk3 hset k2 k3 r3 z0 z1 z2 z3 z4 z5 z10 z11 z12 z13 z14 z15 y0 y1 y2 y3 y4 y5 q0 q1 q2 q3 CS CI HS
          go_wp2_with fail
          go_roundw
          case rel => exact ⟨j + 1, _, hlt, by go_num, by rw [List.length_append, HL2.out]; rfl, HROW3.out, HFR3.out, HK3.out⟩
          case measure => simp [intOf]; omega
      · have e : j = n := by omega
        subst e
        have hd : l.drop j = [] := List.drop_eq_nil_of_le (by rw [HL.out]; exact Nat.le_refl _)
        have hrow := HROW.out
        rw [hd, List.append_nil] at hrow
        have HROW' := Lib.hid hrow
        clear hrow hd
        go_wp2_with fail
        go_ret
        refine ⟨some ⟨g, 0, none⟩, c', l2, rfl, HROW'.out, ⟨HL.out.trans HL2.out.symm, fun i x y hx hy => (HFR.out i x y hx hy).1⟩, fun m hm => ?_, HK.out.trans HK2.out (fun i hi e => by omega)⟩
        obtain ⟨i, hi⟩ := List.getElem?_of_mem hm
        have hil := (List.getElem?_eq_some_iff.1 hi).1
        obtain ⟨x, hx⟩ : ∃ x, l[i]? = some x := ⟨_, List.getElem?_eq_getElem (by have := HL.out; have := HL2.out; omega)⟩
        have hf := (HFR.out i x m hx hi).2
        cases ha : m.a with
        | none => exact .inr rfl
        | some b =>
          left
          have := hf b ha
          simp only [Option.map_some, ne_eq, Option.some.injEq]
          omega
end Go.Proofs.YtkffcpjaciomjaaDoor
