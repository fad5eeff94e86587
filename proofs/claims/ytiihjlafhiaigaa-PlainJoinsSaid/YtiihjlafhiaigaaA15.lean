/- Layer plain: the program's Partial. – Layer plain: the reference's Same: two lists of matches held against each other. – Layer rule: one round of building a slice of conditions that hangs in whatever block (after layer cond's build_round). – Layer rule: what it needs of names: fits, Right (both); after layer sym. – Layer cond: plain mathematics of whether a variable stands in a condition. No program. – Layer cond: the reference's Check. – Layer cond: the reference's Has. -/
import Derived.Test.YtiihjlafhiaigaaA14
import Derived.Lib.SliceRun
import Derived.Deep.RegionLaw
import Derived.Test.YtiihjlafhiaigaaA8
import Derived.BigRegion
import Derived.BigQuiet
import Derived.Test.YtiihjlafhiaigaaA2
import Derived.Test.YtiihjlafhiaigaaA1
import Derived.WalkSpells
import Derived.WalkLawsBesides
import Derived.ProofKit
import Derived.Outline
import Derived.Deep.QuietTactic
import Derived.Laws.RangeAny
namespace Go.Proofs.Ytiihjlafhiaigaa
section
open Go.RowKit
set_option maxRecDepth 100000

set_option maxHeartbeats 2000000 in
theorem cloneI_any (l : List Int) (hl : l.length ≤ 5000) (B : Nat) (a : Option Addr) (n c : Nat) (w : World) (h : Row cN 3 1 w B (.slice a n c) l) :
    Calls Try.prog 34 #[.slice a n c] w fun e w' => ∃ a' c', e = .returned (.slice a' n c') ∧ Row cN 3 1 w' w.heap.size (.slice a' n c') l ∧ Kept Nil w w' := by
  obtain ⟨hn, _, _⟩ := h.caps
  have hI := h.toIn cN_len (by decide)
  rcases h.2 with ⟨e1, e2⟩ | ⟨g, cap, cur, e1, _⟩
  · cases e1
    obtain rfl := List.length_eq_zero_iff.1 e2
    have hnil : ∀ W : World, (binOp .eql 49 (.slice none 0 0) (.slice none 0 0)).run Try.prog W = .ok (.bool true) W := fun W => Lib.run_eql_slice_nil W _ _ _ _ _ _ _ Try.underlying49
    clear h hI hn
    go_enter Try.func34, Try.ntmps34
    go_wp2_with fail
    go_ret
    exact ⟨none, 0, rfl, Row.nil _ _, Kept.refl _ _⟩
  · have ea : a = some ⟨g, 0, none⟩ := by injection e1
    subst ea
    clear e1
    have kA : Kept Nil w (w.alloc (.cells #[] 3)) := (Kept.refl Nil w).alloc _
    have o0 : Row cN 3 1 (w.alloc (.cells #[] 3)) w.heap.size (.slice (some ⟨w.heap.size, 0, none⟩) 0 0) [] := ⟨rfl, .inr ⟨w.heap.size, 0, #[], rfl, Nat.le_refl _, Blk.new w _ _, Nat.le_refl _, by decide, rfl, rfl⟩⟩
    obtain ⟨a2, c2, w2, r2, o2, k2, _⟩ := o0.pushAll (w := w) elsI1 cN_len cN_one (by decide) 49 kA rfl (by simp) (c2 := c) (hI.kept kA) hl
    rw [Nat.zero_add] at r2 o2
    have R2 := Lib.hid r2
    have O2 := Lib.hid o2
    have K2 := Lib.hid k2
    have hnil : ∀ W : World, (binOp .eql 49 (.slice (some ⟨g, 0, none⟩) n c) (.slice none 0 0)).run Try.prog W = .ok (.bool false) W := fun W => Lib.run_eql_slice_nil W _ _ _ _ _ _ _ Try.underlying49
    clear r2 o2 k2 o0 kA h hI hn
    go_enter Try.func34, Try.ntmps34
    go_wp2_with (at_builtin; refine wpList_append_run rfl (.tmp 5) (.tmp 6) 49 rfl _ _ rfl rfl R2.out ?_)
    go_ret
    exact ⟨a2, c2, rfl, O2.out, K2.out⟩
/-- One element more, out of a block that is known whole (what is asked of this one element alone). -/
theorem Row.pushLit1 {α : Type} {cells : α → List Value} {e : TypeId} {size B g : Nat} {l : List α} {P : Program} {t : TypeId} (T : Els P t e size) (hsz : ∀ x, (cells x).length = size) (ty : TypeId) {W : World} {v : Value} (h : Row cells e size W B v l) (hl : l.length ≤ 5000) (hB : B ≤ W.heap.size) {x : α} (h1 : ∀ u ∈ cells x, u.oneCell' = true) {cs : Array Value} (hb : Blk W g e cs) (hcs : cs.toList = cells x) :
    ∃ a' c' W', (Builtin.append_ #[t, t] ty #[v, .slice (some ⟨g, 0, none⟩) 1 1]).run P W = .ok (.slice a' (l.length + 1) c') W' ∧
      Row cells e size W' B (.slice a' (l.length + 1) c') (l ++ [x]) ∧ Kept (fun k => v.ownBlock = some k ∧ B ≤ k) W W' ∧ (∀ b, (Value.slice a' (l.length + 1) c').ownBlock = some b → (v.ownBlock = some b ∧ B ≤ b) ∨ b = W.heap.size) := by
  have hat : At W (.slice (some ⟨g, 0, none⟩) 1 1) 1 (cells x) := ⟨_, _, rfl, .inr ⟨g, 0, rfl, fun j y hj => by
    rw [Nat.zero_add, hb.cell j, ← hj, ← hcs]; simp⟩⟩
  obtain ⟨v', W', r, o, k, hw⟩ := append_any T ty h hat (by rw [hsz, Nat.one_mul]) h1 (by omega) hB
  have o2 : Row cells e size W' B v' (l ++ [x]) := by simpa [Row] using o
  obtain ⟨a', c', e'⟩ := o2.shape
  rw [List.length_append] at e'
  subst e'
  refine ⟨a', c', W', r, o2, k.mono (fun i _ e => ⟨e, (h.lt i e).1⟩), fun b hb => ?_⟩
  rcases hw with e | e
  · have hb' : v.ownBlock = some b := e.symm.trans hb
    exact .inl ⟨hb', (h.lt b hb').1⟩
  · exact .inr (Option.some.inj (e.symm.trans hb)).symm
/-- What the closure of Partial keeps: its variable, the rows of ids. -/
structure PaD (B q : Nat) (D : List (List F4)) (F : Nat → Prop) (w : World) (ra : Option Addr) (rc : Nat) (ps : List (Value × List Int)) : Prop where
  bq : Blk w q 35 #[.slice ra D.length rc]
  row : Row cM1 49 1 w B (.slice ra D.length rc) ps
  ids : ∀ p ∈ ps, Row cN 3 1 w B p.1 p.2
  eq : ps.map Prod.snd = D.map fun ch => ch.map Prod.fst
  f : ∀ b, F b ↔ b = q ∨ (Value.slice ra D.length rc).ownBlock = some b ∨ ∃ p ∈ ps, p.1.ownBlock = some b
  hB : B ≤ q
def PaI (B q : Nat) (D : List (List F4)) (F : Nat → Prop) (w : World) : Prop := ∃ ra rc ps, PaD B q D F w ra rc ps
theorem PaD.len {B q : Nat} {D : List (List F4)} {F : Nat → Prop} {w : World} {ra : Option Addr} {rc : Nat} {ps : List (Value × List Int)} (h : PaD B q D F w ra rc ps) : ps.length = D.length := by
  have := congrArg List.length h.eq
  simpa using this
theorem PaI.lt {B q : Nat} {D : List (List F4)} {F : Nat → Prop} {w : World} (h : PaI B q D F w) : ∀ b, F b → B ≤ b ∧ b < w.heap.size := fun b hb => by
  obtain ⟨ra, rc, ps, h⟩ := h
  rcases (h.f b).1 hb with rfl | e | ⟨p, hp, e⟩
  · exact ⟨h.hB, h.bq.lt⟩
  · exact h.row.lt b e
  · exact (h.ids p hp).lt b e
theorem PaI.kept {B q : Nat} {D : List (List F4)} {F G : Nat → Prop} {w w' : World} (h : PaI B q D F w) (k : Kept G w w') (hG : ∀ b, G b → ¬ F b) : PaI B q D F w' := by
  obtain ⟨ra, rc, ps, h⟩ := h
  exact ⟨ra, rc, ps, h.bq.kept k (fun e => hG q e ((h.f q).2 (.inl rfl))), h.row.keptF k (fun b hb e => hG b e ((h.f b).2 (.inr (.inl hb)))), fun p hp => (h.ids p hp).keptF k (fun b hb e => hG b e ((h.f b).2 (.inr (.inr ⟨p, hp, hb⟩)))), h.eq, h.f, h.hB⟩
theorem neq_RI : 49 ≠ 3 := by decide
theorem neq_QI : 35 ≠ 3 := by decide
theorem neq_QR : 35 ≠ 49 := by decide
/-- One round of the closure, behind the copy. -/
theorem PaD.round {B q : Nat} {D : List (List F4)} {F : Nat → Prop} {w w1 w2 : World} {ra : Option Addr} {rc : Nat} {ps : List (Value × List Int)} (h : PaD B q D F w ra rc ps) (k1 : Kept Nil w w1) (hD : D.length ≤ 5000) (ch : List F4) {a2 : Option Addr} {n2 c2 : Nat} (h2 : Row cN 3 1 w2 w1.heap.size (.slice a2 n2 c2) (ch.map Prod.fst)) (k2 : Kept Nil w1 w2) :
    w2.cell? ⟨q, 0, none⟩ = some (.slice ra D.length rc) ∧ q < w2.heap.size ∧ ∃ a3 c3 w3, (Builtin.append_ #[35, 35] 35 #[.slice ra D.length rc, .slice (some ⟨w2.heap.size, 0, none⟩) 1 1]).run Try.prog (w2.alloc (.cells #[.slice a2 n2 c2] 49)) = .ok (.slice a3 (D.length + 1) c3) w3 ∧
      w3.cell? ⟨q, 0, none⟩ = some (.slice ra D.length rc) ∧ w3.frozen? ⟨q, 0, none⟩ = false ∧ q < w3.heap.size ∧ ∃ F', PaI B q (D ++ [ch]) F' (w3.setCell ⟨q, 0, none⟩ (.slice a3 (D.length + 1) c3)) ∧ (∀ b, F' b → F b ∨ w.heap.size ≤ b) ∧ Kept F w (w3.setCell ⟨q, 0, none⟩ (.slice a3 (D.length + 1) c3)) := by
  have k12 : Kept Nil w w2 := k1.trans k2 (fun _ _ e => e)
  have kA : Kept Nil w2 (w2.alloc (.cells #[.slice a2 n2 c2] 49)) := (Kept.refl Nil w2).alloc _
  have hBw : B ≤ w.heap.size := Nat.le_of_lt (Nat.lt_of_le_of_lt h.hB h.bq.lt)
  have hrow := h.row.keptN (k12.trans kA (fun _ _ e => e))
  obtain ⟨a3, c3, w3, r3, o3, k3, ow3⟩ := hrow.pushLit1 (x := (.slice a2 n2 c2, ch.map Prod.fst)) elsI2 cM1_len 35 (by rw [h.len]; exact hD) (Nat.le_trans hBw (k12.trans kA (fun _ _ e => e)).size) (fun u hu => by rw [List.mem_singleton.1 hu]; rfl) (Blk.new w2 _ _) rfl
  rw [h.len] at r3 o3 ow3
  have bq2 := h.bq.kept k12 (fun e => e)
  have bqA := bq2.kept kA (fun e => e)
  have bq3 := bqA.kept k3 (fun e => hrow.notBlk bqA neq_QR e.1)
  have kS : Kept (fun b => b = q) w3 (w3.setCell ⟨q, 0, none⟩ (.slice a3 (D.length + 1) c3)) := (Kept.refl (fun b => b = q) w3).setCell ⟨q, 0, none⟩ (.inl rfl) _
  have kF : Kept F w (w3.setCell ⟨q, 0, none⟩ (.slice a3 (D.length + 1) c3)) := (((k12.trans kA (fun _ _ e => e)).mono (fun _ _ e => e.elim)).trans k3 (fun i _ e => (h.f i).2 (.inr (.inl e.1)))).trans kS (fun i _ e => (h.f i).2 (.inl e))
  have hlen : (D ++ [ch]).length = D.length + 1 := by rw [List.length_append]; rfl
  have hidA : ∀ p ∈ ps ++ [((.slice a2 n2 c2 : Value), ch.map Prod.fst)], Row cN 3 1 (w2.alloc (.cells #[.slice a2 n2 c2] 49)) B p.1 p.2 := fun p hp => by
    rcases List.mem_append.1 hp with hp | hp
    · exact (h.ids p hp).keptN (k12.trans kA (fun _ _ e => e))
    · rw [List.mem_singleton.1 hp]
      exact (h2.keptN kA).down (Nat.le_trans hBw k1.size)
  refine ⟨bq2.cell 0, bq2.lt, a3, c3, w3, r3, bq3.cell 0, bq3.frozen 0, bq3.lt, fun b => b = q ∨ (Value.slice a3 (D.length + 1) c3).ownBlock = some b ∨ ∃ p ∈ ps ++ [((.slice a2 n2 c2 : Value), ch.map Prod.fst)], p.1.ownBlock = some b, ⟨a3, c3, ps ++ [(.slice a2 n2 c2, ch.map Prod.fst)], ?_, ?_, fun p hp => ?_, ?_, fun b => ?_, h.hB⟩, fun b hb => ?_, kF⟩
  · rw [hlen]; exact bq3.set_ 0 _
  · rw [hlen]
    exact o3.keptF kS (fun b hb e => by subst e; exact o3.notBlk bq3 neq_QR hb)
  · have hp3 := (hidA p hp).keptF k3 (fun b hb e => rows_apart2 (fun e => neq_RI e.symm) (hidA p hp) hrow b hb e.1)
    exact hp3.keptF kS (fun b hb e => by subst e; exact hp3.notBlk bq3 neq_QI hb)
  · rw [List.map_append, List.map_append, h.eq]; rfl
  · rw [hlen]
  · rcases hb with rfl | hb | ⟨p, hp, hb⟩
    · exact .inl ((h.f _).2 (.inl rfl))
    · rcases ow3 b hb with e | e
      · exact .inl ((h.f b).2 (.inr (.inl e.1)))
      · exact .inr (by rw [e]; exact (k12.trans kA (fun _ _ e => e)).size)
    · rcases List.mem_append.1 hp with hp | hp
      · exact .inl ((h.f b).2 (.inr (.inr ⟨p, hp, hb⟩)))
      · rw [List.mem_singleton.1 hp] at hb
        exact .inr (Nat.le_trans k1.size (h2.lt b hb).1)
set_option maxHeartbeats 4000000 in
theorem partClo_any {B q : Nat} {D : List (List F4)} {F : Nat → Prop} (w : World) (h : PaI B q D F w) (hD : D.length ≤ 5000) (ch : List F4) (hch : ch.length ≤ 5000) (s : Int) (B2 : Nat) (ia : Option Addr) (ni ic : Nat) (bv : Value) (hi : Row cN 3 1 w B2 (.slice ia ni ic) (ch.map Prod.fst)) :
    Calls Try.prog 33 #[.agg #[.int .i64 s, .slice ia ni ic, bv], .pointer (some ⟨q, 0, none⟩)] w fun o w' => ∃ F', o = .returned (.tuple #[]) ∧ PaI B q (D ++ [ch]) F' w' ∧ (∀ b, F' b → F b ∨ w.heap.size ≤ b) ∧ Kept F w w' := by
  obtain ⟨ra, rc, ps, h⟩ := h
  have kA : Kept Nil w (w.alloc (.cells #[.int .i64 s, .slice ia ni ic, bv] 85)) := (Kept.refl Nil w).alloc _
  have bA : Blk (w.alloc (.cells #[.int .i64 s, .slice ia ni ic, bv] 85)) w.heap.size 85 #[.int .i64 s, .slice ia ni ic, bv] := Blk.new w _ _
  have hq := h.bq.lt
  go_enter Try.func33, Try.ntmps33
  go_upto_region 1 with fail
  generalize (w.alloc (.cells #[.int .i64 s, .slice ia ni ic, bv] 85)) = W at *
  have CC := Lib.hid (cloneI_any (ch.map Prod.fst) (by rw [List.length_map]; exact hch) B2 ia ni ic W.drew ((hi.keptN kA).keptN (Kept.refl Nil W).drew))
  have RND : Hid (∀ a2 c2 w2, Row cN 3 1 w2 W.drew.heap.size (.slice a2 ni c2) (ch.map Prod.fst) → Kept Nil W.drew w2 → _) := Lib.hid fun a2 c2 w2 h2 k2 => h.round (w1 := W.drew) kA.drew hD ch h2 k2
  have x0 := (h.bq.kept kA (fun e => e)).cell 0
  have y1 := bA.cell 1
  have hqW : q < W.heap.size := Nat.lt_of_lt_of_le hq kA.size
  have hwW := bA.lt
  simp at x0 y1
  generalize D.length = dn at *
  clear h kA bA hi
  go_region_law (first
    | (refine step_append_run rfl (.tmp 3) (.tmp 7) 35 rfl _ _ rfl rfl r3 ?_)
    | (go_simp; go_at_call 34; refine CC.out.mono ?_; rintro e w2 ⟨a2, c2, rfl, h2, k2⟩; obtain ⟨x2, hq2, a3, c3, w3, r3, x3, f3, hq3, HFin⟩ := RND.out a2 c2 w2 h2 k2; have HF' := Lib.hid HFin; clear HFin h2 k2))
  all_goals
    obtain ⟨F', hP, hF, hk⟩ := HF'.out
    go_wp2_with fail
    exact ⟨rfl, .tuple #[], by simp [results, Try.results33, go_sem], F', rfl, hP, hF, hk⟩
end
section
open Go.RowKit
set_option maxRecDepth 100000

theorem take_eq_succ {α : Type} {xs ys : List α} {j : Nat} {x y : α} (h : xs.take j = ys.take j) (hx : xs[j]? = some x) (hy : ys[j]? = some y) (e : x = y) : xs.take (j + 1) = ys.take (j + 1) := by
  rw [List.take_add_one, List.take_add_one, h, hx, hy, e]
theorem In.one {w : World} {a : Option Addr} {len : Nat} {xs : List Int} (h : In cN 1 w a len xs) {j : Nat} {x : Int} (hj : xs[j]? = some x) : ∃ b o, a = some ⟨b, o, none⟩ ∧ b < w.heap.size ∧ w.cell? ⟨b, o + j, none⟩ = some (.int .i64 x) := by
  obtain ⟨b, o, e, hb, hc⟩ := h.at_ hj
  have := hc 0 _ rfl
  rw [Nat.mul_one] at this
  exact ⟨b, o, e, hb, this⟩
/-- Lists of numbers that lie at a slice. -/
def LIn (w : World) (a : Option Addr) (n : Nat) (L : List (List Int)) : Prop :=
  L.length = n ∧ (n = 0 ∨ ∃ b o, a = some ⟨b, o, none⟩ ∧ b < w.heap.size ∧ ∀ (j : Nat) l, L[j]? = some l → ∃ a' n' c', w.cell? ⟨b, o + j, none⟩ = some (.slice a' n' c') ∧ In cN 1 w a' n' l)
section
variable {w w' : World} {a : Option Addr} {n : Nat} {L : List (List Int)}
theorem LIn.kept (h : LIn w a n L) (k : Kept Nil w w') : LIn w' a n L :=
  ⟨h.1, h.2.imp id fun ⟨b, o, e, hb, hc⟩ => ⟨b, o, e, Nat.lt_of_lt_of_le hb k.size, fun j l hj => by
    obtain ⟨a', n', c', h1, h2⟩ := hc j l hj
    exact ⟨a', n', c', (k.cell (p := ⟨b, o + j, none⟩) hb (fun e => e)).trans h1, h2.kept k⟩⟩⟩
theorem LIn.at_ (h : LIn w a n L) {j : Nat} {l : List Int} (hj : L[j]? = some l) : ∃ b o a' n' c', a = some ⟨b, o, none⟩ ∧ b < w.heap.size ∧ w.cell? ⟨b, o + j, none⟩ = some (.slice a' n' c') ∧ In cN 1 w a' n' l := by
  rcases h.2 with e | ⟨b, o, e, hb, hc⟩
  · have := h.1
    rw [e] at this
    rw [List.length_eq_zero_iff.1 this] at hj; cases hj
  · obtain ⟨a', n', c', h1, h2⟩ := hc j l hj
    exact ⟨b, o, a', n', c', e, hb, h1, h2⟩
theorem LL.toLIn {B c : Nat} (h : LL w B (.slice a n c) L) : LIn w a n L := by
  obtain ⟨ps, rfl, h⟩ := h
  have hi := h.row.toIn cM1_len (by decide)
  refine ⟨by rw [List.length_map]; exact hi.1, hi.2.imp id fun ⟨b, o, e, hb, hc⟩ => ⟨b, o, e, hb, fun j l hj => ?_⟩⟩
  rw [List.getElem?_map] at hj
  obtain ⟨p, hp, rfl⟩ := Option.map_eq_some_iff.1 hj
  have hr := h.ids p (List.mem_of_getElem? hp)
  obtain ⟨a', c', e'⟩ := hr.shape
  have := hc j p 0 p.1 hp rfl
  rw [Nat.mul_one, Nat.add_zero] at this
  rw [e'] at this hr
  exact ⟨a', _, c', this, hr.toIn cN_len (by decide)⟩
end
set_option maxHeartbeats 8000000 in
theorem same_any {w : World} {a a' : Option Addr} {n n' c c' : Nat} {xs ys : List (List Int)} (hx : LIn w a n xs) (hy : LIn w a' n' ys) (hn : n ≤ 100000) (hn' : n' ≤ 100000) (hl : ∀ l ∈ xs, l.length ≤ 100000) (hl' : ∀ l ∈ ys, l.length ≤ 100000) :
    Calls Try.prog 16 #[.slice a n c, .slice a' n' c'] w fun e w' => e = .returned (.bool (decide (xs = ys))) ∧ Kept Nil w w' := by
  by_cases hll : n = n'
  · subst hll
    have HX := Lib.hid hx
    have HY := Lib.hid hy
    have HLs := Lib.hid (And.intro hl hl')
    clear hx hy hl hl'
    go_enter Try.func16, Try.ntmps16
    go_wp2_with fail
    go_loopw [5, 14] (fun _ i wr => ∃ j : Nat, j ≤ n ∧ i = .int .i64 j ∧ xs.take j = ys.take j ∧ Kept Nil w wr) (fun _ i _ => n - (intOf i).toNat)
    case atStart => exact ⟨0, Nat.zero_le _, rfl, by simp, Kept.refl _ _⟩
    case round =>
      rename World => wo
      obtain ⟨j, hj, rfl, hE, hK⟩ := hrel
      have HE := Lib.hid hE
      have HK := Lib.hid hK
      clear hE hK
      by_cases hjn : j < n
      rotate_left
      · obtain rfl : j = n := by omega
        have hd := Lib.hid (show decide (xs = ys) = true from decide_eq_true (by
          have := HE.out
          rwa [List.take_of_length_le (by rw [HX.out.1]; exact Nat.le_refl _), List.take_of_length_le (by rw [HY.out.1]; exact Nat.le_refl _)] at this))
        go_wp2_with fail
        go_ret
        exact ⟨ret_bool hd.out.symm, HK.out⟩
      obtain ⟨l, hxj⟩ : ∃ x, xs[j]? = some x := ⟨xs[j]'(by have := HX.out.1; omega), by simp⟩
      obtain ⟨l', hyj⟩ : ∃ y, ys[j]? = some y := ⟨ys[j]'(by have := HY.out.1; omega), by simp⟩
      obtain ⟨b, o, a1, n1, c1, rfl, hb, q, hi⟩ := (HX.out.kept HK.out).at_ hxj
      obtain ⟨b', o', a2, n2, c2, rfl, hb', q', hi'⟩ := (HY.out.kept HK.out).at_ hyj
      have HXJ := Lib.hid (And.intro hxj hyj)
      have HI := Lib.hid hi
      have HI' := Lib.hid hi'
      have hn1 : n1 ≤ 100000 := by rw [← hi.1]; exact HLs.out.1 _ (List.mem_of_getElem? hxj)
      have hn2 : n2 ≤ 100000 := by rw [← hi'.1]; exact HLs.out.2 _ (List.mem_of_getElem? hyj)
      clear hxj hyj hi hi'
      have HNe : Hid (l ≠ l' → decide (xs = ys) = false) := Lib.hid fun e => decide_eq_false (fun e2 => e (by
        have h1 := HXJ.out.1
        rw [e2, HXJ.out.2] at h1
        injection h1 with h1
        exact h1.symm))
      by_cases h12 : n1 = n2
      rotate_left
      · have hne : (n1 != n2) = true := bne_iff_ne.2 h12
        have hne2 : ((n1 : Int) != (n2 : Int)) = true := bne_iff_ne.2 (by omega)
        have hd := Lib.hid (HNe.out (fun e => h12 (by rw [← HI.out.1, ← HI'.out.1, e])))
        clear h12
        go_wp2_with fail
        go_quiet (fail)
        go_wp2_with fail
        go_ret
        exact ⟨ret_bool hd.out.symm, HK.out.drewN _⟩
      subst h12
      go_wp2_with fail
      go_quiet (fail)
      go_wp2_with fail
      go_loopw [6, 33] (fun _ i wr => ∃ m : Nat, m ≤ n1 ∧ i = .int .i64 m ∧ l.take m = l'.take m ∧ Kept Nil wo wr) (fun _ i _ => n1 - (intOf i).toNat)
      case atStart => exact ⟨0, Nat.zero_le _, rfl, by simp, (Kept.refl _ _).drewN _⟩
      case round =>
        obtain ⟨m, hmj, rfl, hEm, hKm⟩ := hrel
        have HEm := Lib.hid hEm
        have HKm := Lib.hid hKm
        clear hEm hKm
        by_cases hmn : m < n1
        · obtain ⟨x, hxm⟩ : ∃ x, l[m]? = some x := ⟨l[m]'(by have := HI.out.1; omega), by simp⟩
          obtain ⟨y, hym⟩ : ∃ y, l'[m]? = some y := ⟨l'[m]'(by have := HI'.out.1; omega), by simp⟩
          obtain ⟨b1, o1, rfl, hb1, u⟩ := (HI.out.kept HKm.out).one hxm
          obtain ⟨b2, o2, rfl, hb2, u'⟩ := (HI'.out.kept HKm.out).one hym
          have q1 := HKm.out.cellOf q
          have q1' := HKm.out.cellOf q'
          have HXm := Lib.hid (And.intro hxm hym)
          clear hxm hym
          by_cases e : x = y
          · subst e
            go_wp2_with fail
            go_quiet (fail)
            go_wp2_with fail
            go_roundw
            case rel => exact ⟨m + 1, hmn, by go_num, take_eq_succ HEm.out HXm.out.1 HXm.out.2 rfl, HKm.out.drewN _⟩
            case measure => simp [intOf]; omega
          · have hne : (x != y) = true := bne_iff_ne.2 e
            have hd := Lib.hid (HNe.out (fun e2 => e (by
              have h1 := HXm.out.1
              rw [e2, HXm.out.2] at h1
              injection h1 with h1
              exact h1.symm)))
            clear e
            go_wp2_with fail
            go_quiet (fail)
            go_wp2_with fail
            go_ret
            exact ⟨ret_bool hd.out.symm, HK.out.trans (HKm.out.drewN _) (fun _ _ e => e)⟩
        · obtain rfl : m = n1 := by omega
          have HEq : Hid (l = l') := Lib.hid (by
            have := HEm.out
            rwa [List.take_of_length_le (by rw [HI.out.1]; exact Nat.le_refl _), List.take_of_length_le (by rw [HI'.out.1]; exact Nat.le_refl _)] at this)
          go_wp2_with fail
          go_roundw
          case rel => exact ⟨j + 1, hjn, by go_num, take_eq_succ HE.out HXJ.out.1 HXJ.out.2 HEq.out, HK.out.trans HKm.out (fun _ _ e => e)⟩
          case measure => simp [intOf]; omega
  · have hd := Lib.hid (show decide (xs = ys) = false from decide_eq_false (fun e => hll (by rw [← hx.1, ← hy.1, e])))
    have hne : (n != n') = true := bne_iff_ne.2 hll
    have hne2 : ((n : Int) != (n' : Int)) = true := bne_iff_ne.2 (by omega)
    clear hll hx hy
    go_enter Try.func16, Try.ntmps16
    go_wp2_with fail
    go_ret
    exact ⟨ret_bool hd.out.symm, Kept.refl _ _⟩
end
section
open Go.RowKit
set_option maxRecDepth 100000

/-- What stands in memory: what came in, boxed; the result's place. -/
structure RG (w : World) (t0 : TypeId) (c0 : Array Value) (tz : TypeId) (z : Array Value) (W : World) : Prop where
  kept : Kept Nil w W
  b0 : Blk W w.heap.size t0 c0
  b1 : Blk W (w.heap.size + 1) tz z
section
variable {w : World} {t0 : TypeId} {c0 : Array Value} {tz : TypeId} {z : Array Value} {W W' : World}
theorem RG.start (w : World) (t0 : TypeId) (c0 : Array Value) (tz : TypeId) (z : Array Value) : RG w t0 c0 tz z ((w.alloc (.cells c0 t0)).alloc (.cells z tz)) := by
  refine ⟨((Kept.refl Nil w).alloc _).alloc _, (Blk.new w _ _).alloc _, ?_⟩
  have := Blk.new (w.alloc (.cells c0 t0)) tz z
  simpa using this
theorem RG.step (r : RG w t0 c0 tz z W) (k : Kept Nil W W') : RG w t0 c0 tz z W' := ⟨r.kept.trans k (fun _ _ g => g), r.b0.kept k id, r.b1.kept k id⟩
theorem RG.alloc (r : RG w t0 c0 tz z W) (o : Obj) : RG w t0 c0 tz z (W.alloc o) := r.step ((Kept.refl Nil W).alloc o)
theorem RG.drew (r : RG w t0 c0 tz z W) : RG w t0 c0 tz z W.drew := r.step ((Kept.refl Nil W).drew)
theorem RG.far {F : Nat → Prop} (r : RG w t0 c0 tz z W) (k : Kept F W W') (hF : ∀ i, F i → w.heap.size + 1 < i) : RG w t0 c0 tz z W' :=
  ⟨r.kept.trans k (fun i hi g => by have := hF i g; omega), r.b0.kept k (fun g => by have := hF _ g; omega), r.b1.kept k (fun g => by have := hF _ g; omega)⟩
theorem RG.set_ (r : RG w t0 c0 tz z W) {X : Nat} (hX : w.heap.size + 1 < X) (i : Nat) (u : Value) : RG w t0 c0 tz z (W.setCell ⟨X, i, none⟩ u) :=
  ⟨r.kept.setCell _ (.inr (by show w.heap.size ≤ X; omega)) _, r.b0.far (by show w.heap.size ≠ X; omega) _, r.b1.far (by show w.heap.size + 1 ≠ X; omega) _⟩
end
/-- One round of building: the child's tree is there in new memory; it is appended, and the new slice is stored. -/
theorem build_roundG {P : Program} {E : Hd → Value → List Value} (hE : Kind8 E) {t e : TypeId} {i0 : TypeInfo} {z0 : Value} {bytes : Nat} (ht : P.underlying t = some (.slice e)) (hi : P.info? e = some i0) (hz : i0.zero = some z0) (hsize : i0.size = 8) (hby : i0.bytes = bytes) (hzs : z0.cells.size = 8) (hb128 : bytes ≤ 128)
    {w : World} {t0 : TypeId} {c0 : Array Value} {tz : TypeId} {z : Array Value} {W1 W1' w2 : World} {X : Nat} {tX : TypeId} (p : Nat) {cs : Array Value} {ps : List (Sh × Value)} {av : Option Addr} {pl capv : Nat} (hX : w.heap.size + 1 < X)
    (r : RG w t0 c0 tz z W1) (b : Blk W1 X tX cs) (h7 : cs[p]? = some (.slice av pl capv)) (c : CRow E e W1 (X + 1) (.slice av pl capv) ps) (hpl : ps.length = pl) (hl : pl ≤ 5000) (hd1 : Kept Nil W1 W1') (hsz : W1'.heap.size = W1.heap.size) (k2 : Kept Nil W1' w2)
    (s : Sh) (u : Value) (h2 : Holds E w2 (okM W1'.heap.size w2) u s.subs) (nt : TypeId) (arr : Array Value) (harr : arr = (E s.hd u).toArray) :
    w2.cell? ⟨X, p, none⟩ = some (.slice av pl capv) ∧ X < w2.heap.size ∧ ∃ g cap3 w3, (Builtin.append_ #[t, t] t #[.slice av pl capv, .slice (some ⟨w2.heap.size, 0, none⟩) 1 1]).run P (w2.alloc (.cells arr nt)) = .ok (.slice (some ⟨g, 0, none⟩) (pl + 1) cap3) w3 ∧
      w3.cell? ⟨X, p, none⟩ = some (.slice av pl capv) ∧ w3.frozen? ⟨X, p, none⟩ = false ∧
      RG w t0 c0 tz z (w3.setCell ⟨X, p, none⟩ (.slice (some ⟨g, 0, none⟩) (pl + 1) cap3)) ∧ Blk (w3.setCell ⟨X, p, none⟩ (.slice (some ⟨g, 0, none⟩) (pl + 1) cap3)) X tX (cs.setIfInBounds p (.slice (some ⟨g, 0, none⟩) (pl + 1) cap3)) ∧
      CRow E e (w3.setCell ⟨X, p, none⟩ (.slice (some ⟨g, 0, none⟩) (pl + 1) cap3)) (X + 1) (.slice (some ⟨g, 0, none⟩) (pl + 1) cap3) (ps ++ [(s, u)]) := by
  have k12 : Kept Nil W1 w2 := hd1.trans k2 (fun _ _ g => g)
  have b2 := b.kept k12 id
  have ka := (Kept.refl Nil w2).alloc (.cells arr nt)
  have hB2 : Blk (w2.alloc (.cells arr nt)) w2.heap.size nt arr := Blk.new _ _ _
  have hX1 := b.lt
  have hX2 := b2.lt
  have hsa : (w2.alloc (.cells arr nt)).heap.size = w2.heap.size + 1 := by simp
  obtain ⟨g, cap3, w3, r3, c3, k3⟩ := CRow.append hE ht hi hz hsize hby hzs hb128 ((c.kept k12).kept ka) (by omega) (by omega) t s u w2.heap.size (fun j x hj => by rw [hB2.cell j, harr]; simpa using hj)
    ((h2.keptN ka).mono (fun b' o hb' => ⟨(hb'.kept ka id).less (by omega), fun eo => by have := c.lt b' eo; have := hb'.1; omega⟩))
  rw [hpl] at r3 c3
  have b3 : Blk w3 X tX cs := (b2.alloc _).kept k3 (fun eo => by have := c.base X eo; omega)
  have far3 : RG w t0 c0 tz z w3 := ((r.step k12).step ka).far k3 (fun i eo => by have := c.base i eo; omega)
  refine ⟨by rw [b2.cell p]; exact h7, hX2, g, cap3, w3, r3, by rw [b3.cell p]; exact h7, b3.frozen p, far3.set_ hX p _, b3.set_ p _, ?_⟩
  exact c3.keptF ((Kept.refl (fun k => k = X) w3).setCell ⟨X, p, none⟩ (.inl rfl) _) (fun i e => by omega)
end
section
open Go.RowKit
set_option maxRecDepth 100000

/-- A sign of a name, as a number. -/
def okSign (r : Int) : Bool := decide ((97 ≤ r ∧ r ≤ 122) ∨ (65 ≤ r ∧ r ≤ 90) ∨ (48 ≤ r ∧ r ≤ 57) ∨ r = 45 ∨ r = 95)

/-- The bytes are those of a name. -/
def okBytes (l : List UInt8) : Bool := l.all fun c => okSign c.toNat
def okName (s : ByteArray) : Bool := decide (1 ≤ s.size ∧ s.size ≤ 32) && okBytes s.data.toList

theorem okBytes_take (s : ByteArray) (k : Nat) (h : k < s.size) : okBytes (s.data.toList.take (k + 1)) = (okBytes (s.data.toList.take k) && okSign s[k].toNat) := by
  unfold okBytes
  rw [List.take_succ_eq_append_getElem (by simpa using h), List.all_append]
  simp
  rfl
theorem okBytes_bad (s : ByteArray) (k : Nat) (h : k < s.size) (hb : okSign s[k].toNat = false) : okBytes s.data.toList = false := by
  unfold okBytes
  rw [List.all_eq_false]
  exact ⟨s[k], by exact Array.mem_toList_iff.2 (Array.getElem_mem _), by simpa using hb⟩
theorem okName_short (s : ByteArray) (h : s.size < 1 ∨ 32 < s.size) : okName s = false := by
  unfold okName
  rw [decide_eq_false (by omega), Bool.false_and]
theorem okName_good (s : ByteArray) (h1 : 1 ≤ s.size) (h2 : s.size ≤ 32) (h : okBytes (s.data.toList.take s.size) = true) : okName s = true := by
  unfold okName
  rw [List.take_of_length_le (by simp)] at h
  rw [decide_eq_true ⟨h1, h2⟩, h]; rfl
theorem okName_bad (s : ByteArray) (k : Nat) (h : k < s.size) (hb : okSign s[k].toNat = false) : okName s = false := by
  unfold okName
  rw [okBytes_bad s k h hb, Bool.and_false]
theorem okSign_high (r : Int) (h : 128 ≤ r) : okSign r = false := by
  unfold okSign
  exact decide_eq_false (by omega)

theorem okSign_cases {r : Int} (h : okSign r = true) : (97 ≤ r ∧ r ≤ 122) ∨ (65 ≤ r ∧ r ≤ 90) ∨ (48 ≤ r ∧ r ≤ 57) ∨ (45 ≤ r ∧ r ≤ 45) ∨ (95 ≤ r ∧ r ≤ 95) := by
  unfold okSign at h
  have := of_decide_eq_true h
  omega
theorem okSign_not {r : Int} (h : okSign r = false) : (r ≤ 44 ∧ r ≤ 44) ∨ (46 ≤ r ∧ r ≤ 47) ∨ (58 ≤ r ∧ r ≤ 64) ∨ (91 ≤ r ∧ r ≤ 94) ∨ (96 ≤ r ∧ r ≤ 96) ∨ (123 ≤ r ∧ 123 ≤ r) := by
  unfold okSign at h
  have := of_decide_eq_false h
  omega

set_option maxHeartbeats 1000000 in
theorem refName_any (s : ByteArray) (w : World) (hs : s.size ≤ maxLen) :
    Calls Try.prog 69 #[.string s] w fun e w' => e = .returned (.bool (okName s)) ∧ w = w' := by
  unfold maxLen at hs
  by_cases h1 : s.size < 1
  · have E := Lib.hid (okName_short s (.inl h1))
    go_enter Try.func69, Try.ntmps69
    go_wp2
    go_ret
    exact ⟨ret_bool E.out.symm, rfl⟩
  by_cases h2 : 32 < s.size
  · have E := Lib.hid (okName_short s (.inr h2))
    go_enter Try.func69, Try.ntmps69
    go_wp2
    go_ret
    exact ⟨ret_bool E.out.symm, rfl⟩
  go_enter Try.func69, Try.ntmps69
  go_wp2
  go_loop [3, 4] (fun i _ => ∃ k : Nat, k ≤ s.size ∧ okBytes (s.data.toList.take k) = true ∧ i = .int .i64 k) (fun i _ => s.size - (intOf i).toNat)
  case atStart => exact ⟨0, Nat.zero_le _, rfl, rfl⟩
  case round =>
    obtain ⟨k, hk, hok, rfl⟩ := hrel
    have HO := Lib.hid hok
    clear hok
    by_cases hlt : k < s.size
    · by_cases hb : okSign s[k].toNat = true
      · have HT : Hid (okBytes (s.data.toList.take (k + 1)) = true) := by
          show okBytes (s.data.toList.take (k + 1)) = true
          rw [okBytes_take s k hlt, HO.out, hb]; rfl
        have hc := okSign_cases hb
        clear hb
        rcases hc with hc | hc | hc | hc | hc
        all_goals obtain ⟨hc1, hc2⟩ := hc
        all_goals (first | (have d1 : decide ((s[k].toNat : Int) ≤ 122) = true := decide_eq_true (by omega)) | (have d1 : decide ((s[k].toNat : Int) ≤ 122) = false := decide_eq_false (by omega)))
        all_goals (first | (have d2 : decide ((s[k].toNat : Int) ≤ 90) = true := decide_eq_true (by omega)) | (have d2 : decide ((s[k].toNat : Int) ≤ 90) = false := decide_eq_false (by omega)))
        all_goals (first | (have d3 : decide ((s[k].toNat : Int) ≤ 57) = true := decide_eq_true (by omega)) | (have d3 : decide ((s[k].toNat : Int) ≤ 57) = false := decide_eq_false (by omega)))
        all_goals (first | (have d4 : ((s[k].toNat : Int) != 45) = true := bne_iff_ne.2 (by omega)) | (have d4 : ((s[k].toNat : Int) != 45) = false := by rw [bne_eq_false_iff_eq]; omega))
        all_goals (first | (have d5 : ((s[k].toNat : Int) != 95) = true := bne_iff_ne.2 (by omega)) | (have d5 : ((s[k].toNat : Int) != 95) = false := by rw [bne_eq_false_iff_eq]; omega))
        all_goals
          go_wp2
          go_round
          case rel => exact ⟨k + 1, hlt, HT.out, by go_num⟩
          case measure => simp [intOf]; omega
      · have HN : Hid (okName s = false) := okName_bad s k hlt (by simpa using hb)
        have hc := okSign_not (by simpa using hb)
        clear hb
        rcases hc with hc | hc | hc | hc | hc | hc
        all_goals obtain ⟨hc1, hc2⟩ := hc
        all_goals (first | (have d1 : decide ((s[k].toNat : Int) ≤ 122) = true := decide_eq_true (by omega)) | (have d1 : decide ((s[k].toNat : Int) ≤ 122) = false := decide_eq_false (by omega)))
        all_goals (first | (have d2 : decide ((s[k].toNat : Int) ≤ 90) = true := decide_eq_true (by omega)) | (have d2 : decide ((s[k].toNat : Int) ≤ 90) = false := decide_eq_false (by omega)))
        all_goals (first | (have d3 : decide ((s[k].toNat : Int) ≤ 57) = true := decide_eq_true (by omega)) | (have d3 : decide ((s[k].toNat : Int) ≤ 57) = false := decide_eq_false (by omega)))
        all_goals (first | (have d4 : ((s[k].toNat : Int) != 45) = true := bne_iff_ne.2 (by omega)) | (have d4 : ((s[k].toNat : Int) != 45) = false := by rw [bne_eq_false_iff_eq]; omega))
        all_goals (first | (have d5 : ((s[k].toNat : Int) != 95) = true := bne_iff_ne.2 (by omega)) | (have d5 : ((s[k].toNat : Int) != 95) = false := by rw [bne_eq_false_iff_eq]; omega))
        all_goals go_wp2
        all_goals go_ret
        all_goals exact ⟨ret_bool HN.out.symm, rfl⟩
    · have he : k = s.size := by omega
      have hn : okName s = true := okName_good s (by omega) (by omega) (by rw [← he]; exact HO.out)
      have HN := Lib.hid hn
      clear he hn
      go_wp2
      go_ret
      exact ⟨ret_bool HN.out.symm, rfl⟩
end
section
open Go.RowKit
set_option maxRecDepth 100000

/-- Is that number a variable of the terms? -/
def ownN (x0 x1 x2 : Bool) (n0 n1 n2 j : Int) : Bool := (x0 && n0 == j) || ((x1 && n1 == j) || (x2 && n2 == j))
mutual
/-- Does a variable stand in it? -/
def Sh.has : Sh → Int → Bool
  | .mk h l, v => (decide (h.k < 3) && ownN h.x0 h.x1 h.x2 h.n0 h.n1 h.n2 v) || hasL l v
def hasL : List Sh → Int → Bool
  | [], _ => false
  | s :: r, v => s.has v || hasL r v
end
theorem has_mk (h : Hd) (l : List Sh) (v : Int) : (Sh.mk h l).has v = ((decide (h.k < 3) && ownN h.x0 h.x1 h.x2 h.n0 h.n1 h.n2 v) || hasL l v) := by
  rw [Sh.has]
theorem hasL_drop {l : List Sh} {j : Nat} {x : Sh} (h : l[j]? = some x) (v : Int) : hasL (l.drop j) v = (x.has v || hasL (l.drop (j + 1)) v) := by
  obtain ⟨hl, e⟩ := List.getElem?_eq_some_iff.1 h
  rw [List.drop_eq_getElem_cons hl, e]
  rfl
end
section
open Go.RowKit
set_option maxRecDepth 100000

abbrev RefCheckIH (subs : List Sh) : Prop := ∀ hd sb, Sh.mk hd sb ∈ subs → ∀ ok a cap w (d : Int), 1 ≤ d → Holds cR w ok (.slice a sb.length cap) sb →
  Calls Try.prog 46 #[vR hd (.slice a sb.length cap), .int .i64 d] w fun e w' => e = .returned (.int .i64 ((Sh.mk hd sb).chk d)) ∧ Kept Nil w w'
theorem sameT_zero (h : Hd) : h.sameT zeroH = (decide (h.x0 = false ∧ h.n0 = 0) && (decide (h.x1 = false ∧ h.n1 = 0) && decide (h.x2 = false ∧ h.n2 = 0))) := by
  unfold Hd.sameT zeroH
  simp
set_option maxHeartbeats 2000000 in
theorem refTerms_part (k : Int) (x0 x1 x2 : Bool) (n0 n1 n2 : Int) (a : Option Addr) (len cap : Nat) (w : World) (d : Int) (hd3 : decide (3 < d) = false) (hk1 : 1 ≤ k) (hk2 : k < 3) :
    Calls Try.prog 46 #[vR ⟨k, x0, x1, x2, n0, n1, n2⟩ (.slice a len cap), .int .i64 d] w fun e w' => e = .returned (.int .i64 (termsT ⟨k, x0, x1, x2, n0, n1, n2⟩ len)) ∧ Kept Nil w w' := by
  have R0 := Lib.hid (fun W => refRight_any x0 n0 W)
  have R1 := Lib.hid (fun W => refRight_any x1 n1 W)
  have R2 := Lib.hid (fun W => refRight_any x2 n2 W)
  have HT : Hid (termsT ⟨k, x0, x1, x2, n0, n1, n2⟩ len = if (okTm x0 n0 && okTm x1 n1 && okTm x2 n2) = false then 4 else if 0 < len then 4 else 0) := Lib.hid rfl
  generalize hb0 : okTm x0 n0 = b0 at HT R0
  generalize hb1 : okTm x1 n1 = b1 at HT R1
  generalize hb2 : okTm x2 n2 = b2 at HT R2
  clear hb0 hb1 hb2
  have B0 := Lib.hid (Blk.new w 77 (arrR ⟨k, x0, x1, x2, n0, n1, n2⟩ (.slice a len cap)))
  have K0 := Lib.hid ((Kept.refl Nil w).alloc (.cells (arrR ⟨k, x0, x1, x2, n0, n1, n2⟩ (.slice a len cap)) 77))
  have q1 : decide (k < 1) = false := decide_eq_false (by omega)
  have q3 : decide (3 < k) = false := decide_eq_false (by omega)
  go_enter Try.func46, Try.ntmps46
  go_wp2_with fail
  go_loopw [5] (fun i wr => ((i = .int .i64 0) ∨ (i = .int .i64 1 ∧ b0 = true) ∨ (i = .int .i64 2 ∧ b0 = true ∧ b1 = true) ∨ (i = .int .i64 3 ∧ b0 = true ∧ b1 = true ∧ b2 = true)) ∧ Blk wr w.heap.size 77 (arrR ⟨k, x0, x1, x2, n0, n1, n2⟩ (.slice a len cap)) ∧ Kept Nil w wr) (fun i _ => (3 - intOf i).toNat)
  case atStart => exact ⟨.inl rfl, B0.out, K0.out⟩
  case round =>
    obtain ⟨hrel, hB, hK⟩ := hrel
    have HB := Lib.hid hB
    have HK := Lib.hid hK
    have c1 := hB.cell 1
    have c2 := hB.cell 2
    have c3 := hB.cell 3
    have c4 := hB.cell 4
    have c5 := hB.cell 5
    have c6 := hB.cell 6
    have c7 := hB.cell 7
    simp at c1 c2 c3 c4 c5 c6 c7
    clear hB hK B0 K0
    rcases hrel with rfl | ⟨rfl, rfl⟩ | ⟨rfl, rfl, rfl⟩ | ⟨rfl, rfl, rfl, rfl⟩
    · go_wp2_with fail
      refine (R0.out _).mono ?_
      rintro e w2 ⟨rfl, k2⟩
      have KB := Lib.hid (HB.out.kept k2 id)
      clear c1 c2 c3 c4 c5 c6 c7
      cases b0
      · go_wp2_with fail
        go_ret
        exact ⟨by rw [HT.out]; rfl, HK.out.trans k2 (fun _ _ g => g)⟩
      · go_wp2_with fail
        go_roundw
        case rel => exact ⟨by simp, KB.out, HK.out.trans k2 (fun _ _ g => g)⟩
        case measure => decide
    · go_wp2_with fail
      refine (R1.out _).mono ?_
      rintro e w2 ⟨rfl, k2⟩
      have KB := Lib.hid (HB.out.kept k2 id)
      clear c1 c2 c3 c4 c5 c6 c7
      cases b1
      · go_wp2_with fail
        go_ret
        exact ⟨by rw [HT.out]; rfl, HK.out.trans k2 (fun _ _ g => g)⟩
      · go_wp2_with fail
        go_roundw
        case rel => exact ⟨by simp, KB.out, HK.out.trans k2 (fun _ _ g => g)⟩
        case measure => decide
    · go_wp2_with fail
      refine (R2.out _).mono ?_
      rintro e w2 ⟨rfl, k2⟩
      have KB := Lib.hid (HB.out.kept k2 id)
      clear c1 c2 c3 c4 c5 c6 c7
      cases b2
      · go_wp2_with fail
        go_ret
        exact ⟨by rw [HT.out]; rfl, HK.out.trans k2 (fun _ _ g => g)⟩
      · go_wp2_with fail
        go_roundw
        case rel => exact ⟨by simp, KB.out, HK.out.trans k2 (fun _ _ g => g)⟩
        case measure => decide
    · by_cases hl : 0 < len
      · go_wp2_with fail
        go_ret
        exact ⟨by rw [HT.out]; simp [hl], HK.out⟩
      · have hd : decide (0 < len) = false := decide_eq_false hl
        go_wp2_with fail
        go_ret
        exact ⟨by rw [HT.out]; simp [hl], HK.out⟩
theorem isV_true : isV true = 1 := rfl
theorem isV_false : isV false = 0 := rfl
set_option maxHeartbeats 2000000 in
theorem refNcc_part (x0 x1 x2 : Bool) (n0 n1 n2 : Int) (subs : List Sh) (len : Nat) (HL : Hid (subs.length = len)) (hLen : len ≤ 5000) (IH : Hid (RefCheckIH subs))
    (ok : Nat → Nat → Prop) (a : Option Addr) (cap : Nat) (w : World) (HH : Hid (Holds cR w ok (.slice a len cap) subs)) (d : Int) (hd1 : 1 ≤ d) (hd2 : d ≤ 3) :
    Calls Try.prog 46 #[vR ⟨3, x0, x1, x2, n0, n1, n2⟩ (.slice a len cap), .int .i64 d] w fun e w' => e = .returned (.int .i64 (nccT ⟨3, x0, x1, x2, n0, n1, n2⟩ subs d)) ∧ Kept Nil w w' := by
  have HT : Hid (nccT ⟨3, x0, x1, x2, n0, n1, n2⟩ subs d = if (decide (x0 = false ∧ n0 = 0) && (decide (x1 = false ∧ n1 = 0) && decide (x2 = false ∧ n2 = 0))) = false then 4 else if len = 0 then 2 else chkL subs (d + 1)) := Lib.hid (by rw [← HL.out]; unfold nccT; rw [sameT_zero])
  have B0 := Lib.hid (Blk.new w 77 (arrR ⟨3, x0, x1, x2, n0, n1, n2⟩ (.slice a len cap)))
  have K0 := Lib.hid ((Kept.refl Nil w).alloc (.cells (arrR ⟨3, x0, x1, x2, n0, n1, n2⟩ (.slice a len cap)) 77))
  have hd3 : decide (3 < d) = false := decide_eq_false (by omega)
  have v1 := isV_true
  have v0 := isV_false
  go_enter Try.func46, Try.ntmps46
  go_wp2_with fail
  go_loopw [6] (fun i wr => ((i = .int .i64 0) ∨ (i = .int .i64 1 ∧ (x0 = false ∧ n0 = 0)) ∨ (i = .int .i64 2 ∧ (x0 = false ∧ n0 = 0) ∧ (x1 = false ∧ n1 = 0)) ∨ (i = .int .i64 3 ∧ (x0 = false ∧ n0 = 0) ∧ (x1 = false ∧ n1 = 0) ∧ (x2 = false ∧ n2 = 0))) ∧ Blk wr w.heap.size 77 (arrR ⟨3, x0, x1, x2, n0, n1, n2⟩ (.slice a len cap)) ∧ Kept Nil w wr) (fun i _ => (3 - intOf i).toNat)
  case atStart => exact ⟨.inl rfl, B0.out, K0.out⟩
  case round =>
    obtain ⟨hrel, hB, hK⟩ := hrel
    have HB := Lib.hid hB
    have HK := Lib.hid hK
    have c1 := hB.cell 1
    have c2 := hB.cell 2
    have c3 := hB.cell 3
    have c4 := hB.cell 4
    have c5 := hB.cell 5
    have c6 := hB.cell 6
    have c7 := hB.cell 7
    simp only [arrR] at c1 c2 c3 c4 c5 c6 c7
    simp at c1 c2 c3 c4 c5 c6 c7
    clear hB hK B0 K0
    rcases hrel with rfl | ⟨rfl, rfl, rfl⟩ | ⟨rfl, ⟨rfl, rfl⟩, rfl, rfl⟩ | ⟨rfl, ⟨rfl, rfl⟩, ⟨rfl, rfl⟩, rfl, rfl⟩
    · cases x0
      · by_cases hn : n0 = 0
        · subst hn
          go_wp2_with fail
          go_roundw
          case rel => exact ⟨by simp, HB.out, HK.out⟩
          case measure => decide
        · have hn' : (n0 == 0) = false := by simpa using hn
          go_wp2_with fail
          go_ret
          exact ⟨by rw [HT.out]; simp [hn], HK.out⟩
      · go_wp2_with fail
        go_ret
        exact ⟨by rw [HT.out]; simp, HK.out⟩
    · cases x1
      · by_cases hn : n1 = 0
        · subst hn
          go_wp2_with fail
          go_roundw
          case rel => exact ⟨by simp, HB.out, HK.out⟩
          case measure => decide
        · have hn' : (n1 == 0) = false := by simpa using hn
          go_wp2_with fail
          go_ret
          exact ⟨by rw [HT.out]; simp [hn], HK.out⟩
      · go_wp2_with fail
        go_ret
        exact ⟨by rw [HT.out]; simp, HK.out⟩
    · cases x2
      · by_cases hn : n2 = 0
        · subst hn
          go_wp2_with fail
          go_roundw
          case rel => exact ⟨by simp, HB.out, HK.out⟩
          case measure => decide
        · have hn' : (n2 == 0) = false := by simpa using hn
          go_wp2_with fail
          go_ret
          exact ⟨by rw [HT.out]; simp [hn], HK.out⟩
      · go_wp2_with fail
        go_ret
        exact ⟨by rw [HT.out]; simp, HK.out⟩
    · clear c1 c2 c3 c4 c5 c6
      rcases Nat.eq_zero_or_pos len with rfl | hpos
      · go_wp2_with fail
        go_ret
        exact ⟨by rw [HT.out]; simp, HK.out⟩
      · have h0 : len ≠ 0 := by omega
        have h0' : ((len : Int) == 0) = false := by simp; omega
        have HT2 : Hid (nccT ⟨3, false, false, false, 0, 0, 0⟩ subs d = chkL subs (d + 1)) := Lib.hid (by rw [HT.out]; simp [h0])
        clear HT
        go_wp2_with fail
        go_loopw [62] (fun i wr => ∃ j : Nat, j ≤ len ∧ i = .int .i64 j ∧ chkL subs (d + 1) = chkL (subs.drop j) (d + 1) ∧ Kept Nil w wr) (fun i _ => len - (intOf i).toNat)
        case atStart => exact ⟨0, by omega, rfl, rfl, HK.out⟩
        case round =>
          obtain ⟨j, hj, rfl, hch, hK⟩ := hrel
          have HK := Lib.hid hK
          have HCh := Lib.hid hch
          clear hK hch c7
          by_cases hlt : j < len
          · obtain ⟨⟨⟨k', x0', x1', x2', n0', n1', n2'⟩, sb⟩, hx⟩ : ∃ x, subs[j]? = some x := ⟨_, List.getElem?_eq_getElem (by have := HL.out; omega)⟩
            obtain ⟨b, o, a', cap', rfl, hok, hr, hs⟩ := (HH.out.keptN HK.out).at_ hx
            have HX := Lib.hid (IH.out _ _ (List.mem_of_getElem? hx))
            have HR := Lib.hid hr
            have HS := Lib.hid hs
            have HN := Lib.hid (chkL_drop hx (d + 1))
            clear hx hr hs hok
            have HX2 : Hid (∀ w, Holds cR w ok (.slice a' sb.length cap') sb → Calls Try.prog 46 #[vR ⟨k', x0', x1', x2', n0', n1', n2'⟩ (.slice a' sb.length cap'), .int .i64 (d + 1)] w fun e w' => e = .returned (.int .i64 ((Sh.mk ⟨k', x0', x1', x2', n0', n1', n2'⟩ sb).chk (d + 1))) ∧ Kept Nil w w') := Lib.hid fun w h => HX.out ok a' cap' w (d + 1) (by omega) h
            clear HX
            generalize hv : (Sh.mk ⟨k', x0', x1', x2', n0', n1', n2'⟩ sb).chk (d + 1) = v at HX2 HN
            clear hv
            generalize sb.length = len' at HR HS HX2
            go_wp2_with ((with_reducible refine wpList_load_R rfl (.tmp 64) rfl _ _ rfl ⟨k', x0', x1', x2', n0', n1', n2'⟩ (.slice a' len' cap') ?_ ?_)
                         · exact HR.out)
            refine (HX2.out _ (HS.out.keptN ((Kept.refl Nil _).alloc _))).mono ?_
            rintro e w2 ⟨rfl, k2⟩
            by_cases hv : v = 0
            · subst hv
              go_wp2_with fail
              go_roundw
              case rel => exact ⟨j + 1, by omega, by go_num, by rw [HCh.out, HN.out]; simp, (HK.out.alloc _).trans k2 (fun _ _ g => g)⟩
              case measure => simp [intOf]; omega
            · have hv' : (v == 0) = false := by simpa using hv
              go_wp2_with fail
              go_ret
              exact ⟨by rw [HT2.out, HCh.out, HN.out]; simp [hv], (HK.out.alloc _).trans k2 (fun _ _ g => g)⟩
          · obtain rfl : j = len := by omega
            have HE : Hid (chkL (subs.drop j) (d + 1) = 0) := Lib.hid (by rw [← HL.out, List.drop_length]; rfl)
            go_wp2_with fail
            go_ret
            exact ⟨by rw [HT2.out, HCh.out, HE.out]; rfl, HK.out⟩
theorem refCheck_step (hd : Hd) (subs : List Sh) (hLen : subs.length ≤ 5000) (IH : Hid (RefCheckIH subs))
    (ok : Nat → Nat → Prop) (a : Option Addr) (cap : Nat) (w : World) (h : Holds cR w ok (.slice a subs.length cap) subs) (d : Int) (hd1 : 1 ≤ d) :
    Calls Try.prog 46 #[vR hd (.slice a subs.length cap), .int .i64 d] w fun e w' => e = .returned (.int .i64 ((Sh.mk hd subs).chk d)) ∧ Kept Nil w w' := by
  rw [chk_mk]
  obtain ⟨k, x0, x1, x2, n0, n1, n2⟩ := hd
  by_cases h3 : 3 < d
  · rw [if_pos h3]
    clear IH h
    generalize subs.length = len
    have K0 := Lib.hid ((Kept.refl Nil w).alloc (.cells (arrR ⟨k, x0, x1, x2, n0, n1, n2⟩ (.slice a len cap)) 77))
    go_enter Try.func46, Try.ntmps46
    go_wp2_with fail
    go_ret
    exact ⟨rfl, K0.out⟩
  · rw [if_neg h3]
    by_cases hk : k = 3
    · subst hk
      rw [if_pos rfl]
      exact refNcc_part x0 x1 x2 n0 n1 n2 subs _ rfl hLen IH ok a cap w h d hd1 (by omega)
    · rw [if_neg hk]
      by_cases hk2 : k = 1 ∨ k = 2
      · rw [if_pos hk2]
        exact refTerms_part k x0 x1 x2 n0 n1 n2 a _ cap w d (decide_eq_false h3) (by omega) (by omega)
      · rw [if_neg hk2]
        clear IH h
        generalize subs.length = len
        have K0 := Lib.hid ((Kept.refl Nil w).alloc (.cells (arrR ⟨k, x0, x1, x2, n0, n1, n2⟩ (.slice a len cap)) 77))
        have hd3 : decide (3 < d) = false := decide_eq_false h3
        by_cases hlo : k < 1
        · go_enter Try.func46, Try.ntmps46
          go_wp2_with fail
          go_ret
          exact ⟨rfl, K0.out⟩
        · have hlo' : decide (k < 1) = false := decide_eq_false hlo
          have hhi : 3 < k := by omega
          go_enter Try.func46, Try.ntmps46
          go_wp2_with fail
          go_ret
          exact ⟨rfl, K0.out⟩
theorem refCheck_any : ∀ s : Sh, s.count ≤ 5000 → ∀ ok a cap w (d : Int), 1 ≤ d → Holds cR w ok (.slice a s.subs.length cap) s.subs →
    Calls Try.prog 46 #[vR s.hd (.slice a s.subs.length cap), .int .i64 d] w fun e w' => e = .returned (.int .i64 (s.chk d)) ∧ Kept Nil w w' := by
  refine Sh.ind fun hd subs ih hc ok a cap w d h1 h => ?_
  have hc' : 1 + countL subs ≤ 5000 := by simpa [Sh.count] using hc
  have hl := length_countL subs
  exact refCheck_step hd subs (by omega) (fun hd' sb hx ok a cap w d' h1 hh => ih _ hx (by have := count_mem hx; omega) ok a cap w d' h1 hh) ok a cap w h d h1
end
section
open Go.RowKit
set_option maxRecDepth 100000

abbrev HasIH (subs : List Sh) (v : Int) : Prop := ∀ hd sb, Sh.mk hd sb ∈ subs → ∀ ok a cap w, Holds cR w ok (.slice a sb.length cap) sb →
  Calls Try.prog 79 #[vR hd (.slice a sb.length cap), .int .i64 v] w fun e w' => e = .returned (.bool ((Sh.mk hd sb).has v)) ∧ Kept Nil w w'
set_option maxHeartbeats 2000000 in
theorem refHas_step (k : Int) (x0 x1 x2 : Bool) (n0 n1 n2 : Int) (subs : List Sh) (len : Nat) (HL : Hid (subs.length = len)) (hLen : len ≤ 5000) (v : Int) (IH : Hid (HasIH subs v))
    (ok : Nat → Nat → Prop) (a : Option Addr) (cap : Nat) (w : World) (HH : Hid (Holds cR w ok (.slice a len cap) subs)) :
    Calls Try.prog 79 #[vR ⟨k, x0, x1, x2, n0, n1, n2⟩ (.slice a len cap), .int .i64 v] w fun e w' => e = .returned (.bool ((decide (k < 3) && ownN x0 x1 x2 n0 n1 n2 v) || hasL subs v)) ∧ Kept Nil w w' := by
  have B0 := Lib.hid (Blk.new w 77 (arrR ⟨k, x0, x1, x2, n0, n1, n2⟩ (.slice a len cap)))
  have K0 := Lib.hid ((Kept.refl Nil w).alloc (.cells (arrR ⟨k, x0, x1, x2, n0, n1, n2⟩ (.slice a len cap)) 77))
  have e1 := isV_true
  have e0 := isV_false
  have HO : Hid (ownN x0 x1 x2 n0 n1 n2 v = ((x0 && n0 == v) || ((x1 && n1 == v) || (x2 && n2 == v)))) := Lib.hid rfl
  go_enter Try.func79, Try.ntmps79
  go_wp2_with fail
  go_loopw [5] (fun i wr => ((i = .int .i64 0) ∨ (i = .int .i64 1 ∧ (decide (k < 3) && (x0 && n0 == v)) = false) ∨ (i = .int .i64 2 ∧ (decide (k < 3) && (x0 && n0 == v)) = false ∧ (decide (k < 3) && (x1 && n1 == v)) = false) ∨ (i = .int .i64 3 ∧ (decide (k < 3) && ownN x0 x1 x2 n0 n1 n2 v) = false)) ∧ Blk wr w.heap.size 77 (arrR ⟨k, x0, x1, x2, n0, n1, n2⟩ (.slice a len cap)) ∧ Kept Nil w wr) (fun i _ => (3 - intOf i).toNat)
  case atStart => exact ⟨.inl rfl, B0.out, K0.out⟩
  case round =>
    obtain ⟨hrel, hB, hK⟩ := hrel
    have HB := Lib.hid hB
    have HK := Lib.hid hK
    have c0 := hB.cell 0
    have c1 := hB.cell 1
    have c2 := hB.cell 2
    have c3 := hB.cell 3
    have c4 := hB.cell 4
    have c5 := hB.cell 5
    have c6 := hB.cell 6
    have c7 := hB.cell 7
    simp only [arrR] at c0 c1 c2 c3 c4 c5 c6 c7
    simp at c0 c1 c2 c3 c4 c5 c6 c7
    clear hB hK B0 K0
    rcases hrel with rfl | ⟨rfl, h0⟩ | ⟨rfl, h0, h1⟩ | ⟨rfl, h0⟩
    · by_cases hk : k < 3
      · cases x0
        · have Q : Hid ((decide (k < 3) && (false && n0 == v)) = false) := Lib.hid (by simp)
          go_wp2_with fail
          go_roundw
          case rel => exact ⟨.inr (.inl ⟨rfl, Q.out⟩), HB.out, HK.out⟩
          case measure => decide
        · by_cases hn : n0 = v
          · subst hn
            go_wp2_with fail
            go_ret
            exact ⟨by rw [HO.out]; simp [hk], HK.out⟩
          · have hn' : (n0 == v) = false := by simpa using hn
            have Q : Hid ((decide (k < 3) && (true && n0 == v)) = false) := Lib.hid (by rw [hn']; simp)
            clear hn
            go_wp2_with fail
            go_roundw
            case rel => exact ⟨.inr (.inl ⟨rfl, Q.out⟩), HB.out, HK.out⟩
            case measure => decide
      · have hk' : decide (k < 3) = false := decide_eq_false hk
        have Q : Hid ((decide (k < 3) && (x0 && n0 == v)) = false) := Lib.hid (by rw [hk']; rfl)
        clear hk
        go_wp2_with fail
        go_roundw
        case rel => exact ⟨.inr (.inl ⟨rfl, Q.out⟩), HB.out, HK.out⟩
        case measure => decide
    · have P0 := Lib.hid h0
      clear h0
      by_cases hk : k < 3
      · cases x1
        · have Q : Hid ((decide (k < 3) && (false && n1 == v)) = false) := Lib.hid (by simp)
          go_wp2_with fail
          go_roundw
          case rel => exact ⟨.inr (.inr (.inl ⟨rfl, P0.out, Q.out⟩)), HB.out, HK.out⟩
          case measure => decide
        · by_cases hn : n1 = v
          · subst hn
            go_wp2_with fail
            go_ret
            exact ⟨by rw [HO.out]; simp [hk], HK.out⟩
          · have hn' : (n1 == v) = false := by simpa using hn
            have Q : Hid ((decide (k < 3) && (true && n1 == v)) = false) := Lib.hid (by rw [hn']; simp)
            clear hn
            go_wp2_with fail
            go_roundw
            case rel => exact ⟨.inr (.inr (.inl ⟨rfl, P0.out, Q.out⟩)), HB.out, HK.out⟩
            case measure => decide
      · have hk' : decide (k < 3) = false := decide_eq_false hk
        have Q : Hid ((decide (k < 3) && (x1 && n1 == v)) = false) := Lib.hid (by rw [hk']; rfl)
        clear hk
        go_wp2_with fail
        go_roundw
        case rel => exact ⟨.inr (.inr (.inl ⟨rfl, P0.out, Q.out⟩)), HB.out, HK.out⟩
        case measure => decide
    · have P0 := Lib.hid h0
      clear h0
      have P1 := Lib.hid h1
      clear h1
      by_cases hk : k < 3
      · cases x2
        · have Q : Hid ((decide (k < 3) && (false && n2 == v)) = false) := Lib.hid (by simp)
          go_wp2_with fail
          go_roundw
          case rel => exact ⟨.inr (.inr (.inr ⟨rfl, by rw [HO.out, Bool.and_or_distrib_left, Bool.and_or_distrib_left, P0.out, P1.out, show (decide (k < 3) && (false && n2 == v)) = false from Q.out]; rfl⟩)), HB.out, HK.out⟩
          case measure => decide
        · by_cases hn : n2 = v
          · subst hn
            go_wp2_with fail
            go_ret
            exact ⟨by rw [HO.out]; simp [hk], HK.out⟩
          · have hn' : (n2 == v) = false := by simpa using hn
            have Q : Hid ((decide (k < 3) && (true && n2 == v)) = false) := Lib.hid (by rw [hn']; simp)
            clear hn
            go_wp2_with fail
            go_roundw
            case rel => exact ⟨.inr (.inr (.inr ⟨rfl, by rw [HO.out, Bool.and_or_distrib_left, Bool.and_or_distrib_left, P0.out, P1.out, show (decide (k < 3) && (true && n2 == v)) = false from Q.out]; rfl⟩)), HB.out, HK.out⟩
            case measure => decide
      · have hk' : decide (k < 3) = false := decide_eq_false hk
        have Q : Hid ((decide (k < 3) && (x2 && n2 == v)) = false) := Lib.hid (by rw [hk']; rfl)
        clear hk
        go_wp2_with fail
        go_roundw
        case rel => exact ⟨.inr (.inr (.inr ⟨rfl, by rw [HO.out, Bool.and_or_distrib_left, Bool.and_or_distrib_left, P0.out, P1.out, show (decide (k < 3) && (x2 && n2 == v)) = false from Q.out]; rfl⟩)), HB.out, HK.out⟩
        case measure => decide
    · have HE := Lib.hid h0
      clear h0 c0 c1 c2 c3 c4 c5 c6
      go_wp2_with fail
      go_loopw [35] (fun i wr => ∃ j : Nat, j ≤ len ∧ i = .int .i64 j ∧ hasL subs v = hasL (subs.drop j) v ∧ Kept Nil w wr) (fun i _ => len - (intOf i).toNat)
      case atStart => exact ⟨0, by omega, rfl, rfl, HK.out⟩
      case round =>
        obtain ⟨j, hj, rfl, hch, hK⟩ := hrel
        have HK := Lib.hid hK
        have HCh := Lib.hid hch
        clear hK hch c7
        by_cases hlt : j < len
        · obtain ⟨⟨⟨k', x0', x1', x2', n0', n1', n2'⟩, sb⟩, hx⟩ : ∃ x, subs[j]? = some x := ⟨_, List.getElem?_eq_getElem (by have := HL.out; omega)⟩
          obtain ⟨b, o, a', cap', rfl, hok, hr, hs⟩ := (HH.out.keptN HK.out).at_ hx
          have HX := Lib.hid (IH.out _ _ (List.mem_of_getElem? hx))
          have HR := Lib.hid hr
          have HS := Lib.hid hs
          have HN := Lib.hid (hasL_drop hx v)
          clear hx hr hs hok
          generalize (Sh.mk ⟨k', x0', x1', x2', n0', n1', n2'⟩ sb).has v = q at HX HN
          generalize sb.length = len' at HR HS HX
          go_wp2_with ((with_reducible refine wpList_load_R rfl (.tmp 37) rfl _ _ rfl ⟨k', x0', x1', x2', n0', n1', n2'⟩ (.slice a' len' cap') ?_ ?_)
                       · exact HR.out)
          refine (HX.out _ _ _ _ (HS.out.keptN ((Kept.refl Nil _).alloc _))).mono ?_
          rintro e w2 ⟨rfl, k2⟩
          cases q
          · go_wp2_with fail
            go_roundw
            case rel => exact ⟨j + 1, by omega, by go_num, by rw [HCh.out, HN.out]; rfl, (HK.out.alloc _).trans k2 (fun _ _ g => g)⟩
            case measure => simp [intOf]; omega
          · go_wp2_with fail
            go_ret
            exact ⟨by rw [HE.out, HCh.out, HN.out]; rfl, (HK.out.alloc _).trans k2 (fun _ _ g => g)⟩
        · obtain rfl : j = len := by omega
          have HE2 : Hid (hasL (subs.drop j) v = false) := Lib.hid (by rw [← HL.out, List.drop_length]; rfl)
          go_wp2_with fail
          go_ret
          exact ⟨by rw [HE.out, HCh.out, HE2.out]; rfl, HK.out⟩
theorem refHas_any : ∀ s : Sh, s.count ≤ 5000 → ∀ (v : Int), ∀ ok a cap w, Holds cR w ok (.slice a s.subs.length cap) s.subs →
    Calls Try.prog 79 #[vR s.hd (.slice a s.subs.length cap), .int .i64 v] w fun e w' => e = .returned (.bool (s.has v)) ∧ Kept Nil w w' := by
  refine Sh.ind fun hd subs ih hc v ok a cap w h => ?_
  have hc' : 1 + countL subs ≤ 5000 := by simpa [Sh.count] using hc
  have hl := length_countL subs
  rw [has_mk]
  exact refHas_step hd.k hd.x0 hd.x1 hd.x2 hd.n0 hd.n1 hd.n2 subs _ rfl (by omega) v (fun hd' sb hx => ih _ hx (by have := count_mem hx; omega) v) ok a cap w h
end
end Go.Proofs.Ytiihjlafhiaigaa
