/- A range over a function whose iterator is told, by the loop's own invariant, in which state the rounds have left what it reads; and whose body is told that it is handed the right thing. After the library's laws for ranges over functions, whose contracts say neither. No program. – Layer trie: slices.Backward at numbers. – Layer trie: what stays while the program's Remove ranges over a function. – Layer trie: the program's Remove of a list that is there. – Layer trie: the document's example, its numbers. No program. -/
import Derived.Test.YtodghgeghpbdlaaA1
import Derived.RangeFuncNested
import Derived.RangeFuncBound
import Derived.RangeFuncCalls
import Derived.RangeFuncLeaves
import Derived.Test.YtodghgeghpbdlaaA16
import Derived.Shelf.Abstract
import Derived.Shelf.RegionOpen
import Derived.WalkKit
import Derived.OwnWalkIn
import Derived.TacticsInMore
import Derived.LoopNIn
import Derived.LoopIn
import Derived.Test.YtodghgeghpbdlaaA15
import Derived.BigRegionIn
import Derived.Sort.CutIn
namespace Go.Proofs.Ytodghgeghpbdlaa
section
open Go.RowKit
set_option maxRecDepth 100000

/-- What an iterator promises: where each round's invariant J says Kn, it hands each round what is right (Ok), and ends with S, or where a round said 'no more'. -/
def SeqTold {α : Type} (F : Fence) (n : Nat) (P : Program) (g : Nat) (lb : Array Value) (encs : α → Array Value) (Kn : List α → World → Prop) (Ok : List α → α → Prop) (S : List α → Prop) (w : World) : Prop :=
  ∀ (l : Nat) (J Jx : List α → World → Prop) (W : World), Below w.heap.size w W → AbidesFrom W.heap.size J → AbidesFrom W.heap.size Jx → (∀ pre V, J pre V → Kn pre V) →
    (∀ pre x V, J pre V → Ok pre x → YieldAt F (n - 1) P l (encs x) V fun e V' => (e = .returned (.bool true) ∧ J (pre ++ [x]) V') ∨ (e = .returned (.bool false) ∧ Jx (pre ++ [x]) V')) →
    J [] W →
    CallsIn F n P g (#[.func (.yield l) #[] #[]] ++ lb) W fun e W' => (∃ v, e = .returned v) ∧ ((∃ xs, S xs ∧ J xs W') ∨ (∃ pre, Jx pre W'))

section
variable {F : Fence} {n : Nat} {P : Program} {α : Type} {a : Act} {w : World} {ps : Array Tmp} {assign body : Code} {fn : FuncId}
/-- The loop's record, in each of its states. -/
def recAt (a : Act) (w : World) (fn : FuncId) (ps : Array Tmp) (assign body : Code) (st : LoopState) (pe : Option Code) : Loop :=
  { state := st, pending := pe, fn, tmps := a.tmps, params := ps, assign, body, defers := w.heap.size }
/-- The two blocks of the loop's book-keeping. -/
structure Books (a : Act) (w : World) (fn : FuncId) (ps : Array Tmp) (assign body : Code) (st : LoopState) (pe : Option Code) (W : World) : Prop where
  loop : W.heap[w.heap.size + 1]? = some (.loop (recAt a w fn ps assign body st pe))
  calls : W.heap[w.heap.size]? = some (.deferred (some []))
theorem Books.turn {st st' : LoopState} {pe pe' : Option Code} {W : World} (h : Books a w fn ps assign body st pe W) : Books a w fn ps assign body st' pe' (W.putObj (w.heap.size + 1) (.loop (recAt a w fn ps assign body st' pe'))) :=
  ⟨World.putObj_heap_same (Array.getElem?_eq_some_iff.1 h.loop).1, (World.putObj_heap_other (by omega)).trans h.calls⟩
theorem Books.walks {st : LoopState} {pe : Option Code} {A B : World} {row : Option Nat} (h : Books a w fn ps assign body st pe A) (hg : A.grownBy B row) (hr : ∀ r, row = some r → ∃ o : Obj, A.heap[r]? = some o ∧ o.isWalk = true) : Books a w fn ps assign body st pe B :=
  ⟨(grownBy_keeps hg hr h.loop rfl).trans h.loop, (grownBy_keeps hg hr h.calls rfl).trans h.calls⟩
theorem Books.keeps {st : LoopState} {pe : Option Code} {A B : World} (h : Books a w fn ps assign body st pe A) (hk : KeepsFrom w.heap.size A B) : Books a w fn ps assign body st pe B :=
  ⟨hk.same _ _ (by omega) h.loop rfl, hk.same _ _ (Nat.le_refl _) h.calls rfl⟩

/-- How a body may be left. -/
abbrev toldPost (B : Nat) (I : List α → World → Prop) (Ix : Code → List α → World → Prop) (xs : List α) (W : World) : Exit → Act → World → Prop := ownPostG B (fun _ _ => True) I Ix xs W

theorem wpIn_rangeFunc_told {g : Operand} {Q : Exit → Act → World → Prop} (hro : F.round = none) (h1 : 1 ≤ n) {gf : Nat} {lb : Array Value} (hg : a.eval g = .func (.func gf) #[] lb) (hFg : F.fn gf) (eg : ∀ args w, (callFunc gf args).run P w = .ok (.enter gf args) w)
    {encs : α → Array Value} {Kn : List α → World → Prop} {Ok : List α → α → Prop} {S : List α → Prop} {w0 : World} (hseq : SeqTold F (n - 1) P gf lb encs Kn Ok S w0) (hb0 : Below w0.heap.size w0 w) (hps : ∀ x, (encs x).size = ps.size)
    (I : List α → World → Prop) (Ix : Code → List α → World → Prop) (hI : OwnFrom w.heap.size I) (hIx : ∀ c, OwnFrom w.heap.size (Ix c)) (hKn : ∀ pre V, I pre V → Kn pre V) (h0 : I [] w) (a₁ : α → Act)
    (hassign : ∀ (l : Nat) (x : α) (W : World) (K : Act → World → Prop), K (a₁ x) W → assign.wpIn (F.inRound l) (n - 1 - 1) P (Exit.then K (fun _ _ _ => False)) { tmps := (ps.zip (encs x)).foldl (fun t (p, v) => t.setIfInBounds p v) a.tmps, defers := [] } W)
    (hbody : ∀ (l : Nat) (pre : List α) (x : α) (W : World), I pre W → Ok pre x → body.wpIn (F.inRound l) (n - 1 - 1) P (toldPost w.heap.size I Ix (pre ++ [x]) W) (a₁ x) W)
    (hdone : ∀ (D : Nat) (xs : List α) (W : World), w.heap.size ≤ D → S xs → I xs W → W.heap[D]? = some (.deferred (some [])) → Q .normal { a with defers := { target := .collected D, args := #[] } :: a.defers } W)
    (hstop : ∀ (D : Nat) (c : Code) (pre : List α) (W : World), w.heap.size ≤ D → Ix c pre W → W.heap[D]? = some (.deferred (some [])) → c.wpIn F n P Q { a with defers := { target := .collected D, args := #[] } :: a.defers } W) :
    (Code.rangeFunc g ps assign body).wpIn F n P Q a w := by
  refine wpIn_rangeFunc fun fn hfn => ?_
  rw [hro]
  obtain ⟨W1, hW1⟩ : ∃ W1, (w.alloc (.deferred (some []))).alloc (.loop (recAt a w fn ps assign body .ready none)) = W1 := ⟨_, rfl⟩
  have hs1 : W1.heap.size = w.heap.size + 2 := by rw [← hW1]; simp
  have B1 : Books a w fn ps assign body .ready none W1 := by
    subst hW1
    refine ⟨?_, (Below.heap_alloc _ _ _ (by simp)).trans (World.alloc_heap_new w _)⟩
    have := World.alloc_heap_new (w.alloc (.deferred (some []))) (.loop (recAt a w fn ps assign body .ready none))
    rwa [World.size_alloc] at this
  have I1 : I [] W1 := by rw [← hW1]; exact hI.alloc _ (hI.alloc _ h0)
  have hb1 : Below w0.heap.size w0 W1 := by
    rw [← hW1]; exact hb0.trans ((((Below.refl _ w).alloc (Nat.le_refl _) _).alloc (by simp) _).mono hb0.size)
  have cells : ∀ {A : World} {row : Option Nat}, (∀ r, row = some r → W1.heap.size ≤ r ∧ ∃ o : Obj, A.heap[r]? = some o ∧ o.isWalk = true) → ∀ r, row = some r → w.heap.size ≤ r ∧ ∃ o : Obj, A.heap[r]? = some o ∧ o.isCells = false := fun hr r e => by
    obtain ⟨hB, o, ho, hw⟩ := hr r e
    exact ⟨by omega, o, ho, Obj.not_cells_of_walk hw⟩
  refine ⟨w.heap.size + 1, [{ target := .collected w.heap.size, args := #[] }], W1, { target := .fn (.func gf) lb, args := #[.func (.yield (w.heap.size + 1)) #[] #[]] }, W1, gf,
    #[.func (.yield (w.heap.size + 1)) #[] #[]] ++ lb, W1, ?_, ?_, ?_, ?_, fun _ => h1, ?_⟩
  · rw [← hW1]; exact run_enterLoop_outer _ _ _ _ _
  · simp only [resolve, hg]; simp [go_sem]
  · intro f' hf'; simp [Target.leads] at hf'; subst hf'; exact hFg
  · simp [invoke, go_sem, eg]
  refine (hseq (w.heap.size + 1) (fun pre W => I pre W ∧ Books a w fn ps assign body .ready none W) (fun pre W => ∃ c, Ix c pre W ∧ Books a w fn ps assign body .done (some c) W) W1 hb1
    (fun s A B row hs hg' hr => ⟨hI s A B row hs.1 hg' (cells hr), hs.2.walks hg' (fun r e => (hr r e).2)⟩)
    (fun s A B row ⟨c, hc, hb⟩ hg' hr => ⟨c, hIx c s A B row hc hg' (cells hr), hb.walks hg' (fun r e => (hr r e).2)⟩)
    (fun pre V h => hKn pre V h.1) (fun pre x W ⟨hi, hb⟩ hok => ?_) ⟨I1, B1⟩).mono ?_
  · -- a round
    have hy := run_yield (P := P) (args := encs x) hb.loop (hps x)
    refine ⟨fn, _, assign, body, hy, roundIn_of_wpIn hfn (hassign _ x W _ ⟨_, run_beginRound hb.loop rfl, ?_⟩)⟩
    have hb2 : Books a w fn ps assign body .busy none (W.putObj (w.heap.size + 1) (.loop (recAt a w fn ps assign body .busy none))) := hb.turn
    refine wpIn_mono (hbody _ pre x _ (hI.putObj _ hi (by omega) hb.loop rfl) hok) ?_
    have fin : ∀ (jump : Option Code) (V : World), KeepsFrom w.heap.size (W.putObj (w.heap.size + 1) (.loop (recAt a w fn ps assign body .busy none))) V →
        (Instr.endRound (w.heap.size + 1) jump).run P V = .ok (.bool jump.isNone) (V.putObj (w.heap.size + 1) (.loop (recAt a w fn ps assign body (if jump.isNone then .ready else .done) jump))) ∧
        V.heap[w.heap.size + 1]? = some (.loop (recAt a w fn ps assign body .busy none)) ∧
        Books a w fn ps assign body (if jump.isNone then .ready else .done) jump (V.putObj (w.heap.size + 1) (.loop (recAt a w fn ps assign body (if jump.isNone then .ready else .done) jump))) := fun jump V hk =>
      ⟨run_endRound (P := P) jump (hb2.keeps hk).loop, (hb2.keeps hk).loop, (hb2.keeps hk).turn⟩
    rintro e a3 V hp
    cases e with
    | normal =>
      obtain ⟨hr, hl, hbk⟩ := fin none V hp.1
      exact ⟨_, _, hr, .inl ⟨rfl, hI.putObj _ hp.2.2 (by omega) hl rfl, hbk⟩⟩
    | ret =>
      obtain ⟨hr, hl, hbk⟩ := fin (some .ret) V hp.1
      exact ⟨_, _, hr, .inr ⟨rfl, .ret, (hIx _).putObj _ hp.2 (by omega) hl rfl, hbk⟩⟩
    | exit id =>
      obtain ⟨hr, hl, hbk⟩ := fin (some (.exit id)) V hp.1
      exact ⟨_, _, hr, .inr ⟨rfl, .exit id, (hIx _).putObj _ hp.2 (by omega) hl rfl, hbk⟩⟩
    | goto t =>
      obtain ⟨hr, hl, hbk⟩ := fin (some (.goto t)) V hp.1
      exact ⟨_, _, hr, .inr ⟨rfl, .goto t, (hIx _).putObj _ hp.2 (by omega) hl rfl, hbk⟩⟩
    | panic ch => exact hp.elim
    | outgrown => exact hp.elim
  · -- behind the iterator
    rintro e W2 ⟨⟨v, rfl⟩, (⟨xs, hS, hi, hb⟩ | ⟨pre, c, hi, hb⟩)⟩
    · exact ⟨none, _, run_endLoop (P := P) hb.loop (by simp [recAt]), hdone _ xs _ (Nat.le_refl _) hS (hI.putObj _ hi (by omega) hb.loop rfl) ((World.putObj_heap_other (by omega)).trans hb.calls)⟩
    · exact ⟨some c, _, run_endLoop (P := P) hb.loop (by simp [recAt]), hstop _ c pre _ (Nat.le_refl _) ((hIx c).putObj _ hi (by omega) hb.loop rfl) ((World.putObj_heap_other (by omega)).trans hb.calls)⟩
end
end
section
open Go.RowKit Go.Maps Go.Shelf
attribute [local go_sem] Oper.semAt_some
set_option maxRecDepth 100000

theorem back_any {w : World} (a : Option Addr) (n cap : Nat) :
    Calls Try.prog 67 #[.slice a n cap] w fun e w' => e = .returned (.func (.func 104) #[] #[.pointer (some ⟨w.heap.size, 0, none⟩)]) ∧ w' = w.alloc (.cells #[.slice a n cap] 28) := by
  go_enter Try.func67, Try.ntmps67
  go_wp2
  go_ret
  exact ⟨rfl, rfl⟩
def encB (x : Nat × Nat) : Array Value := #[.int .i64 (x.1 : Int), .int .i64 (x.2 : Int)]
section
variable (B bc : Nat) (a : Option Addr) (n cap : Nat) (ids : List Nat)
def KnB (_ : List (Nat × Nat)) (V : World) : Prop := Blk V bc 28 #[.slice a n cap] ∧ Row cNt 3 1 V B (.slice a n cap) ids
def OkB (pre : List (Nat × Nat)) (x : Nat × Nat) : Prop := n = pre.length + 1 + x.1 ∧ ids[x.1]? = some x.2
def EndB (xs : List (Nat × Nat)) : Prop := xs.length = n

set_option maxHeartbeats 4000000 in
theorem back_told (hn : n ≤ 1000) (k : Nat) (w : World) :
    SeqTold Fence.wide k Try.prog 104 #[.pointer (some ⟨bc, 0, none⟩)] encB (KnB B bc a n cap ids) (OkB n ids) (EndB n) w := by
  intro l J Jx W hW hJ hJx hKn hY h0
  refine callsIn_of_wp Try.func104 rfl trivial ?_ rfl
  have hk := hKn _ _ h0
  have q0 := hk.1.cell 0
  have hnl := hk.2.caps.1
  have HNL := Lib.hid hnl
  simp only [List.getElem?_toArray, List.getElem?_cons_zero] at q0
  simp only [Try.ntmps104, List.size_toArray, List.length_cons, List.length_nil, Nat.reduceAdd, Nat.reduceSub, Array.replicate_succ, Array.replicate_zero, List.push_toArray, List.append_toArray, List.nil_append, List.cons_append]
  have H0 := Lib.hid h0
  clear hk hnl h0
  gi_wp2
  gi_loopw [3] (fun hv wr => ∃ pre : List (Nat × Nat), pre.length ≤ n ∧ hv = .int .i64 ((n : Int) - 1 - (pre.length : Int)) ∧ J pre wr) (fun hv _ => (intOf hv + 1).toNat)
  case atStart => exact ⟨[], Nat.zero_le _, by simp, H0.out⟩
  case round =>
    obtain ⟨pre, hle, rfl, hj⟩ := hrel
    have HJ := Lib.hid hj
    by_cases hlt : pre.length < n
    · obtain ⟨j, hj2⟩ : ∃ j, n = pre.length + 1 + j := ⟨n - 1 - pre.length, by omega⟩
      have hij : (n : Int) - 1 - (pre.length : Int) = (j : Int) := by omega
      rw [hij]
      obtain ⟨id, hid⟩ : ∃ id, ids[j]? = some id := ⟨ids[j]'(by have := HNL.out; omega), List.getElem?_eq_getElem _⟩
      obtain ⟨b, rfl, hb, _, hc⟩ := (hKn _ _ hj).2.get (fun _ => rfl) (by omega) hid
      have q1 := (hKn _ _ hj).1.cell 0
      have q2 := hc 0 (.int .i64 (id : Int)) rfl
      simp only [List.getElem?_toArray, List.getElem?_cons_zero, Nat.mul_one, Nat.add_zero] at q1 q2
      have hjn : j < n := by omega
      have hge : decide ((0 : Int) ≤ (j : Int)) = true := by simp
      have HJ2 := Lib.hid hj2
      have HID := Lib.hid hid
      have HIJ := Lib.hid hij
      clear hj hlt hij hj2 hid hc
      obtain ⟨fn, tmps, assign, body, hy, hR⟩ := hY pre (j, id) wr HJ.out ⟨HJ2.out, HID.out⟩
      dsimp only [encB] at hy
      have HR := Lib.hid hR
      clear hR
      gi_wp2
      refine ⟨fun h => (by cases h), HR.out.mono ?_⟩
      rintro e V3 (⟨rfl, hj3⟩ | ⟨rfl, hx3⟩)
      · have HJ3 := Lib.hid hj3
        clear hj3
        gi_wp2
        go_roundw
        case rel => exact ⟨pre ++ [(j, id)], by have := HJ2.out; simp; omega, by have := HJ2.out; simp; omega, HJ3.out⟩
        case measure => simp [intOf]
      · have HX3 := Lib.hid hx3
        clear hx3
        gi_wp2
        refine bodyPost_ret (results_none rfl _ _ _) rfl ?_
        exact ⟨⟨_, rfl⟩, .inr ⟨_, HX3.out⟩⟩
    · have e : (n : Int) - 1 - (pre.length : Int) = -1 := by omega
      have HE := Lib.hid (show pre.length = n by omega)
      rw [e]
      clear hj hlt hle e
      gi_wp2
      go_end0
      exact ⟨⟨_, rfl⟩, .inl ⟨pre, HE.out, HJ.out⟩⟩
end
end
section
open Go.RowKit Go.Maps Go.WideMaps
set_option maxRecDepth 100000

/-- The loop's own book-keeping turns nothing that cells are. -/
theorem kept_of_row {W W' : World} {row : Option Nat} (hg : W.grownBy W' row) : Kept (fun k => row = some k) W W' := ⟨hg.os, hg.tape, hg.output, hg.size, fun k hk hF => hg.block k hk (fun e => hF e.symm)⟩
theorem not_row {B0 : Nat} {W : World} {row : Option Nat} (hr : ∀ r, row = some r → B0 ≤ r ∧ ∃ o : Obj, W.heap[r]? = some o ∧ o.isCells = false) {b : Nat} {t : TypeId} {cs : Array Value} (hb : Blk W b t cs) : ¬ row = some b := by
  intro e
  obtain ⟨_, o, ho, hc⟩ := hr b e
  unfold Blk at hb
  rw [hb] at ho
  cases ho; cases hc
theorem Blk.isC {w : World} {b : Nat} {t : TypeId} {cs : Array Value} (h : Blk w b t cs) : isC w b := ⟨cs, t, by unfold Blk at h; exact h⟩
theorem Row.isCb {α : Type} {cells : α → List Value} {e : TypeId} {size : Nat} {w : World} {B : Nat} {l : List α} {v : Value} (h : Row cells e size w B v l) {b : Nat} (hb : v.ownBlock = some b) : isC w b := by
  rcases h.2 with ⟨e1, _⟩ | ⟨g, c, cur, e1, _, hg, _⟩
  · subst e1; cases hb
  · subst e1
    have : b = g := by simpa [Value.ownBlock] using hb.symm
    subst this
    exact Blk.isC hg
section
variable {w w' : World} {c c' : Nat → Nat} {p m bn bs : Nat} {nd : Nat → Option Nd} {nm : Sp → Option Nat} {nv : Nat → Option Nv} {F : Nat → Prop} {es : En} {U E : Nat → Int}
theorem NodeR.keptC {k : Nat} {d : Nd} {v : Nv} (h : NodeR w c k d v) (hk : Kept F w w') (hF : ∀ b, F b → ¬ isC w b) : NodeR w' c k d v :=
  ⟨h.sp, h.li, h.us, h.kr.keptF hk (fun b e f => hF b f (h.kr.isCb e)), h.or.keptF hk (fun b e f => hF b f (h.or.isCb e)), h.kc, h.oc⟩
theorem Trx.keptC (h : Trx w c p nd nm m bn bs nv) (hk : Kept F w w') (hF : ∀ b, F b → (c b = 0 ∨ 4 ≤ c b) ∧ ¬ isC w b) : Trx w' c p nd nm m bn bs nv := by
  refine ⟨fun b e => Nat.lt_of_lt_of_le (h.low b e) hk.size, h.cp, h.cn, h.cs, h.blk.kept hk (fun e => by have := (hF _ e).1; rw [h.cp] at this; omega), h.mn.kept hk (fun e => by have := (hF _ e).1; rw [h.cn] at this; omega), h.ms.kept hk (fun e => by have := (hF _ e).1; rw [h.cs] at this; omega), fun k => ?_, h.le⟩
  rcases h.rows k with e | ⟨d, v, e1, e2, e3⟩
  · exact .inl e
  · exact .inr ⟨d, v, e1, e2, e3.keptC hk (fun b e => (hF b e).2)⟩
theorem TE.keptC (h : TE w c p es U E) (hk : Kept F w w') (hF : ∀ b, F b → (c b = 0 ∨ 4 ≤ c b) ∧ ¬ isC w b) : TE w' c p es U E := by
  obtain ⟨nm, h1, bn, bs, nv, h2⟩ := h.ex
  exact ⟨h.ok, nm, h1, bn, bs, nv, h2.keptC hk hF⟩
theorem TEG.own {wB : World} {c0 : Nat → Nat} (h : TEG wB w c0 p es U E c) {row : Option Nat} (hg : w.grownBy w' row) (hr : ∀ r, row = some r → wB.heap.size ≤ r ∧ ∃ o : Obj, w.heap[r]? = some o ∧ o.isCells = false) : TEG wB w' c0 p es U E c := by
  have kk := kept_of_row hg
  refine ⟨h.te.keptC kk (fun b e => ?_), h.kept.trans kk (fun i hi e => by have := (hr i e).1; omega), h.old, h.new⟩
  obtain ⟨h1, o, ho, hc⟩ := hr b e
  refine ⟨h.new b h1, ?_⟩
  rintro ⟨cs, t, e2⟩
  rw [e2] at ho; cases ho; cases hc
theorem TEG.keeps {wB w1 : World} {c0 c1 : Nat → Nat} {es1 : En} {U1 E1 : Nat → Int} (h : TEG wB w c0 p es U E c) (k : TEG w w1 c p es1 U1 E1 c1) : KeepsFrom wB.heap.size w w1 := by
  refine ⟨k.kept.size, fun j o hj ho hc => (k.kept.block j (Array.getElem?_eq_some_iff.1 ho).1 (fun hf => ?_)).trans ho⟩
  rcases hf.2 with e | ⟨cs, t, e⟩
  · have := h.new j hj
    have := hf.1
    omega
  · rw [e] at ho; cases ho; cases hc
theorem Kept.keeps {B : Nat} {G : Nat → Prop} (h : Kept G w w') (hG : ∀ b, G b → isC w b) : KeepsFrom B w w' :=
  ⟨h.size, fun j o hj ho hc => (h.block j (Array.getElem?_eq_some_iff.1 ho).1 (fun hf => by
    obtain ⟨cs, t, e⟩ := hG j hf
    rw [e] at ho; cases ho; cases hc)).trans ho⟩
end
/-- How often lists are like a number's chain. -/
def liE (es : En) (E : Nat → Int) (n : Nat) : Int := match ent es n with
  | none => 0
  | some _ => E n
/-- What a round knows: the trie, the row of those that are out, the variables that it reads. -/
structure RemS (wB : World) (B0 : Nat) (cB : Nat → Nat) (p b2 b7 bs : Nat) (l : List St) (es : En) (E : Nat → Int) (s : Value) (B1 : Nat) (W : World) (c2 : Nat → Nat) (es2 : En) (U2 : Nat → Int) (out : List Nat) (a : Option Addr) (n cap : Nat) : Prop where
  t : TEG wB W cB p es2 U2 E c2
  k7 : Blk W b7 28 #[.slice a n cap]
  row : Row cNt 3 1 W B0 (.slice a n cap) out
  own : ∀ b, (Value.slice a n cap).ownBlock = some b → c2 b = 0
  tr : Blk W b2 24 #[.pointer (some ⟨p, 0, none⟩)]
  sl : Blk W bs 28 #[s]
  ids : Row cNt 3 1 W B1 s (idsE es l)
  z : c2 b2 = 0 ∧ c2 b7 = 0 ∧ c2 bs = 0 ∧ ∀ b, s.ownBlock = some b → c2 b = 0
/-- What stands between two rounds of Remove's range. -/
structure RemV (wB : World) (B0 : Nat) (cB : Nat → Nat) (p b2 b7 bs : Nat) (ls : List (List St)) (l : List St) (es : En) (U E : Nat → Int) (L : Nat) (s : Value) (B1 : Nat) (pre : List (Nat × Nat)) (W : World) : Prop where
  le : pre.length ≤ L
  ex : ∃ c2 es2 U2 out a n cap, RemS wB B0 cB p b2 b7 bs l es E s B1 W c2 es2 U2 out a n cap ∧ RemI ls l es U (([] :: chSL l []).drop (L - pre.length)) es2 U2 out
section
variable {wB W W1 : World} {B0 : Nat} {cB c2 c3 : Nat → Nat} {p b2 b7 bs B1 n cap L : Nat} {s : Value} {es es2 es3 : En} {U E U2 U3 : Nat → Int} {out : List Nat} {a : Option Addr} {ls : List (List St)} {l : List St}
theorem RemV.own (hB : wB.heap.size ≤ B0) : OwnFrom B0 (RemV wB B0 cB p b2 b7 bs ls l es U E L s B1) := by
  intro pre W W' row h hg hr
  have kk := kept_of_row hg
  obtain ⟨c2, es2, U2, out, a, n, cap, S, r⟩ := h.ex
  have noC : ∀ {x : Nat}, isC W x → ¬ row = some x := fun hx e => by
    obtain ⟨_, o, ho, hc⟩ := hr _ e
    obtain ⟨cs, t, e2⟩ := hx
    rw [e2] at ho; cases ho; cases hc
  exact ⟨h.le, ⟨c2, es2, U2, out, a, n, cap, ⟨S.t.own hg (fun r e => ⟨Nat.le_trans hB (hr r e).1, (hr r e).2⟩), S.k7.kept kk (not_row hr S.k7), S.row.keptF kk (fun x e f => noC (S.row.isCb e) f), S.own, S.tr.kept kk (not_row hr S.tr), S.sl.kept kk (not_row hr S.sl), S.ids.keptF kk (fun x e f => noC (S.ids.isCb e) f), S.z⟩, r⟩⟩
theorem RemS.step (h : RemS wB B0 cB p b2 b7 bs l es E s B1 W c2 es2 U2 out a n cap) (k : TEG W W1 c2 p es3 U3 E c3) : RemS wB B0 cB p b2 b7 bs l es E s B1 W1 c3 es3 U3 out a n cap := by
  have lt : ∀ {b}, isC W b → b < W.heap.size := fun hx => by
    obtain ⟨cs, t, e2⟩ := hx
    exact (Array.getElem?_eq_some_iff.1 e2).1
  exact ⟨h.t.trans k, h.k7.kept k.kept (fun e => e.1 h.z.2.1), h.row.keptF k.kept (fun b e f => f.1 (h.own b e)), fun b e => by rw [k.old b (lt (h.row.isCb e))]; exact h.own b e,
    h.tr.kept k.kept (fun e => e.1 h.z.1), h.sl.kept k.kept (fun e => e.1 h.z.2.2.1), h.ids.keptF k.kept (fun b e f => f.1 (h.z.2.2.2 b e)),
    by rw [k.old _ h.tr.lt]; exact h.z.1, by rw [k.old _ h.k7.lt]; exact h.z.2.1, by rw [k.old _ h.sl.lt]; exact h.z.2.2.1, fun b e => by rw [k.old b (lt (h.ids.isCb e))]; exact h.z.2.2.2 b e⟩
theorem RemS.toV {pre : List (Nat × Nat)} {D : List (List St)} (h : RemS wB B0 cB p b2 b7 bs l es E s B1 W c2 es2 U2 out a n cap) (hle : pre.length ≤ L) (hD : ([] :: chSL l []).drop (L - pre.length) = D) (r : RemI ls l es U D es2 U2 out) : RemV wB B0 cB p b2 b7 bs ls l es U E L s B1 pre W :=
  ⟨hle, ⟨c2, es2, U2, out, a, n, cap, h, by rw [hD]; exact r⟩⟩
theorem Row.lowb {α : Type} {cells : α → List Value} {e : TypeId} {size : Nat} {w : World} {B : Nat} {l : List α} {v : Value} (h : Row cells e size w B v l) {b : Nat} (hb : v.ownBlock = some b) : B ≤ b := by
  rcases h.2 with ⟨e1, _⟩ | ⟨g, c, cur, e1, hB, _⟩
  · subst e1; cases hb
  · subst e1
    have : b = g := by simpa [Value.ownBlock] using hb.symm
    subst this
    exact hB
/-- Where the blocks lie that the rounds read. -/
structure RemW (wB : World) (B0 : Nat) (b2 b7 bs : Nat) (s : Value) : Prop where
  l2 : b2 < B0
  l7 : b7 < B0 ∧ wB.heap.size ≤ b7
  ls : bs < B0
  lo : ∀ b, s.ownBlock = some b → b < B0
  d2 : b2 ≠ b7
  ds : bs ≠ b7
  o : ∀ b, s.ownBlock = some b → b ≠ b7
  le : wB.heap.size ≤ B0
/-- One more that is out. -/
theorem RemS.push (Z : RemW wB B0 b2 b7 bs s) (h : RemS wB B0 cB p b2 b7 bs l es E s B1 W c2 es2 U2 out a n cap) {id : Nat} {a9 : Option Addr} {n9 c9 : Nat} (k : Kept (fun k => (Value.slice a n cap).ownBlock = some k) W W1) (hr : Row cNt 3 1 W1 B0 (.slice a9 n9 c9) (out ++ [id])) (ho : ∀ b, (Value.slice a9 n9 c9).ownBlock = some b → (Value.slice a n cap).ownBlock = some b ∨ W.heap.size ≤ b) :
    RemS wB B0 cB p b2 b7 bs l es E s B1 (W1.setCell ⟨b7, 0, none⟩ (.slice a9 n9 c9)) c2 es2 U2 (out ++ [id]) a9 n9 c9 ∧ KeepsFrom B0 W (W1.setCell ⟨b7, 0, none⟩ (.slice a9 n9 c9)) := by
  have k7 : Kept (fun b => b = b7) W1 (W1.setCell ⟨b7, 0, none⟩ (.slice a9 n9 c9)) := Kept.setCell (F := fun b => b = b7) (Kept.refl _ _) _ (.inl rfl) _
  have far : ∀ b, b < B0 → ¬ (Value.slice a n cap).ownBlock = some b := fun b hb e => by have := h.row.lowb e; omega
  have kA : Kept (fun b => (Value.slice a n cap).ownBlock = some b ∨ b = b7) W (W1.setCell ⟨b7, 0, none⟩ (.slice a9 n9 c9)) := (k.mono (fun _ _ e => .inl e)).trans k7 (fun _ _ e => .inr e)
  have hlow := h.t.te.low
  refine ⟨⟨⟨h.t.te.kept kA (fun b e => by
      rcases e with e | rfl
      · exact h.own b e
      · exact h.z.2.1), h.t.kept.trans kA (fun i hi e => by
      rcases e with e | rfl
      · have := h.row.lowb e; have := Z.le; omega
      · have := Z.l7.2; omega), h.t.old, h.t.new⟩, ?_, hr.keptF k7 (fun b e f => ?_), fun b e => ?_, h.tr.kept kA (fun e => ?_), h.sl.kept kA (fun e => ?_), h.ids.keptF kA (fun b e f => ?_), h.z⟩, ?_⟩
  · have := (h.k7.kept k (far _ Z.l7.1)).set_ 0 (.slice a9 n9 c9)
    simpa using this
  · have := hr.lowb e; have := Z.l7.1; omega
  · rcases ho b e with e | e
    · exact h.own b e
    · by_cases g : c2 b = 0
      · exact g
      · have := hlow b g; omega
  · rcases e with e | e
    · exact far _ Z.l2 e
    · exact Z.d2 e
  · rcases e with e | e
    · exact far _ Z.ls e
    · exact Z.ds e
  · rcases f with f | f
    · exact far _ (Z.lo b e) f
    · exact Z.o b e f
  · exact (k.keeps (fun b e => h.row.isCb e)).trans ((KeepsOthers.setCell _ _ _).from _)
end
/-- An append, by an equation on its run. -/
theorem wpListIn_append_run {F : Fence} {n : Nat} {P : Program} {w : World} {ops : Array Oper} {rest : List Oper} {o : Oper} {a : Act} {Q : Exit → Act → World → Prop} (hgd : o.guard = none) (s x : Operand) (t : TypeId)
    (ho : o.op = .call { callee := .builtin .append, args := #[s, x], argTypes := #[t, t] }) (v y : Value) (hs : a.eval s = v) (hx : a.eval x = y) {v' : Value} {w' : World}
    (hr : (Builtin.append_ #[t, t] o.type #[v, y]).run P w = .ok v' w') (h : wpListIn F n P ops Q rest (a.put o.dst v') w') : wpListIn F n P ops Q (o :: rest) a w := by
  refine wpListIn_plain hgd fun K hK => ?_
  unfold Oper.wpIn
  refine ⟨by simp [Oper.about, ho, resolve, Target.leads, Sem.run_pure], ?_⟩
  rw [Oper.semAt_plain F _ _ (by rw [ho]; intro c hc'; cases hc')]
  simp [execOp, ho, resolve, invoke, builtin, hs, hx, hr, Result.andThen]
  exact hK _ _ h
end
section
open Go.RowKit Go.Maps Go.WideMaps
attribute [local go_sem] Oper.semAt_some
set_option maxRecDepth 100000

theorem eqFuncB (f : Nat) (cs : Array Value) (w : World) : (binOp .eql 127 (.func (.func f) #[] cs) .nilFunc).run Try.prog w = .ok (.bool false) w := by
  have e : (Op.equalIn (9999 + 1) 127 (.func (.func f) #[] cs) .nilFunc).run Try.prog w = .ok false w := by
    unfold Op.equalIn
    simp [run_underlying Try.underlying127]
  simp only [binOp]
  simp [show Op.equal 127 (.func (.func f) #[] cs) .nilFunc = Op.equalIn (9999 + 1) 127 (.func (.func f) #[] cs) .nilFunc from rfl, e]
section
variable {w : World} {c : Nat → Nat} {p : Nat} {es : En} {U E : Nat → Int} {ls : List (List St)} {l : List St}
theorem keepsUp {B B' : Nat} {W W' : World} (h : B ≤ B') (k : KeepsFrom B W W') : KeepsFrom B' W W' := ⟨k.size, fun j o hj => k.same j o (Nat.le_trans h hj)⟩
/-- How Remove ends. -/
def RemEnd (c : Nat → Nat) (p : Nat) (ls : List (List St)) (l : List St) (es : En) (U E : Nat → Int) (w : World) (e : Ending) (w' : World) : Prop :=
  ∃ a n cap c2 es2 U2 out, e = .returned (.tuple #[.slice a n cap, .int .i64 0]) ∧ RemI ls l es U ([] :: chSL l []) es2 U2 out ∧ In cNt 1 w' a n out ∧ n ≤ cap ∧ (∀ b, (Value.slice a n cap).ownBlock = some b → w.heap.size ≤ b ∧ b < w'.heap.size ∧ c2 b = 0) ∧ TEG w w' c p es2 U2 (less1 E (fnd es l)) c2
set_option maxHeartbeats 8000000 in
theorem remove_any (ht : TE w c p es U E) (h : TLS ls es U E) (hn : es.length ≤ 2000) (hls : ls.length ≤ 1000) (hl : Rl l) (hm : l ∈ ls) (ok : Nat → Nat → Prop) (hok : ∀ b o, ok b o → b < w.heap.size ∧ c b = 0) (a : Option Addr) (cap : Nat) (hH : SHolds w ok (.slice a l.length cap) l) :
    Calls Try.prog 17 #[.pointer (some ⟨p, 0, none⟩), .slice a l.length cap] w (RemEnd c p ls l es U E w) := by
  obtain ⟨b2, hb2e⟩ : ∃ b2, w.heap.size = b2 := ⟨_, rfl⟩
  have kA : Kept Nil w (w.alloc (.cells #[.pointer (some ⟨p, 0, none⟩)] 24)) := (Kept.refl _ _).alloc _
  have bB : Blk (w.alloc (.cells #[.pointer (some ⟨p, 0, none⟩)] 24)) b2 24 #[.pointer (some ⟨p, 0, none⟩)] := by rw [← hb2e]; exact Blk.new _ _ _
  have hc2 : c b2 = 0 := by
    by_cases e : c b2 = 0
    · exact e
    · have := ht.low b2 e; omega
  have CF := Lib.hid (fun W (kW : Kept Nil w W) => find_any (ht.keptN kW) (by omega) l hl ok (fun b o e => Nat.lt_of_lt_of_le (hok b o e).1 kW.size) a cap (hH.keptN kW))
  have hlf : fnd es l ≠ 0 := by
    by_cases e : l = []
    · rw [e, fnd_nil]; omega
    · exact (h.tl.all l e).2 ((usesL_pos e).2 ⟨l, hm, chain_self e⟩)
  have hfl := fnd_lt (es := es) (c := l)
  have hE : E (fnd es l) = (endsL ls l : Nat) := h.en l hlf
  have hE0 : 0 < endsL ls l := endsL_pos.2 hm
  have hEb := endsL_le ls l
  have LV := Lib.hid (fun W (kW : Kept Nil w W) => (ht.keptN kW).lookV (n := fnd es l) (by omega))
  have CD := Lib.hid (fun W (kW : Kept Nil w W) => ch_decE_E (ht.keptN kW) (by omega) (x := l) (i := fnd es l) rfl hlf (by omega))
  have HT := Lib.hid ht
  have HLS := Lib.hid h
  have HH := Lib.hid hH
  have HOK := Lib.hid hok
  have HENT := Lib.hid ((ent_fnd h.tl.ok (c := l)).2 ⟨hlf, rfl⟩)
  have HLF := Lib.hid hlf
  have HEE := Lib.hid (And.intro hE hE0)
  generalize hln : l.length = len at *
  have HLEN := Lib.hid hln
  obtain ⟨f, hf⟩ : ∃ f, fnd es l = f := ⟨_, rfl⟩
  have HF := Lib.hid hf
  simp only [hf] at CF LV CD
  have HKA := Lib.hid kA
  clear h ht hH hok hlf hfl hE hE0 hEb hln hf kA
  refine (callsIn_wide (n := 9)).1 ?_
  refine callsIn_of_wp_marks Try.func17 rfl trivial ?_ rfl
  simp only [Try.ntmps17, List.size_toArray, List.length_cons, List.length_nil, Nat.reduceAdd, Nat.reduceSub, Array.replicate_succ, Array.replicate_zero, List.push_toArray, List.append_toArray, List.nil_append, List.cons_append]
  gi_wp2
  refine ⟨trivial, (callsIn_wide.2 (CF.out _ HKA.out)).mono ?_⟩
  rintro e w1 ⟨rfl, k1⟩
  have hT1 := bB.cell 0
  have K1 := Lib.hid (HKA.out.trans k1 (fun _ _ e => e))
  obtain ⟨bn, v, d0, hlk, _, hv⟩ := LV.out w1 K1.out
  have hv2 : v.li = E f := by
    rw [← HF.out, HENT.out] at hv
    have := hv.li
    rw [HF.out] at this
    exact this
  have hli := fieldLi v
  rw [hv2, ← HF.out, HEE.out.1] at hli
  have BT1 := Lib.hid (bB.kept k1 (fun e => e))
  have d1 := BT1.out.cell 0
  simp only [List.getElem?_toArray, List.getElem?_cons_zero] at d1
  have hp0 := (HT.out.keptN K1.out).lt
  have hne2 : (((endsL ls l : Nat) : Int) == 0) = false := by have := HEE.out.2; simp; omega
  generalize ((endsL ls l : Nat) : Int) = en at *
  generalize aN v = av at *
  clear hv hv2 k1 bB hT1
  gi_wp2
  refine ⟨trivial, (callsIn_wide.2 (CD.out w1 K1.out)).mono ?_⟩
  rintro e w2 ⟨rfl, c1, t1⟩
  have HT1 := Lib.hid t1
  have bt2 := BT1.out.kept t1.kept (fun e => e.1 hc2)
  have H2 := Lib.hid (show SHolds w2 ok (.slice a len cap) l from (HH.out.keptN K1.out).kept t1.kept (fun b o e f => f.1 (HOK.out b o e).2))
  have hsz2 := Lib.hid (Nat.le_trans K1.out.size t1.kept.size)
  obtain ⟨m, hmc⟩ : ∃ m, (chSL l []).length = m := ⟨_, rfl⟩
  have HMC := Lib.hid hmc
  have hch := hl.chs
  have CP := Lib.hid (fun W (kW : Kept Nil w2 W) => by
    have := pathN_any (HT1.out.te.keptN kW) (by omega) l hl hmc ok (fun b o e => Nat.lt_of_lt_of_le (HOK.out b o e).1 (Nat.le_trans hsz2.out kW.size)) a cap (by rw [HLEN.out]; exact H2.out.keptN kW)
    rw [HLEN.out] at this
    exact this)
  rw [hmc] at hch
  clear t1 hli hlk d0 d1 hne2 hmc
  have k3 := (Kept.refl Nil w2).alloc (.cells #[.slice none 0 0] 28)
  have bt3 := bt2.kept k3 (fun e => e)
  have d1 := bt3.cell 0
  have d2 := bt2.cell 0
  have BT3 := Lib.hid bt3
  have B7 := Lib.hid (Blk.new w2 28 #[.slice none 0 0])
  have K3 := Lib.hid k3
  simp only [List.getElem?_toArray, List.getElem?_cons_zero] at d1 d2
  clear bt2 bt3 k3
  gi_wp2
  refine ⟨trivial, (callsIn_wide.2 (CP.out _ K3.out)).mono ?_⟩
  rintro e w4 ⟨a', cap', rfl, hr, k4⟩
  rw [show (1 :: (chSL l []).map (fnd es)) = idsE es l from rfl] at hr
  obtain ⟨m1, hm1⟩ : ∃ m1, m + 1 = m1 := ⟨_, rfl⟩
  have HM1 := Lib.hid hm1
  rw [hm1] at hr ⊢
  have HR := Lib.hid hr
  have K4 := Lib.hid (K3.out.trans k4 (fun _ _ e => e))
  have BT4 := Lib.hid (BT3.out.kept k4 (fun e => e))
  have B74 := Lib.hid (B7.out.kept k4 (fun e => e))
  obtain ⟨b7, hb7⟩ : ∃ b7, w2.heap.size = b7 := ⟨_, rfl⟩
  simp only [hb7] at B74 ⊢
  have HB7 := Lib.hid hb7
  clear hr k4 d1 d2 hm1 hb7
  gi_wp2
  refine ⟨trivial, (callsIn_wide.2 (back_any a' m1 cap')).mono ?_⟩
  rintro e w5 ⟨rfl, hw5⟩
  have K5 := Lib.hid (show Kept Nil w4 w5 from hw5 ▸ (Kept.refl Nil w4).alloc _)
  have BS5 := Lib.hid (show Blk w5 w4.heap.size 28 #[.slice a' m1 cap'] from hw5 ▸ Blk.new _ _ _)
  obtain ⟨bs, hbs⟩ : ∃ bs, w4.heap.size = bs := ⟨_, rfl⟩
  simp only [hbs] at BS5 ⊢
  have HBS := Lib.hid hbs
  have qf := fun W cs => eqFuncB 104 cs W
  have HS5 := Lib.hid (show w5.heap.size = bs + 1 by rw [hw5, World.size_alloc, hbs])
  clear hw5 hbs
  gi_wp2
  have hz2 := HB7.out
  have hz4 := HBS.out
  have h42 := K4.out.size
  have h34 := K3.out.size
  have h54 := K5.out.size
  have hlow1 := HT1.out.te.low
  have hcz : ∀ b, w2.heap.size ≤ b → c1 b = 0 := fun b hb => by
    by_cases e : c1 b = 0
    · exact e
    · have := hlow1 b e; omega
  have K25 := Lib.hid (K4.out.trans K5.out (fun _ _ e => e))
  have hlen : ([] :: chSL l []).length = m1 := by rw [List.length_cons, HMC.out]; exact HM1.out
  have hc1b2 : c1 b2 = 0 := HT1.out.zero BT1.out.lt hc2
  have hc2lt : b2 < w2.heap.size := Nat.lt_of_lt_of_le BT1.out.lt HT1.out.kept.size
  have HSO := Lib.hid (show ∀ b, (Value.slice a' m1 cap').ownBlock = some b → b < w5.heap.size ∧ c1 b = 0 from fun b hb => by
    obtain ⟨cs, t, e⟩ := HR.out.isCb hb
    have h1 := (Array.getElem?_eq_some_iff.1 e).1
    have h2 := HR.out.lowb hb
    have h3 := K3.out.size
    exact ⟨by omega, hcz b (by omega)⟩)
  have HI := Lib.hid (show RemV w2 w5.heap.size c1 p b2 b7 bs ls l es U (less1 E f) m1 (.slice a' m1 cap') (w2.alloc (.cells #[.slice none 0 0] 28)).heap.size [] w5 from
    RemS.toV ⟨(TEG.refl HT1.out.te).thenN K25.out, B74.out.kept K5.out (fun e => e), Row.nil _ _, (fun b e => by cases e), BT4.out.kept K5.out (fun e => e), BS5.out, HR.out.keptN K5.out, hc1b2, hcz _ (by omega), hcz _ (by omega), fun b e => (HSO.out b e).2⟩ (Nat.zero_le _)
      (show ([] :: chSL l []).drop (m1 - ([] : List (Nat × Nat)).length) = [] from List.drop_eq_nil_of_le (by rw [hlen]; simp)) (RemI.nil HLS.out.tl.ok))
  have HZ := Lib.hid (show RemW w2 w5.heap.size b2 b7 bs (.slice a' m1 cap') from
    ⟨by have := BT4.out.lt; omega, ⟨by have := B74.out.lt; omega, by omega⟩, BS5.out.lt, fun b e => (HSO.out b e).1, fun e => by have := hc2lt; omega, fun e => by have := B74.out.lt; omega, fun b e g => by have := HR.out.lowb e; rw [World.size_alloc] at this; omega, by omega⟩)
  refine wpIn_rangeFunc_told (a₁ := ?a1) rfl (by decide) (gf := 104) (lb := #[.pointer (some ⟨bs, 0, none⟩)]) rfl trivial (enters_of Try.func104 (by kernel_rfl) rfl)
    (back_told (w2.alloc (.cells #[.slice none 0 0] 28)).heap.size bs a' m1 cap' (idsE es l) (by have := HM1.out; omega) 8 w5) (Below.refl _ _) (fun _ => rfl)
    (RemV w2 w5.heap.size c1 p b2 b7 bs ls l es U (less1 E f) m1 (.slice a' m1 cap') (w2.alloc (.cells #[.slice none 0 0] 28)).heap.size) (fun _ _ _ => False) (RemV.own (by omega)) (fun _ _ _ _ _ h => h.elim)
    (fun pre V h => by obtain ⟨c2, es2, U2, out, a, n, cap, S, r⟩ := h.ex; exact ⟨S.sl, S.ids⟩) HI.out ?assign ?body ?done ?stop
  case assign =>
    intro l x W K hK
    dsimp only [encB]
    gi_wp2
    exact hK
  case body =>
    rintro l2 pre ⟨j, id⟩ W hI hok
    obtain ⟨hj, hid⟩ := hok
    rw [idsE_eq, List.getElem?_map] at hid
    obtain ⟨x, hx, rfl⟩ := Option.map_eq_some_iff.1 hid
    dsimp only at hj hx
    obtain ⟨c2, es2, U2, out, ao, no, co, S, r⟩ := hI.ex
    have hcs : [] :: chSL l [] = ([] :: chSL l []).take j ++ x :: ([] :: chSL l []).drop (j + 1) := by
      have hlt := (List.getElem?_eq_some_iff.1 hx).1
      rw [← (List.getElem?_eq_some_iff.1 hx).2, List.getElem_cons_drop, List.take_append_drop]
    rw [show m1 - pre.length = j + 1 by omega] at r
    obtain ⟨q1, q2, q3, q4, q5⟩ := RemI.round HLS.out hm hcs r
    have hdone : ([] :: chSL l []).drop (m1 - (pre ++ [(j, fnd es x)]).length) = x :: ([] :: chSL l []).drop (j + 1) := by
      have e : m1 - (pre ++ [(j, fnd es x)]).length = j := by simp; omega
      have hlt := (List.getElem?_eq_some_iff.1 hx).1
      rw [e, ← (List.getElem?_eq_some_iff.1 hx).2, List.getElem_cons_drop]
    have hUb := (HLS.out.bnd (fnd es x)).1
    have hUr := r.us (fnd es x)
    have hU2 : -1000000 ≤ U2 (fnd es x) ∧ U2 (fnd es x) ≤ 1000000 := by
      rw [hUr]; split <;> omega
    have hx0 : fnd es x = 1 ↔ x = [] := fnd_one
    have hbig := fnd_lt (es := es) (c := x)
    have CD2 := Lib.hid (ch_decU_E S.t.te (by have := r.len; omega) (x := x) q1 q2 hU2)
    have hp1 := S.t.te.lt
    have g0 := S.tr.cell 0
    simp only [List.getElem?_toArray, List.getElem?_cons_zero] at g0
    have HS := Lib.hid S
    have HOL := Lib.hid (show out.length ≤ 100 from by
      rw [r.out, List.length_map]
      refine Nat.le_trans (List.length_filter_le _ _) ?_
      rw [List.length_reverse, List.length_drop, hlen]
      have := HM1.out; omega)
    have HLE := Lib.hid (show (pre ++ [(j, fnd es x)]).length ≤ m1 by simp; omega)
    have HRL := Lib.hid r.len
    have HG := Lib.hid (show fnd es x = 1 → goes ls l x = false from fun e => by unfold goes; rw [decide_eq_false]; exact fun g => g.1 (fnd_one.1 e))
    have HG1 := Lib.hid (show fnd es x ≠ 1 → usesL (ls.erase l) x = 0 → goes ls l x = true from fun e g => by unfold goes; exact decide_eq_true ⟨fun e2 => e (fnd_one.2 e2), g⟩)
    have HG2 := Lib.hid (show usesL (ls.erase l) x ≠ 0 → goes ls l x = false from fun g => by unfold goes; rw [decide_eq_false]; exact fun e => g e.2)
    have HQ4 := Lib.hid q4
    have HQ5 := Lib.hid q5
    have HD := Lib.hid hdone
    generalize fnd es x = id at *
    clear hI S r q4 q5 hdone hcs hx hUb hUr hU2 qf hid hj
    gi_wp2
    refine ⟨trivial, (CallsIn.inRound l2 (callsIn_wide.2 CD2.out)).mono ?_⟩
    rintro e W1 ⟨rfl, c3, t3⟩
    have HS1 := Lib.hid (HS.out.step t3)
    have HK1 := Lib.hid (keepsUp (HZ.out.le) (HS.out.t.keeps t3))
    have g1 := HS1.out.tr.cell 0
    simp only [List.getElem?_toArray, List.getElem?_cons_zero] at g1
    have HUS := Lib.hid (uses_any t3.te (n := id) (by omega))
    rw [q3] at HUS
    have hp2 := t3.te.lt
    clear t3 g0 CD2 hx0
    by_cases h1 : id = 1
    · have e1 : ((id : Int) != 1) = false := by simp; omega
      have HN := Lib.hid (HS1.out.toV HLE.out HD.out (HQ5.out (HG.out h1)))
      clear h1
      gi_wp2
      refine ⟨trivial, ?_⟩
      gi_wp2
      exact ⟨HK1.out, trivial, HN.out⟩
    · have e1 : ((id : Int) != 1) = true := by simp; omega
      have h1' := Lib.hid h1
      clear h1
      gi_wp2
      refine ⟨trivial, (CallsIn.inRound l2 (callsIn_wide.2 HUS.out)).mono ?_⟩
      rintro e W2 ⟨rfl, rfl⟩
      by_cases h2 : usesL (ls.erase l) x = 0
      · have e2 : (((usesL (ls.erase l) x : Nat) : Int) == 0) = true := by simp [h2]
        have HG3 := Lib.hid (HG1.out h1'.out h2)
        obtain ⟨gc, r6⟩ := HQ4.out HG3.out
        have CT := Lib.hid (take_E HS1.out.t.te (by have := HRL.out; omega) gc)
        have HR6 := Lib.hid r6
        clear h2 gc r6
        gi_wp2
        refine ⟨trivial, (CallsIn.inRound l2 (callsIn_wide.2 CT.out)).mono ?_⟩
        rintro e W3 ⟨rfl, c4, t4⟩
        have HS2 := Lib.hid (HS1.out.step t4)
        have HK2 := Lib.hid (HK1.out.trans (keepsUp (HZ.out.le) (HS1.out.t.keeps t4)))
        have g2 := HS2.out.k7.cell 0
        simp only [List.getElem?_toArray, List.getElem?_cons_zero] at g2
        have hB3 : w5.heap.size ≤ W3.heap.size := by have := HS2.out.sl.lt; have := HS5.out; omega
        obtain ⟨a9, c9, W4, hrun, hR9, k9, ho9⟩ := HS2.out.row.push2 elsNt cNt_len cNt_one 28 hB3 (by have := HOL.out; omega) id #[.int .i64 id] rfl
        have hP := HS2.out.push HZ.out k9 hR9 ho9
        have HP := Lib.hid (And.intro (HK2.out.trans hP.2) (hP.1.toV HLE.out HD.out HR6.out))
        have q7 := (HS2.out.k7.kept k9 (fun e => by have := HS2.out.row.lowb e; have := HZ.out.l7; omega)).frozen 0
        have q8 := (HS2.out.k7.kept k9 (fun e => by have := HS2.out.row.lowb e; have := HZ.out.l7; omega)).cell 0
        simp only [List.getElem?_toArray, List.getElem?_cons_zero] at q8
        clear t4 CT hR9 k9 ho9 hP
        gi_wp2_with (refine wpListIn_append_run rfl (.tmp 45) (.tmp 47) 28 rfl _ _ rfl rfl hrun ?_)
        exact ⟨HP.out.1, trivial, HP.out.2⟩
      · have e2 : (((usesL (ls.erase l) x : Nat) : Int) == 0) = false := by simp; omega
        have HN := Lib.hid (HS1.out.toV HLE.out HD.out (HQ5.out (HG2.out h2)))
        clear h2
        gi_wp2
        exact ⟨HK1.out, trivial, HN.out⟩
  case done =>
    rintro D xs W hD hS hI hK
    have hlt : D < W.heap.size := (Array.getElem?_eq_some_iff.1 hK).1
    obtain ⟨c2, es2, U2, out, ao, no, co, S, r⟩ := hI.ex
    rw [show xs.length = m1 from hS, Nat.sub_self, List.drop_zero] at r
    have c4 := S.k7.cell 0
    simp only [List.getElem?_toArray, List.getElem?_cons_zero] at c4
    have HS := Lib.hid S
    have HR9 := Lib.hid r
    have HKD := Lib.hid hK
    clear hI hK hS S r qf
    gi_wp2
    refine ⟨by simp, .inl ⟨_, _, rfl, run_takeDeferred HKD.out, ?_⟩⟩
    have hg := grownBy_putObj' W D (.deferred none)
    have hr9 : ∀ r, some D = some r → w2.heap.size ≤ r ∧ ∃ o : Obj, W.heap[r]? = some o ∧ o.isCells = false := fun r e => by
      cases e
      exact ⟨by omega, _, HKD.out, rfl⟩
    have kk := kept_of_row hg
    have noC : ∀ {x : Nat}, isC W x → ¬ some D = some x := fun hx e => by
      cases e
      obtain ⟨cs, t, e2⟩ := hx
      rw [HKD.out] at e2; cases e2
    have t9 := HS.out.t.own hg hr9
    have row9 := HS.out.row.keptF kk (fun x e f => noC (HS.out.row.isCb e) f)
    refine ⟨_, ?_, ao, no, co, c2, es2, U2, out, rfl, HR9.out, row9.toIn cNt_len (by decide), row9.caps.2.1, fun b e => ⟨?_, ?_, HS.out.own b e⟩, ?_⟩
    · simp [results, Try.f17, go_sem]
    · have := row9.lowb e; have := K1.out.size; have := HT1.out.kept.size; omega
    · obtain ⟨cs, t, e2⟩ := row9.isCb e
      exact (Array.getElem?_eq_some_iff.1 e2).1
    · rw [HF.out]
      exact TEG.afterN K1.out HT.out.low (HT1.out.trans t9)
  case stop => exact fun _ _ _ _ _ h => h.elim
end
end
section
open Go.RowKit
set_option maxRecDepth 100000
def xA : St := .mk ⟨1, 0, 0, 0, []⟩ []
def xB : St := .mk ⟨1, 1, 0, 0, []⟩ []
def xC : St := .mk ⟨2, 0, 0, 0, []⟩ []
theorem x_rlB : Rl [xA, xB] := ⟨by decide, by decide⟩
theorem x_rlC : Rl [xA, xC] := ⟨by decide, by decide⟩
theorem x_chB : chSL [xA, xB] [] = [[xA], [xA, xB]] := by rfl
theorem x_chC : chSL [xA, xC] [] = [[xA], [xA, xC]] := by rfl
def xE1 : En := [([xA], true), ([xA, xB], true)]
def xE2 : En := [([xA], true), ([xA, xB], true), ([xA, xC], true)]
theorem x_es1 : addAll [] (chSL [xA, xB] []) = xE1 := by decide
theorem x_es2 : addAll xE1 (chSL [xA, xC] []) = xE2 := by decide
theorem x_ids1 : (chSL [xA, xB] []).map (fnd xE1) = [2, 3] := by decide
theorem x_ids2 : (chSL [xA, xC] []).map (fnd xE2) = [2, 4] := by decide
theorem x_out : ((([] :: chSL [xA, xB] []).reverse.filter (goes [[xA, xB], [xA, xC]] [xA, xB])).map (fnd xE2)) = [3] := by decide
theorem x_dis : ∀ x, x ∈ [[xA], [xA, xC]] ↔ x ≠ [] ∧ 0 < usesL ([[xA, xB], [xA, xC]].erase [xA, xB]) x := by
  intro x
  have e : [[xA, xB], [xA, xC]].erase [xA, xB] = [[xA, xC]] := by decide
  rw [e]
  unfold usesL
  rw [List.countP_singleton, x_chC]
  constructor
  · intro h
    have h0 : x ≠ [] := fun e => by subst e; simp at h
    exact ⟨h0, by simp [h0, h]⟩
  · rintro ⟨h0, h1⟩
    by_cases hm : x ∈ [[xA], [xA, xC]]
    · exact hm
    · simp [h0, hm] at h1
end
end Go.Proofs.Ytodghgeghpbdlaa
