/- Layer trie: what stays while the program's Remove ranges over a function. – Layer trie: the reference's All, Chain. – Layer trie: the program's Remove of a list that is there. – Layer trie: the program's Inner, Kids, Outer; slices.Clone of numbers; Remove of a list that isn't there. – Layer trie: the reference's Inner. -/
import Derived.Test.YtljefbfjehblpaaGreatA15
import Derived.Test.YtljefbfjehblpaaGreatA17
import Derived.BigRegionIn
import Derived.Sort.CutIn
import Derived.Test.YtljefbfjehblpaaGreatA16
namespace Go.Proofs.YtljefbfjehblpaaGreat
section
open Go.RowKit Go.Maps Go.WideMaps
set_option maxRecDepth 100000

/-- The loop's own book-keeping turns nothing that cells are. -/
theorem kept_of_row {W W' : World} {row : Option Nat} (hg : W.grownBy W' row) : Kept (fun k => row = some k) W W' := ⟨hg.os, hg.tape, hg.output, hg.size, fun k hk hF => hg.block k hk (fun e => hF e.symm)⟩
theorem not_row {B0 : Nat} {W : World} {row : Option Nat} (hr : ∀ r, row = some r → B0 ≤ r ∧ ∃ o : Obj, W.heap[r]? = some o ∧ o.isCells = false) {b : Nat} {t : TypeId} {cs : Array Value} (hb : Blk W b t cs) : ¬ row = some b := by
  intro e
  obtain ⟨_, o, ho, hc⟩ := hr b e
  unfold Blk at hb
  rw [hb] at ho
  cases ho; cases hc
theorem Blk.isC {w : World} {b : Nat} {t : TypeId} {cs : Array Value} (h : Blk w b t cs) : isC w b := ⟨cs, t, by unfold Blk at h; exact h⟩
theorem Row.isCb {α : Type} {cells : α → List Value} {e : TypeId} {size : Nat} {w : World} {B : Nat} {l : List α} {v : Value} (h : Row cells e size w B v l) {b : Nat} (hb : v.ownBlock = some b) : isC w b := by
  rcases h.2 with ⟨e1, _⟩ | ⟨g, c, cur, e1, _, hg, _⟩
  · subst e1; cases hb
  · subst e1
    have : b = g := by simpa [Value.ownBlock] using hb.symm
    subst this
    exact Blk.isC hg
section
variable {w w' : World} {c c' : Nat → Nat} {p m bn bs : Nat} {nd : Nat → Option Nd} {nm : Sp → Option Nat} {nv : Nat → Option Nv} {F : Nat → Prop} {es : En} {U E : Nat → Int}
theorem NodeR.keptC {k : Nat} {d : Nd} {v : Nv} (h : NodeR w c k d v) (hk : Kept F w w') (hF : ∀ b, F b → ¬ isC w b) : NodeR w' c k d v :=
  ⟨h.sp, h.li, h.us, h.kr.keptF hk (fun b e f => hF b f (h.kr.isCb e)), h.or.keptF hk (fun b e f => hF b f (h.or.isCb e)), h.kc, h.oc⟩
theorem Trx.keptC (h : Trx w c p nd nm m bn bs nv) (hk : Kept F w w') (hF : ∀ b, F b → (c b = 0 ∨ 4 ≤ c b) ∧ ¬ isC w b) : Trx w' c p nd nm m bn bs nv := by
  refine ⟨fun b e => Nat.lt_of_lt_of_le (h.low b e) hk.size, h.cp, h.cn, h.cs, h.blk.kept hk (fun e => by have := (hF _ e).1; rw [h.cp] at this; omega), h.mn.kept hk (fun e => by have := (hF _ e).1; rw [h.cn] at this; omega), h.ms.kept hk (fun e => by have := (hF _ e).1; rw [h.cs] at this; omega), fun k => ?_, h.le⟩
  rcases h.rows k with e | ⟨d, v, e1, e2, e3⟩
  · exact .inl e
  · exact .inr ⟨d, v, e1, e2, e3.keptC hk (fun b e => (hF b e).2)⟩
theorem TE.keptC (h : TE w c p es U E) (hk : Kept F w w') (hF : ∀ b, F b → (c b = 0 ∨ 4 ≤ c b) ∧ ¬ isC w b) : TE w' c p es U E := by
  obtain ⟨nm, h1, bn, bs, nv, h2⟩ := h.ex
  exact ⟨h.ok, nm, h1, bn, bs, nv, h2.keptC hk hF⟩
theorem TEG.own {wB : World} {c0 : Nat → Nat} (h : TEG wB w c0 p es U E c) {row : Option Nat} (hg : w.grownBy w' row) (hr : ∀ r, row = some r → wB.heap.size ≤ r ∧ ∃ o : Obj, w.heap[r]? = some o ∧ o.isCells = false) : TEG wB w' c0 p es U E c := by
  have kk := kept_of_row hg
  refine ⟨h.te.keptC kk (fun b e => ?_), h.kept.trans kk (fun i hi e => by have := (hr i e).1; omega), h.old, h.new⟩
  obtain ⟨h1, o, ho, hc⟩ := hr b e
  refine ⟨h.new b h1, ?_⟩
  rintro ⟨cs, t, e2⟩
  rw [e2] at ho; cases ho; cases hc
theorem TEG.keeps {wB w1 : World} {c0 c1 : Nat → Nat} {es1 : En} {U1 E1 : Nat → Int} (h : TEG wB w c0 p es U E c) (k : TEG w w1 c p es1 U1 E1 c1) : KeepsFrom wB.heap.size w w1 := by
  refine ⟨k.kept.size, fun j o hj ho hc => (k.kept.block j (Array.getElem?_eq_some_iff.1 ho).1 (fun hf => ?_)).trans ho⟩
  rcases hf.2 with e | ⟨cs, t, e⟩
  · have := h.new j hj
    have := hf.1
    omega
  · rw [e] at ho; cases ho; cases hc
theorem Kept.keeps {B : Nat} {G : Nat → Prop} (h : Kept G w w') (hG : ∀ b, G b → isC w b) : KeepsFrom B w w' :=
  ⟨h.size, fun j o hj ho hc => (h.block j (Array.getElem?_eq_some_iff.1 ho).1 (fun hf => by
    obtain ⟨cs, t, e⟩ := hG j hf
    rw [e] at ho; cases ho; cases hc)).trans ho⟩
end
/-- How often lists are like a number's chain. -/
def liE (es : En) (E : Nat → Int) (n : Nat) : Int := match ent es n with
  | none => 0
  | some _ => E n
/-- What a round knows: the trie, the row of those that are out, the variables that it reads. -/
structure RemS (wB : World) (B0 : Nat) (cB : Nat → Nat) (p b2 b7 bs : Nat) (l : List St) (es : En) (E : Nat → Int) (s : Value) (B1 : Nat) (W : World) (c2 : Nat → Nat) (es2 : En) (U2 : Nat → Int) (out : List Nat) (a : Option Addr) (n cap : Nat) : Prop where
  t : TEG wB W cB p es2 U2 E c2
  k7 : Blk W b7 28 #[.slice a n cap]
  row : Row cNt 3 1 W B0 (.slice a n cap) out
  own : ∀ b, (Value.slice a n cap).ownBlock = some b → c2 b = 0
  tr : Blk W b2 23 #[.pointer (some ⟨p, 0, none⟩)]
  sl : Blk W bs 28 #[s]
  ids : Row cNt 3 1 W B1 s (idsE es l)
  z : c2 b2 = 0 ∧ c2 b7 = 0 ∧ c2 bs = 0 ∧ ∀ b, s.ownBlock = some b → c2 b = 0
/-- What stands between two rounds of Remove's range. -/
structure RemV (wB : World) (B0 : Nat) (cB : Nat → Nat) (p b2 b7 bs : Nat) (ls : List (List St)) (l : List St) (es : En) (U E : Nat → Int) (L : Nat) (s : Value) (B1 : Nat) (pre : List (Nat × Nat)) (W : World) : Prop where
  le : pre.length ≤ L
  ex : ∃ c2 es2 U2 out a n cap, RemS wB B0 cB p b2 b7 bs l es E s B1 W c2 es2 U2 out a n cap ∧ RemI ls l es U (([] :: chSL l []).drop (L - pre.length)) es2 U2 out
section
variable {wB W W1 : World} {B0 : Nat} {cB c2 c3 : Nat → Nat} {p b2 b7 bs B1 n cap L : Nat} {s : Value} {es es2 es3 : En} {U E U2 U3 : Nat → Int} {out : List Nat} {a : Option Addr} {ls : List (List St)} {l : List St}
theorem RemV.own (hB : wB.heap.size ≤ B0) : OwnFrom B0 (RemV wB B0 cB p b2 b7 bs ls l es U E L s B1) := by
  intro pre W W' row h hg hr
  have kk := kept_of_row hg
  obtain ⟨c2, es2, U2, out, a, n, cap, S, r⟩ := h.ex
  have noC : ∀ {x : Nat}, isC W x → ¬ row = some x := fun hx e => by
    obtain ⟨_, o, ho, hc⟩ := hr _ e
    obtain ⟨cs, t, e2⟩ := hx
    rw [e2] at ho; cases ho; cases hc
  exact ⟨h.le, ⟨c2, es2, U2, out, a, n, cap, ⟨S.t.own hg (fun r e => ⟨Nat.le_trans hB (hr r e).1, (hr r e).2⟩), S.k7.kept kk (not_row hr S.k7), S.row.keptF kk (fun x e f => noC (S.row.isCb e) f), S.own, S.tr.kept kk (not_row hr S.tr), S.sl.kept kk (not_row hr S.sl), S.ids.keptF kk (fun x e f => noC (S.ids.isCb e) f), S.z⟩, r⟩⟩
theorem RemS.step (h : RemS wB B0 cB p b2 b7 bs l es E s B1 W c2 es2 U2 out a n cap) (k : TEG W W1 c2 p es3 U3 E c3) : RemS wB B0 cB p b2 b7 bs l es E s B1 W1 c3 es3 U3 out a n cap := by
  have lt : ∀ {b}, isC W b → b < W.heap.size := fun hx => by
    obtain ⟨cs, t, e2⟩ := hx
    exact (Array.getElem?_eq_some_iff.1 e2).1
  exact ⟨h.t.trans k, h.k7.kept k.kept (fun e => e.1 h.z.2.1), h.row.keptF k.kept (fun b e f => f.1 (h.own b e)), fun b e => by rw [k.old b (lt (h.row.isCb e))]; exact h.own b e,
    h.tr.kept k.kept (fun e => e.1 h.z.1), h.sl.kept k.kept (fun e => e.1 h.z.2.2.1), h.ids.keptF k.kept (fun b e f => f.1 (h.z.2.2.2 b e)),
    by rw [k.old _ h.tr.lt]; exact h.z.1, by rw [k.old _ h.k7.lt]; exact h.z.2.1, by rw [k.old _ h.sl.lt]; exact h.z.2.2.1, fun b e => by rw [k.old b (lt (h.ids.isCb e))]; exact h.z.2.2.2 b e⟩
theorem RemS.toV {pre : List (Nat × Nat)} {D : List (List St)} (h : RemS wB B0 cB p b2 b7 bs l es E s B1 W c2 es2 U2 out a n cap) (hle : pre.length ≤ L) (hD : ([] :: chSL l []).drop (L - pre.length) = D) (r : RemI ls l es U D es2 U2 out) : RemV wB B0 cB p b2 b7 bs ls l es U E L s B1 pre W :=
  ⟨hle, ⟨c2, es2, U2, out, a, n, cap, h, by rw [hD]; exact r⟩⟩
theorem Row.lowb {α : Type} {cells : α → List Value} {e : TypeId} {size : Nat} {w : World} {B : Nat} {l : List α} {v : Value} (h : Row cells e size w B v l) {b : Nat} (hb : v.ownBlock = some b) : B ≤ b := by
  rcases h.2 with ⟨e1, _⟩ | ⟨g, c, cur, e1, hB, _⟩
  · subst e1; cases hb
  · subst e1
    have : b = g := by simpa [Value.ownBlock] using hb.symm
    subst this
    exact hB
/-- Where the blocks lie that the rounds read. -/
structure RemW (wB : World) (B0 : Nat) (b2 b7 bs : Nat) (s : Value) : Prop where
  l2 : b2 < B0
  l7 : b7 < B0 ∧ wB.heap.size ≤ b7
  ls : bs < B0
  lo : ∀ b, s.ownBlock = some b → b < B0
  d2 : b2 ≠ b7
  ds : bs ≠ b7
  o : ∀ b, s.ownBlock = some b → b ≠ b7
  le : wB.heap.size ≤ B0
/-- One more that is out. -/
theorem RemS.push (Z : RemW wB B0 b2 b7 bs s) (h : RemS wB B0 cB p b2 b7 bs l es E s B1 W c2 es2 U2 out a n cap) {id : Nat} {a9 : Option Addr} {n9 c9 : Nat} (k : Kept (fun k => (Value.slice a n cap).ownBlock = some k) W W1) (hr : Row cNt 3 1 W1 B0 (.slice a9 n9 c9) (out ++ [id])) (ho : ∀ b, (Value.slice a9 n9 c9).ownBlock = some b → (Value.slice a n cap).ownBlock = some b ∨ W.heap.size ≤ b) :
    RemS wB B0 cB p b2 b7 bs l es E s B1 (W1.setCell ⟨b7, 0, none⟩ (.slice a9 n9 c9)) c2 es2 U2 (out ++ [id]) a9 n9 c9 ∧ KeepsFrom B0 W (W1.setCell ⟨b7, 0, none⟩ (.slice a9 n9 c9)) := by
  have k7 : Kept (fun b => b = b7) W1 (W1.setCell ⟨b7, 0, none⟩ (.slice a9 n9 c9)) := Kept.setCell (F := fun b => b = b7) (Kept.refl _ _) _ (.inl rfl) _
  have far : ∀ b, b < B0 → ¬ (Value.slice a n cap).ownBlock = some b := fun b hb e => by have := h.row.lowb e; omega
  have kA : Kept (fun b => (Value.slice a n cap).ownBlock = some b ∨ b = b7) W (W1.setCell ⟨b7, 0, none⟩ (.slice a9 n9 c9)) := (k.mono (fun _ _ e => .inl e)).trans k7 (fun _ _ e => .inr e)
  have hlow := h.t.te.low
  refine ⟨⟨⟨h.t.te.kept kA (fun b e => by
      rcases e with e | rfl
      · exact h.own b e
      · exact h.z.2.1), h.t.kept.trans kA (fun i hi e => by
      rcases e with e | rfl
      · have := h.row.lowb e; have := Z.le; omega
      · have := Z.l7.2; omega), h.t.old, h.t.new⟩, ?_, hr.keptF k7 (fun b e f => ?_), fun b e => ?_, h.tr.kept kA (fun e => ?_), h.sl.kept kA (fun e => ?_), h.ids.keptF kA (fun b e f => ?_), h.z⟩, ?_⟩
  · have := (h.k7.kept k (far _ Z.l7.1)).set_ 0 (.slice a9 n9 c9)
    simpa using this
  · have := hr.lowb e; have := Z.l7.1; omega
  · rcases ho b e with e | e
    · exact h.own b e
    · by_cases g : c2 b = 0
      · exact g
      · have := hlow b g; omega
  · rcases e with e | e
    · exact far _ Z.l2 e
    · exact Z.d2 e
  · rcases e with e | e
    · exact far _ Z.ls e
    · exact Z.ds e
  · rcases f with f | f
    · exact far _ (Z.lo b e) f
    · exact Z.o b e f
  · exact (k.keeps (fun b e => h.row.isCb e)).trans ((KeepsOthers.setCell _ _ _).from _)
end
/-- An append, by an equation on its run. -/
theorem wpListIn_append_run {F : Fence} {n : Nat} {P : Program} {w : World} {ops : Array Oper} {rest : List Oper} {o : Oper} {a : Act} {Q : Exit → Act → World → Prop} (hgd : o.guard = none) (s x : Operand) (t : TypeId)
    (ho : o.op = .call { callee := .builtin .append, args := #[s, x], argTypes := #[t, t] }) (v y : Value) (hs : a.eval s = v) (hx : a.eval x = y) {v' : Value} {w' : World}
    (hr : (Builtin.append_ #[t, t] o.type #[v, y]).run P w = .ok v' w') (h : wpListIn F n P ops Q rest (a.put o.dst v') w') : wpListIn F n P ops Q (o :: rest) a w := by
  refine wpListIn_plain hgd fun K hK => ?_
  unfold Oper.wpIn
  refine ⟨by simp [Oper.about, ho, resolve, Target.leads, Sem.run_pure], ?_⟩
  rw [Oper.semAt_plain F _ _ (by rw [ho]; intro c hc'; cases hc')]
  simp [execOp, ho, resolve, invoke, builtin, hs, hx, hr, Result.andThen]
  exact hK _ _ h
end
section
open Go.RowKit Go.Maps Go.WideMaps
set_option maxRecDepth 100000

/-- The numbers that there are, as far as j. -/
def alvT (es : En) (j : Nat) : List Nat := 1 :: ((List.range j).filter fun i => (ent es (i + 2)).isSome).map (· + 2)
theorem alvT_succ (es : En) (j : Nat) : alvT es (j + 1) = if (ent es (j + 2)).isSome = true then alvT es j ++ [j + 2] else alvT es j := by
  unfold alvT
  rw [List.range_succ, List.filter_append, List.map_append]
  by_cases h : (ent es (j + 2)).isSome = true
  · rw [if_pos h]; simp [List.filter, h]
  · rw [if_neg h]; simp [List.filter, h]
theorem alvT_all (es : En) : alvT es es.length = alv es := by
  refine rise_eqN ?_ (alv_rise es) (fun n => ?_)
  · unfold alvT
    refine List.pairwise_cons.2 ⟨fun x hx => ?_, ?_⟩
    · obtain ⟨y, _, rfl⟩ := List.mem_map.1 hx; omega
    · rw [List.pairwise_map]
      exact (List.Pairwise.filter _ List.pairwise_lt_range).imp (fun h => by omega)
  · rw [alv_mem]
    unfold alvT
    constructor
    · intro h
      rcases List.mem_cons.1 h with rfl | h
      · rw [ent_one]; simp
      · obtain ⟨i, hi, rfl⟩ := List.mem_map.1 h
        have := (List.mem_filter.1 hi).2
        intro e
        rw [e] at this; cases this
    · intro h
      cases e : ent es n with
      | none => exact absurd e h
      | some x =>
        have hn := ent_le e
        by_cases h1 : n = 1
        · rw [h1]; simp
        · refine List.mem_cons_of_mem _ (List.mem_map.2 ⟨n - 2, List.mem_filter.2 ⟨List.mem_range.2 (by omega), ?_⟩, by omega⟩)
          rw [show n - 2 + 2 = n by omega, e]; rfl
theorem alvT_len (es : En) (j : Nat) : (alvT es j).length ≤ j + 1 := by
  unfold alvT
  rw [List.length_cons, List.length_map]
  have := List.length_filter_le (fun i => (ent es (i + 2)).isSome) (List.range j)
  rw [List.length_range] at this
  omega
section
variable {w : World} {c : Nat → Nat} {q : Nat} {ls : List (List St)} {es : En}
set_option maxHeartbeats 4000000 in
theorem rall_any (h : RT w c q ls es) (hes : es.length ≤ 4000) {l : List Nat} (hl : alv es = l) :
    Calls Tryz.prog 40 #[.pointer (some ⟨q, 0, none⟩)] w fun e w' => ∃ a cap, e = .returned (.slice a l.length cap) ∧ Row cNt 3 1 w' w.heap.size (.slice a l.length cap) l ∧ Kept Nil w w' := by
  obtain ⟨aL, nL, cL, aC, nC, cC, aO, nO, cO, vL, vC, vO, h⟩ := h
  have HX := Lib.hid h
  have hnC : nC = es.length := by have := h.rC.caps.1; rw [this, h.lC]
  have hnO : nO = es.length := by have := h.rO.caps.1; rw [this, h.lO]
  have hp := h.blk.lt
  have hcC := h.rC.caps.2
  have hcO := h.rO.caps.2
  have kA : Kept Nil w (w.alloc (.cells #[.int .i64 1] 3)) := (Kept.refl _ _).alloc _
  have r0 : Row cNt 3 1 (w.alloc (.cells #[.int .i64 1] 3)) w.heap.size (.slice (some ⟨w.heap.size, 0, none⟩) 1 1) [1] := Row.lit1 w 1 #[.int .i64 1] rfl rfl
  have d1 := (HX.out.kept kA (fun _ e => e.elim)).blk.cell 1
  simp only [List.getElem?_toArray, List.getElem?_cons_zero, List.getElem?_cons_succ] at d1
  obtain ⟨n, hn⟩ : ∃ n, es.length = n := ⟨_, rfl⟩
  rw [hn] at hnC hnO hes
  subst hnC
  subst hnO
  have HN := Lib.hid hn
  have HKA := Lib.hid kA
  have HR0 := Lib.hid r0
  have HLL := Lib.hid hl
  clear h hn kA r0 hl
  go_enter Tryz.func40, Tryz.ntmps40
  go_wp2_with fail
  go_loopw [3, 4, 11] (fun v _ i wr => ∃ (j : Nat) (a2 : Option Addr) (n2 c2 : Nat), j ≤ nO ∧ i = .int .i64 j ∧ v = .slice a2 n2 c2 ∧ Row cNt 3 1 wr w.heap.size (.slice a2 n2 c2) (alvT es j) ∧ Kept Nil w wr) (fun _ _ i _ => nO - (intOf i).toNat)
  case atStart => exact ⟨0, _, 1, 1, Nat.zero_le _, rfl, rfl, HR0.out, HKA.out⟩
  case round =>
    obtain ⟨j, a2, n2, c2, hj, rfl, rfl, hR, hK⟩ := hrel
    have HR := Lib.hid hR
    have HK := Lib.hid hK
    clear d1
    by_cases hlt : j < nO
    · have HXw := Lib.hid (HX.out.kept hK (fun _ e => e.elim))
      obtain ⟨z, hz⟩ : ∃ z, vO[j]? = some z := ⟨_, List.getElem?_eq_getElem (by have := HX.out.lO; have := HN.out; omega)⟩
      obtain ⟨g, rfl, hg, _, qz⟩ := HXw.out.rO.get cNt_len (by decide) hz
      have qz := qz 0 _ rfl
      rw [Nat.mul_one, Nat.add_zero] at qz
      have d2 := HXw.out.blk.cell 2
      simp only [List.getElem?_toArray, List.getElem?_cons_zero, List.getElem?_cons_succ] at d2
      have hpw := HXw.out.blk.lt
      have hjj : (j : Int) < (nO : Int) := by omega
      have HS := Lib.hid (alvT_succ es j)
      cases hent : ent es (j + 2) with
      | none =>
        have hz1 := HX.out.off j (by have := HN.out; omega) hent
        rw [hz] at hz1
        cases hz1
        have HS2 := Lib.hid (show alvT es (j + 1) = alvT es j by rw [HS.out, hent]; rfl)
        clear hK hR hz hent
        go_wp2_with fail
        go_roundw
        case rel => exact ⟨j + 1, a2, n2, c2, hlt, by go_num, rfl, by rw [HS2.out]; exact HR.out, HK.out⟩
        case measure => simp [intOf]; omega
      | some y =>
        have hz1 := (HX.out.on j y hent).1
        rw [hz] at hz1
        cases hz1
        have HS2 := Lib.hid (show alvT es (j + 1) = alvT es j ++ [j + 2] by rw [HS.out, hent]; rfl)
        have hal := alvT_len es j
        obtain ⟨a9, c9, w9, hrun, hR9, k9, _⟩ := hR.push2 elsNt cNt_len (fun x => cNt_one x) 28 HK.out.size (by omega) (j + 2) #[.int .i64 ((j + 2 : Nat) : Int)] rfl
        have HR9 := Lib.hid hR9
        have HK9 := Lib.hid (hK.trans k9 (fun i hi e => by have := hR.lowb e; omega))
        have hj2 : (j : Int) + 2 = ((j + 2 : Nat) : Int) := by omega
        obtain ⟨j2, hj2e⟩ : ∃ j2, j + 2 = j2 := ⟨_, rfl⟩
        have hj2b : j2 ≤ 5000 := by omega
        rw [hj2e] at hrun hj2
        clear hK hR hz hent hR9 k9 hj2e hal
        go_wp2_with (refine wpList_append_run rfl (.tmp 22) (.tmp 25) 28 rfl (.slice a2 n2 c2) (.slice (some ⟨wr.heap.size, 0, none⟩) 1 1) rfl rfl (v' := .slice a9 (n2 + 1) c9) (w' := w9) (by with_reducible exact hrun) ?_)
        go_roundw
        case rel => exact ⟨j + 1, a9, n2 + 1, c9, hlt, by go_num, rfl, by rw [HS2.out]; exact HR9.out, HK9.out⟩
        case measure => simp [intOf]; omega
    · obtain rfl : j = nO := by omega
      have e1 : alvT es j = l := by rw [← HLL.out, ← alvT_all, HN.out]
      rw [e1] at hR
      have hn2 := hR.caps.1
      subst hn2
      have HRR := Lib.hid hR
      clear hK hR
      go_wp2_with fail
      go_ret
      exact ⟨a2, c2, rfl, HRR.out, HK.out⟩
/-- A number's chain; none where there is none. -/
def chn (es : En) (n : Nat) : List St := (ent es n).getD []
set_option maxHeartbeats 4000000 in
theorem rchain_any (h : RT w c q ls es) (hes : es.length ≤ 4000) {n : Nat} (hn : n ≤ 5000) :
    Calls Tryz.prog 42 #[.pointer (some ⟨q, 0, none⟩), .int .i64 n] w fun e w' => ∃ a cap, e = .returned (.tuple #[.slice a (chn es n).length cap, .bool (ent es n).isSome]) ∧ SHolds w (fun b _ => c b = 9) (.slice a (chn es n).length cap) (chn es n) ∧ w' = w := by
  obtain ⟨aL, nL, cL, aC, nC, cC, aO, nO, cO, vL, vC, vO, h⟩ := h
  have HX := Lib.hid h
  have hnC : nC = es.length := by have := h.rC.caps.1; rw [this, h.lC]
  have hnO : nO = es.length := by have := h.rO.caps.1; rw [this, h.lO]
  have hp := h.blk.lt
  have hcC := h.rC.caps.2
  have hcO := h.rO.caps.2
  have d1 := h.blk.cell 1
  have d2 := h.blk.cell 2
  simp only [List.getElem?_toArray, List.getElem?_cons_zero, List.getElem?_cons_succ] at d1 d2
  by_cases h1 : n = 1
  · subst h1
    have e1 : chn es 1 = [] := rfl
    have e2 : (ent es 1).isSome = true := rfl
    rw [e1, e2]
    clear h hnC hnO
    go_enter Tryz.func42, Tryz.ntmps42
    go_wp2_with fail
    go_ret2
    exact ⟨none, 0, rfl, SHolds.nil _ _, rfl⟩
  · obtain ⟨m, hm⟩ : ∃ m, es.length = m := ⟨_, rfl⟩
    have HM := Lib.hid hm
    rw [hm] at hnC hnO hes
    subst hnC
    subst hnO
    have b1 : ((n : Int) == 1) = false := by simp; omega
    have b1n : (n == 1) = false := by simp; omega
    by_cases h2 : n < 2
    · have e0 : ent es n = none := by
        obtain rfl : n = 0 := by omega
        rfl
      have e1 : chn es n = [] := by unfold chn; rw [e0]; rfl
      have e2 : (ent es n).isSome = false := by rw [e0]; rfl
      have b2 : decide ((n : Int) < 2) = true := by simp; omega
      have b2n : decide (n < 2) = true := by simp; omega
      rw [e1, e2]
      clear h hm h1 h2 e0 e1 e2
      go_enter Tryz.func42, Tryz.ntmps42
      go_wp2_with fail
      go_ret2
      exact ⟨none, 0, rfl, SHolds.nil _ _, rfl⟩
    · have b2 : decide ((n : Int) < 2) = false := by simp; omega
      have b2n : decide (n < 2) = false := by simp; omega
      by_cases h3 : nO + 1 < n
      · have e0 : ent es n = none := ent_far (by have := HM.out; omega)
        have e1 : chn es n = [] := by unfold chn; rw [e0]; rfl
        have e2 : (ent es n).isSome = false := by rw [e0]; rfl
        have b3 : decide (((nO : Int) + 1) < (n : Int)) = true := by simp; omega
        have b3n : decide (nO + 1 < n) = true := by simp; omega
        rw [e1, e2]
        clear h hm h1 h2 h3 e0 e1 e2
        go_enter Tryz.func42, Tryz.ntmps42
        go_wp2_with fail
        go_ret2
        exact ⟨none, 0, rfl, SHolds.nil _ _, rfl⟩
      · have b3 : decide (((nO : Int) + 1) < (n : Int)) = false := by simp; omega
        have b3n : decide (nO + 1 < n) = false := by simp; omega
        obtain ⟨j, hj⟩ : ∃ j, n - 2 = j := ⟨_, rfl⟩
        have hjI : (n : Int) - 2 = (j : Int) := by omega
        have hj0 : (0 : Int) ≤ (j : Int) := by omega
        have hjn : (j : Int) < (nO : Int) := by omega
        have hn2 : j + 2 = n := by omega
        obtain ⟨v, hv⟩ : ∃ v, vC[j]? = some v := ⟨_, List.getElem?_eq_getElem (by have := h.lC; omega)⟩
        obtain ⟨z, hz⟩ : ∃ z, vO[j]? = some z := ⟨_, List.getElem?_eq_getElem (by have := h.lO; omega)⟩
        obtain ⟨b, rfl, hb, _, qv⟩ := h.rC.get cV_len (by decide) hv
        obtain ⟨g, rfl, hg, _, qz⟩ := h.rO.get cNt_len (by decide) hz
        have qv := qv 0 _ rfl
        have qz := qz 0 _ rfl
        rw [Nat.mul_one, Nat.add_zero] at qv qz
        cases hent : ent es n with
        | none =>
          have hz1 := h.off j (by omega) (by rw [hn2]; exact hent)
          rw [hz] at hz1
          cases hz1
          have e1 : chn es n = [] := by unfold chn; rw [hent]; rfl
          have e2 : (none : Option (List St)).isSome = false := rfl
          rw [e1, e2]
          clear h hm h1 h2 h3 hent e1 e2 hv hz hj hn2
          go_enter Tryz.func42, Tryz.ntmps42
          go_wp2_with fail
          go_ret2
          exact ⟨none, 0, rfl, SHolds.nil _ _, rfl⟩
        | some y =>
          obtain ⟨hz1, b1', cp1, hv1, hh1⟩ := h.on j y (by rw [hn2]; exact hent)
          rw [hz] at hz1
          rw [hv] at hv1
          cases hz1
          cases hv1
          have e1 : chn es n = y := by unfold chn; rw [hent]; rfl
          have e2 : (some y).isSome = true := rfl
          rw [e1, e2]
          have HH := Lib.hid hh1
          generalize y.length = yl at *
          clear h hm h1 h2 h3 hent e1 e2 hv hz hj hn2 hh1
          go_enter Tryz.func42, Tryz.ntmps42
          go_wp2_with fail
          go_ret2
          exact ⟨b1', cp1, rfl, HH.out, rfl⟩
end
end
section
open Go.RowKit Go.Maps Go.WideMaps
attribute [local go_sem] Oper.semAt_some
set_option maxRecDepth 100000

theorem eqFuncB (f : Nat) (cs : Array Value) (w : World) : (binOp .eql 94 (.func (.func f) #[] cs) .nilFunc).run Tryz.prog w = .ok (.bool false) w := by
  have e : (Op.equalIn (9999 + 1) 94 (.func (.func f) #[] cs) .nilFunc).run Tryz.prog w = .ok false w := by
    unfold Op.equalIn
    simp [run_underlying Tryz.underlying94]
  simp only [binOp]
  simp [show Op.equal 94 (.func (.func f) #[] cs) .nilFunc = Op.equalIn (9999 + 1) 94 (.func (.func f) #[] cs) .nilFunc from rfl, e]
section
variable {w : World} {c : Nat → Nat} {p : Nat} {es : En} {U E : Nat → Int} {ls : List (List St)} {l : List St}
theorem keepsUp {B B' : Nat} {W W' : World} (h : B ≤ B') (k : KeepsFrom B W W') : KeepsFrom B' W W' := ⟨k.size, fun j o hj => k.same j o (Nat.le_trans h hj)⟩
/-- How Remove ends. -/
def RemEnd (c : Nat → Nat) (p : Nat) (ls : List (List St)) (l : List St) (es : En) (U E : Nat → Int) (w : World) (e : Ending) (w' : World) : Prop :=
  ∃ a n cap c2 es2 U2 out, e = .returned (.tuple #[.slice a n cap, .int .i64 0]) ∧ RemI ls l es U ([] :: chSL l []) es2 U2 out ∧ In cNt 1 w' a n out ∧ n ≤ cap ∧ (∀ b, (Value.slice a n cap).ownBlock = some b → w.heap.size ≤ b ∧ b < w'.heap.size ∧ c2 b = 0) ∧ TEG w w' c p es2 U2 (less1 E (fnd es l)) c2
set_option maxHeartbeats 8000000 in
theorem remove_any (ht : TE w c p es U E) (h : TLS ls es U E) (hn : es.length ≤ 2000) (hls : ls.length ≤ 1000) (hl : Rl l) (hm : l ∈ ls) (ok : Nat → Nat → Prop) (hok : ∀ b o, ok b o → b < w.heap.size ∧ c b = 0) (a : Option Addr) (cap : Nat) (hH : SHolds w ok (.slice a l.length cap) l) :
    Calls Tryz.prog 10 #[.pointer (some ⟨p, 0, none⟩), .slice a l.length cap] w (RemEnd c p ls l es U E w) := by
  obtain ⟨b2, hb2e⟩ : ∃ b2, w.heap.size = b2 := ⟨_, rfl⟩
  have kA : Kept Nil w (w.alloc (.cells #[.pointer (some ⟨p, 0, none⟩)] 23)) := (Kept.refl _ _).alloc _
  have bB : Blk (w.alloc (.cells #[.pointer (some ⟨p, 0, none⟩)] 23)) b2 23 #[.pointer (some ⟨p, 0, none⟩)] := by rw [← hb2e]; exact Blk.new _ _ _
  have hc2 : c b2 = 0 := by
    by_cases e : c b2 = 0
    · exact e
    · have := ht.low b2 e; omega
  have CF := Lib.hid (fun W (kW : Kept Nil w W) => find_any (ht.keptN kW) (by omega) l hl ok (fun b o e => Nat.lt_of_lt_of_le (hok b o e).1 kW.size) a cap (hH.keptN kW))
  have hlf : fnd es l ≠ 0 := by
    by_cases e : l = []
    · rw [e, fnd_nil]; omega
    · exact (h.tl.all l e).2 ((usesL_pos e).2 ⟨l, hm, chain_self e⟩)
  have hfl := fnd_lt (es := es) (c := l)
  have hE : E (fnd es l) = (endsL ls l : Nat) := h.en l hlf
  have hE0 : 0 < endsL ls l := endsL_pos.2 hm
  have hEb := endsL_le ls l
  have LV := Lib.hid (fun W (kW : Kept Nil w W) => (ht.keptN kW).lookV (n := fnd es l) (by omega))
  have CD := Lib.hid (fun W (kW : Kept Nil w W) => ch_decE_E (ht.keptN kW) (by omega) (x := l) (i := fnd es l) rfl hlf (by omega))
  have HT := Lib.hid ht
  have HLS := Lib.hid h
  have HH := Lib.hid hH
  have HOK := Lib.hid hok
  have HENT := Lib.hid ((ent_fnd h.tl.ok (c := l)).2 ⟨hlf, rfl⟩)
  have HLF := Lib.hid hlf
  have HEE := Lib.hid (And.intro hE hE0)
  generalize hln : l.length = len at *
  have HLEN := Lib.hid hln
  obtain ⟨f, hf⟩ : ∃ f, fnd es l = f := ⟨_, rfl⟩
  have HF := Lib.hid hf
  simp only [hf] at CF LV CD
  have HKA := Lib.hid kA
  clear h ht hH hok hlf hfl hE hE0 hEb hln hf kA
  refine (callsIn_wide (n := 9)).1 ?_
  refine callsIn_of_wp_marks Tryz.func10 rfl trivial ?_ rfl
  simp only [Tryz.ntmps10, List.size_toArray, List.length_cons, List.length_nil, Nat.reduceAdd, Nat.reduceSub, Array.replicate_succ, Array.replicate_zero, List.push_toArray, List.append_toArray, List.nil_append, List.cons_append]
  gi_wp2
  refine ⟨trivial, (callsIn_wide.2 (CF.out _ HKA.out)).mono ?_⟩
  rintro e w1 ⟨rfl, k1⟩
  have hT1 := bB.cell 0
  have K1 := Lib.hid (HKA.out.trans k1 (fun _ _ e => e))
  obtain ⟨bn, v, d0, hlk, _, hv⟩ := LV.out w1 K1.out
  have hv2 : v.li = E f := by
    rw [← HF.out, HENT.out] at hv
    have := hv.li
    rw [HF.out] at this
    exact this
  have hli := fieldLi v
  rw [hv2, ← HF.out, HEE.out.1] at hli
  have BT1 := Lib.hid (bB.kept k1 (fun e => e))
  have d1 := BT1.out.cell 0
  simp only [List.getElem?_toArray, List.getElem?_cons_zero] at d1
  have hp0 := (HT.out.keptN K1.out).lt
  have hne2 : (((endsL ls l : Nat) : Int) == 0) = false := by have := HEE.out.2; simp; omega
  generalize ((endsL ls l : Nat) : Int) = en at *
  generalize aN v = av at *
  clear hv hv2 k1 bB hT1
  gi_wp2
  refine ⟨trivial, (callsIn_wide.2 (CD.out w1 K1.out)).mono ?_⟩
  rintro e w2 ⟨rfl, c1, t1⟩
  have HT1 := Lib.hid t1
  have bt2 := BT1.out.kept t1.kept (fun e => e.1 hc2)
  have H2 := Lib.hid (show SHolds w2 ok (.slice a len cap) l from (HH.out.keptN K1.out).kept t1.kept (fun b o e f => f.1 (HOK.out b o e).2))
  have hsz2 := Lib.hid (Nat.le_trans K1.out.size t1.kept.size)
  obtain ⟨m, hmc⟩ : ∃ m, (chSL l []).length = m := ⟨_, rfl⟩
  have HMC := Lib.hid hmc
  have hch := hl.chs
  have CP := Lib.hid (fun W (kW : Kept Nil w2 W) => by
    have := pathN_any (HT1.out.te.keptN kW) (by omega) l hl hmc ok (fun b o e => Nat.lt_of_lt_of_le (HOK.out b o e).1 (Nat.le_trans hsz2.out kW.size)) a cap (by rw [HLEN.out]; exact H2.out.keptN kW)
    rw [HLEN.out] at this
    exact this)
  rw [hmc] at hch
  clear t1 hli hlk d0 d1 hne2 hmc
  have k3 := (Kept.refl Nil w2).alloc (.cells #[.slice none 0 0] 28)
  have bt3 := bt2.kept k3 (fun e => e)
  have d1 := bt3.cell 0
  have d2 := bt2.cell 0
  have BT3 := Lib.hid bt3
  have B7 := Lib.hid (Blk.new w2 28 #[.slice none 0 0])
  have K3 := Lib.hid k3
  simp only [List.getElem?_toArray, List.getElem?_cons_zero] at d1 d2
  clear bt2 bt3 k3
  gi_wp2
  refine ⟨trivial, (callsIn_wide.2 (CP.out _ K3.out)).mono ?_⟩
  rintro e w4 ⟨a', cap', rfl, hr, k4⟩
  rw [show (1 :: (chSL l []).map (fnd es)) = idsE es l from rfl] at hr
  obtain ⟨m1, hm1⟩ : ∃ m1, m + 1 = m1 := ⟨_, rfl⟩
  have HM1 := Lib.hid hm1
  rw [hm1] at hr ⊢
  have HR := Lib.hid hr
  have K4 := Lib.hid (K3.out.trans k4 (fun _ _ e => e))
  have BT4 := Lib.hid (BT3.out.kept k4 (fun e => e))
  have B74 := Lib.hid (B7.out.kept k4 (fun e => e))
  obtain ⟨b7, hb7⟩ : ∃ b7, w2.heap.size = b7 := ⟨_, rfl⟩
  simp only [hb7] at B74 ⊢
  have HB7 := Lib.hid hb7
  clear hr k4 d1 d2 hm1 hb7
  gi_wp2
  refine ⟨trivial, (callsIn_wide.2 (back_any a' m1 cap')).mono ?_⟩
  rintro e w5 ⟨rfl, hw5⟩
  have K5 := Lib.hid (show Kept Nil w4 w5 from hw5 ▸ (Kept.refl Nil w4).alloc _)
  have BS5 := Lib.hid (show Blk w5 w4.heap.size 28 #[.slice a' m1 cap'] from hw5 ▸ Blk.new _ _ _)
  obtain ⟨bs, hbs⟩ : ∃ bs, w4.heap.size = bs := ⟨_, rfl⟩
  simp only [hbs] at BS5 ⊢
  have HBS := Lib.hid hbs
  have qf := fun W cs => eqFuncB 59 cs W
  have HS5 := Lib.hid (show w5.heap.size = bs + 1 by rw [hw5, World.size_alloc, hbs])
  clear hw5 hbs
  gi_wp2
  have hz2 := HB7.out
  have hz4 := HBS.out
  have h42 := K4.out.size
  have h34 := K3.out.size
  have h54 := K5.out.size
  have hlow1 := HT1.out.te.low
  have hcz : ∀ b, w2.heap.size ≤ b → c1 b = 0 := fun b hb => by
    by_cases e : c1 b = 0
    · exact e
    · have := hlow1 b e; omega
  have K25 := Lib.hid (K4.out.trans K5.out (fun _ _ e => e))
  have hlen : ([] :: chSL l []).length = m1 := by rw [List.length_cons, HMC.out]; exact HM1.out
  have hc1b2 : c1 b2 = 0 := HT1.out.zero BT1.out.lt hc2
  have hc2lt : b2 < w2.heap.size := Nat.lt_of_lt_of_le BT1.out.lt HT1.out.kept.size
  have HSO := Lib.hid (show ∀ b, (Value.slice a' m1 cap').ownBlock = some b → b < w5.heap.size ∧ c1 b = 0 from fun b hb => by
    obtain ⟨cs, t, e⟩ := HR.out.isCb hb
    have h1 := (Array.getElem?_eq_some_iff.1 e).1
    have h2 := HR.out.lowb hb
    have h3 := K3.out.size
    exact ⟨by omega, hcz b (by omega)⟩)
  have HI := Lib.hid (show RemV w2 w5.heap.size c1 p b2 b7 bs ls l es U (less1 E f) m1 (.slice a' m1 cap') (w2.alloc (.cells #[.slice none 0 0] 28)).heap.size [] w5 from
    RemS.toV ⟨(TEG.refl HT1.out.te).thenN K25.out, B74.out.kept K5.out (fun e => e), Row.nil _ _, (fun b e => by cases e), BT4.out.kept K5.out (fun e => e), BS5.out, HR.out.keptN K5.out, hc1b2, hcz _ (by omega), hcz _ (by omega), fun b e => (HSO.out b e).2⟩ (Nat.zero_le _)
      (show ([] :: chSL l []).drop (m1 - ([] : List (Nat × Nat)).length) = [] from List.drop_eq_nil_of_le (by rw [hlen]; simp)) (RemI.nil HLS.out.tl.ok))
  have HZ := Lib.hid (show RemW w2 w5.heap.size b2 b7 bs (.slice a' m1 cap') from
    ⟨by have := BT4.out.lt; omega, ⟨by have := B74.out.lt; omega, by omega⟩, BS5.out.lt, fun b e => (HSO.out b e).1, fun e => by have := hc2lt; omega, fun e => by have := B74.out.lt; omega, fun b e g => by have := HR.out.lowb e; rw [World.size_alloc] at this; omega, by omega⟩)
  refine wpIn_rangeFunc_told (a₁ := ?a1) rfl (by decide) (gf := 59) (lb := #[.pointer (some ⟨bs, 0, none⟩)]) rfl trivial (enters_of Tryz.func59 (by kernel_rfl) rfl)
    (back_told (w2.alloc (.cells #[.slice none 0 0] 28)).heap.size bs a' m1 cap' (idsE es l) (by have := HM1.out; omega) 8 w5) (Below.refl _ _) (fun _ => rfl)
    (RemV w2 w5.heap.size c1 p b2 b7 bs ls l es U (less1 E f) m1 (.slice a' m1 cap') (w2.alloc (.cells #[.slice none 0 0] 28)).heap.size) (fun _ _ _ => False) (RemV.own (by omega)) (fun _ _ _ _ _ h => h.elim)
    (fun pre V h => by obtain ⟨c2, es2, U2, out, a, n, cap, S, r⟩ := h.ex; exact ⟨S.sl, S.ids⟩) HI.out ?assign ?body ?done ?stop
  case assign =>
    intro l x W K hK
    dsimp only [encB]
    gi_wp2
    exact hK
  case body =>
    rintro l2 pre ⟨j, id⟩ W hI hok
    obtain ⟨hj, hid⟩ := hok
    rw [idsE_eq, List.getElem?_map] at hid
    obtain ⟨x, hx, rfl⟩ := Option.map_eq_some_iff.1 hid
    dsimp only at hj hx
    obtain ⟨c2, es2, U2, out, ao, no, co, S, r⟩ := hI.ex
    have hcs : [] :: chSL l [] = ([] :: chSL l []).take j ++ x :: ([] :: chSL l []).drop (j + 1) := by
      have hlt := (List.getElem?_eq_some_iff.1 hx).1
      rw [← (List.getElem?_eq_some_iff.1 hx).2, List.getElem_cons_drop, List.take_append_drop]
    rw [show m1 - pre.length = j + 1 by omega] at r
    obtain ⟨q1, q2, q3, q4, q5⟩ := RemI.round HLS.out hm hcs r
    have hdone : ([] :: chSL l []).drop (m1 - (pre ++ [(j, fnd es x)]).length) = x :: ([] :: chSL l []).drop (j + 1) := by
      have e : m1 - (pre ++ [(j, fnd es x)]).length = j := by simp; omega
      have hlt := (List.getElem?_eq_some_iff.1 hx).1
      rw [e, ← (List.getElem?_eq_some_iff.1 hx).2, List.getElem_cons_drop]
    have hUb := (HLS.out.bnd (fnd es x)).1
    have hUr := r.us (fnd es x)
    have hU2 : -1000000 ≤ U2 (fnd es x) ∧ U2 (fnd es x) ≤ 1000000 := by
      rw [hUr]; split <;> omega
    have hx0 : fnd es x = 1 ↔ x = [] := fnd_one
    have hbig := fnd_lt (es := es) (c := x)
    have CD2 := Lib.hid (ch_decU_E S.t.te (by have := r.len; omega) (x := x) q1 q2 hU2)
    have hp1 := S.t.te.lt
    have g0 := S.tr.cell 0
    simp only [List.getElem?_toArray, List.getElem?_cons_zero] at g0
    have HS := Lib.hid S
    have HOL := Lib.hid (show out.length ≤ 100 from by
      rw [r.out, List.length_map]
      refine Nat.le_trans (List.length_filter_le _ _) ?_
      rw [List.length_reverse, List.length_drop, hlen]
      have := HM1.out; omega)
    have HLE := Lib.hid (show (pre ++ [(j, fnd es x)]).length ≤ m1 by simp; omega)
    have HRL := Lib.hid r.len
    have HG := Lib.hid (show fnd es x = 1 → goes ls l x = false from fun e => by unfold goes; rw [decide_eq_false]; exact fun g => g.1 (fnd_one.1 e))
    have HG1 := Lib.hid (show fnd es x ≠ 1 → usesL (ls.erase l) x = 0 → goes ls l x = true from fun e g => by unfold goes; exact decide_eq_true ⟨fun e2 => e (fnd_one.2 e2), g⟩)
    have HG2 := Lib.hid (show usesL (ls.erase l) x ≠ 0 → goes ls l x = false from fun g => by unfold goes; rw [decide_eq_false]; exact fun e => g e.2)
    have HQ4 := Lib.hid q4
    have HQ5 := Lib.hid q5
    have HD := Lib.hid hdone
    generalize fnd es x = id at *
    clear hI S r q4 q5 hdone hcs hx hUb hUr hU2 qf hid hj
    gi_wp2
    refine ⟨trivial, (CallsIn.inRound l2 (callsIn_wide.2 CD2.out)).mono ?_⟩
    rintro e W1 ⟨rfl, c3, t3⟩
    have HS1 := Lib.hid (HS.out.step t3)
    have HK1 := Lib.hid (keepsUp (HZ.out.le) (HS.out.t.keeps t3))
    have g1 := HS1.out.tr.cell 0
    simp only [List.getElem?_toArray, List.getElem?_cons_zero] at g1
    have HUS := Lib.hid (uses_any t3.te (n := id) (by omega))
    rw [q3] at HUS
    have hp2 := t3.te.lt
    clear t3 g0 CD2 hx0
    by_cases h1 : id = 1
    · have e1 : ((id : Int) != 1) = false := by simp; omega
      have HN := Lib.hid (HS1.out.toV HLE.out HD.out (HQ5.out (HG.out h1)))
      clear h1
      gi_wp2
      refine ⟨trivial, ?_⟩
      gi_wp2
      exact ⟨HK1.out, trivial, HN.out⟩
    · have e1 : ((id : Int) != 1) = true := by simp; omega
      have h1' := Lib.hid h1
      clear h1
      gi_wp2
      refine ⟨trivial, (CallsIn.inRound l2 (callsIn_wide.2 HUS.out)).mono ?_⟩
      rintro e W2 ⟨rfl, rfl⟩
      by_cases h2 : usesL (ls.erase l) x = 0
      · have e2 : (((usesL (ls.erase l) x : Nat) : Int) == 0) = true := by simp [h2]
        have HG3 := Lib.hid (HG1.out h1'.out h2)
        obtain ⟨gc, r6⟩ := HQ4.out HG3.out
        have CT := Lib.hid (take_E HS1.out.t.te (by have := HRL.out; omega) gc)
        have HR6 := Lib.hid r6
        clear h2 gc r6
        gi_wp2
        refine ⟨trivial, (CallsIn.inRound l2 (callsIn_wide.2 CT.out)).mono ?_⟩
        rintro e W3 ⟨rfl, c4, t4⟩
        have HS2 := Lib.hid (HS1.out.step t4)
        have HK2 := Lib.hid (HK1.out.trans (keepsUp (HZ.out.le) (HS1.out.t.keeps t4)))
        have g2 := HS2.out.k7.cell 0
        simp only [List.getElem?_toArray, List.getElem?_cons_zero] at g2
        have hB3 : w5.heap.size ≤ W3.heap.size := by have := HS2.out.sl.lt; have := HS5.out; omega
        obtain ⟨a9, c9, W4, hrun, hR9, k9, ho9⟩ := HS2.out.row.push2 elsNt cNt_len cNt_one 28 hB3 (by have := HOL.out; omega) id #[.int .i64 id] rfl
        have hP := HS2.out.push HZ.out k9 hR9 ho9
        have HP := Lib.hid (And.intro (HK2.out.trans hP.2) (hP.1.toV HLE.out HD.out HR6.out))
        have q7 := (HS2.out.k7.kept k9 (fun e => by have := HS2.out.row.lowb e; have := HZ.out.l7; omega)).frozen 0
        have q8 := (HS2.out.k7.kept k9 (fun e => by have := HS2.out.row.lowb e; have := HZ.out.l7; omega)).cell 0
        simp only [List.getElem?_toArray, List.getElem?_cons_zero] at q8
        clear t4 CT hR9 k9 ho9 hP
        gi_wp2_with (refine wpListIn_append_run rfl (.tmp 45) (.tmp 47) 28 rfl _ _ rfl rfl hrun ?_)
        exact ⟨HP.out.1, trivial, HP.out.2⟩
      · have e2 : (((usesL (ls.erase l) x : Nat) : Int) == 0) = false := by simp; omega
        have HN := Lib.hid (HS1.out.toV HLE.out HD.out (HQ5.out (HG2.out h2)))
        clear h2
        gi_wp2
        exact ⟨HK1.out, trivial, HN.out⟩
  case done =>
    rintro D xs W hD hS hI hK
    have hlt : D < W.heap.size := (Array.getElem?_eq_some_iff.1 hK).1
    obtain ⟨c2, es2, U2, out, ao, no, co, S, r⟩ := hI.ex
    rw [show xs.length = m1 from hS, Nat.sub_self, List.drop_zero] at r
    have c4 := S.k7.cell 0
    simp only [List.getElem?_toArray, List.getElem?_cons_zero] at c4
    have HS := Lib.hid S
    have HR9 := Lib.hid r
    have HKD := Lib.hid hK
    clear hI hK hS S r qf
    gi_wp2
    refine ⟨by simp, .inl ⟨_, _, rfl, run_takeDeferred HKD.out, ?_⟩⟩
    have hg := grownBy_putObj' W D (.deferred none)
    have hr9 : ∀ r, some D = some r → w2.heap.size ≤ r ∧ ∃ o : Obj, W.heap[r]? = some o ∧ o.isCells = false := fun r e => by
      cases e
      exact ⟨by omega, _, HKD.out, rfl⟩
    have kk := kept_of_row hg
    have noC : ∀ {x : Nat}, isC W x → ¬ some D = some x := fun hx e => by
      cases e
      obtain ⟨cs, t, e2⟩ := hx
      rw [HKD.out] at e2; cases e2
    have t9 := HS.out.t.own hg hr9
    have row9 := HS.out.row.keptF kk (fun x e f => noC (HS.out.row.isCb e) f)
    refine ⟨_, ?_, ao, no, co, c2, es2, U2, out, rfl, HR9.out, row9.toIn cNt_len (by decide), row9.caps.2.1, fun b e => ⟨?_, ?_, HS.out.own b e⟩, ?_⟩
    · simp [results, Tryz.f10, go_sem]
    · have := row9.lowb e; have := K1.out.size; have := HT1.out.kept.size; omega
    · obtain ⟨cs, t, e2⟩ := row9.isCb e
      exact (Array.getElem?_eq_some_iff.1 e2).1
    · rw [HF.out]
      exact TEG.afterN K1.out HT.out.low (HT1.out.trans t9)
  case stop => exact fun _ _ _ _ _ h => h.elim
end
end
section
open Go.RowKit Go.Maps Go.WideMaps
set_option maxRecDepth 100000

section
variable {w : World} {c : Nat → Nat} {p : Nat} {es : En} {U E : Nat → Int}
/-- A number's inner node. -/
def innN (es : En) (n : Nat) : Nat := match ent es n with
  | none => 0
  | some x => inE es x
theorem inner_any (h : TE w c p es U E) {n : Nat} (hn : n ≤ 4611686018427387904) :
    Calls Tryz.prog 46 #[.pointer (some ⟨p, 0, none⟩), .int .i64 n] w fun e w' => e = .returned (.int .i64 (innN es n : Nat)) ∧ w' = w := by
  obtain ⟨bn, v, c0, hl, _, hv⟩ := h.lookV hn
  have hu : v.sp.q = innN es n := by
    unfold innN
    cases e : ent es n with
    | none => rw [e] at hv; rw [hv]; rfl
    | some x => rw [e] at hv; rw [hv.sp]; exact shE_q es x
  have hf := fieldSp v
  have hf2 := fieldQ v.sp
  rw [hu] at hf2
  have hp := h.lt
  clear h hv hu
  generalize innN es n = u at *
  generalize aN v = av at *
  generalize aSp v.sp = sv at *
  go_enter Tryz.func46, Tryz.ntmps46
  go_wp2_with fail
  go_ret
  exact ⟨rfl, rfl⟩
/-- slices.Clone of numbers. -/
theorem cloneI_any {w : World} {a : Option Addr} {n cap : Nat} {l : List Nat} (h : RowN w (.slice a n cap) l) (hl : l.length ≤ 5000) :
    Calls Tryz.prog 72 #[.slice a n cap] w fun e w' => ∃ a' cap', e = .returned (.slice a' n cap') ∧ In cNt 1 w' a' n l ∧ Kept Nil w w' := by
  have hI := h.toIn cNt_len (by decide)
  have hn : n = l.length := h.caps.1
  cases a with
  | none =>
    have h0 : n = 0 := by
      obtain ⟨e, h2⟩ := hI
      rcases h2 with h2 | ⟨b, o, e2, _⟩
      · exact h2
      · cases e2
    subst h0
    have hnil : ∀ W : World, (binOp .eql 28 (.slice none 0 cap) (.slice none 0 0)).run Tryz.prog W = .ok (.bool true) W := fun W => Lib.run_eql_slice_nil W _ _ _ _ _ _ _ Tryz.underlying28
    clear h hl hn
    go_enter Tryz.func72, Tryz.ntmps72
    go_wp2_with fail
    go_ret
    exact ⟨none, 0, rfl, hI, Kept.refl _ _⟩
  | some ad =>
    have own0 : Row cNt 3 1 (w.alloc (.cells #[] 3)) w.heap.size (.slice (some ⟨w.heap.size, 0, none⟩) 0 0) [] := World.ownsRow_lit w #[] 0 (Nat.le_refl _) (by unfold maxLen; omega) rfl
    have ka := (Kept.refl Nil w).alloc (.cells #[] 3)
    obtain ⟨a', cap', w', hrun, hR, k, _⟩ := own0.pushAll2 elsNt cNt_len (fun x => cNt_one x) (by decide) 28 (by simp) (by simp) (hI.kept ka) (by omega) (c2 := cap)
    rw [List.nil_append, Nat.zero_add] at hR
    rw [Nat.zero_add] at hrun
    have HR := Lib.hid hR
    have HK := Lib.hid (ka.trans k (fun i hi e => by simp [Value.ownBlock] at e; omega))
    have hnil : ∀ W : World, (binOp .eql 28 (.slice (some ad) n cap) (.slice none 0 0)).run Tryz.prog W = .ok (.bool false) W := fun W => Lib.run_eql_slice_nil W _ _ _ _ _ _ _ Tryz.underlying28
    clear own0 ka hR k h hI hn hl
    go_enter Tryz.func72, Tryz.ntmps72
    go_wp2_with (at_builtin; refine wpList_append_run rfl (.tmp 5) (.tmp 6) 28 rfl (.slice (some ⟨w.heap.size, 0, none⟩) 0 0) (.slice (some ad) n cap) rfl rfl (v' := .slice a' n cap') (w' := w') (by with_reducible exact hrun) ?_)
    go_ret
    exact ⟨a', cap', rfl, HR.out.toIn cNt_len (by decide), HK.out⟩
/-- The numbers of a node's kids, of its outer nodes; none where there is no node. -/
def kidN (es : En) (n : Nat) : List Nat := match ent es n with
  | none => []
  | some _ => kidsE es n
def outN (es : En) (n : Nat) : List Nat := match ent es n with
  | none => []
  | some _ => outerE es n
theorem fieldKb (v : Nv) (w : World) : (Instr.field 89 (.agg (aN v)) 1).run Tryz.prog w = .ok (sl v.kb v.kn v.kc) w := by
  obtain ⟨⟨sp, sk, sa, sb, sc, x0, x1, x2, x3, x4, x5, x6, x7, x8, sn, sq⟩, kb, kn, kc, ob, on, oc, li, us⟩ := v
  kernel_rfl
theorem fieldOb (v : Nv) (w : World) : (Instr.field 89 (.agg (aN v)) 2).run Tryz.prog w = .ok (sl v.ob v.on v.oc) w := by
  obtain ⟨⟨sp, sk, sa, sb, sc, x0, x1, x2, x3, x4, x5, x6, x7, x8, sn, sq⟩, kb, kn, kc, ob, on, oc, li, us⟩ := v
  kernel_rfl
theorem kids_any (h : TE w c p es U E) (hes : es.length ≤ 4000) {n : Nat} (hn : n ≤ 4611686018427387904) {k : Nat} (hk : (kidN es n).length = k) :
    Calls Tryz.prog 47 #[.pointer (some ⟨p, 0, none⟩), .int .i64 n] w fun e w' => ∃ a cap, e = .returned (.slice a k cap) ∧ In cNt 1 w' a k (kidN es n) ∧ Kept Nil w w' := by
  obtain ⟨bn, v, c0, hl, _, hv⟩ := h.lookV hn
  have hu : RowN w (sl v.kb v.kn v.kc) (kidN es n) := by
    unfold kidN
    cases e : ent es n with
    | none => rw [e] at hv; rw [hv]; exact Row.nil _ _
    | some x => rw [e] at hv; exact hv.kr
  have hkl : (kidN es n).length ≤ 5000 := by
    unfold kidN
    split
    · simp
    · refine Nat.le_trans (List.length_filter_le _ _) ?_
      rw [List.length_range]; omega
  have hf := fieldKb v
  have hp := h.lt
  unfold sl at hu hf
  have hkn : v.kn = k := by rw [← hk]; exact hu.caps.1
  have HC := Lib.hid (cloneI_any hu hkl)
  rw [hkn] at hf HC
  clear h hv hu hkl
  generalize aN v = av at *
  generalize (v.kb.map fun x => (⟨x, 0, none⟩ : Addr)) = ak at *
  generalize v.kc = kc at *
  go_enter Tryz.func47, Tryz.ntmps47
  go_wp2_with fail
  refine HC.out.mono ?_
  rintro e w2 ⟨a', cap', rfl, h2, k2⟩
  have H2 := Lib.hid (And.intro h2 k2)
  clear h2 k2 HC
  go_wp2_with fail
  go_ret
  exact ⟨a', cap', rfl, H2.out.1, H2.out.2⟩
theorem outer_any (h : TE w c p es U E) (hes : es.length ≤ 4000) {n : Nat} (hn : n ≤ 4611686018427387904) {k : Nat} (hk : (outN es n).length = k) :
    Calls Tryz.prog 48 #[.pointer (some ⟨p, 0, none⟩), .int .i64 n] w fun e w' => ∃ a cap, e = .returned (.slice a k cap) ∧ In cNt 1 w' a k (outN es n) ∧ Kept Nil w w' := by
  obtain ⟨bn, v, c0, hl, _, hv⟩ := h.lookV hn
  have hu : RowN w (sl v.ob v.on v.oc) (outN es n) := by
    unfold outN
    cases e : ent es n with
    | none => rw [e] at hv; rw [hv]; exact Row.nil _ _
    | some x => rw [e] at hv; exact hv.or
  have hkl : (outN es n).length ≤ 5000 := by
    unfold outN
    split
    · simp
    · refine Nat.le_trans (List.length_filter_le _ _) ?_
      rw [List.length_range]; omega
  have hf := fieldOb v
  have hp := h.lt
  unfold sl at hu hf
  have hkn : v.on = k := by rw [← hk]; exact hu.caps.1
  have HC := Lib.hid (cloneI_any hu hkl)
  rw [hkn] at hf HC
  clear h hv hu hkl
  generalize aN v = av at *
  generalize (v.ob.map fun x => (⟨x, 0, none⟩ : Addr)) = ak at *
  generalize v.oc = kc at *
  go_enter Tryz.func48, Tryz.ntmps48
  go_wp2_with fail
  refine HC.out.mono ?_
  rintro e w2 ⟨a', cap', rfl, h2, k2⟩
  have H2 := Lib.hid (And.intro h2 k2)
  clear h2 k2 HC
  go_wp2_with fail
  go_ret
  exact ⟨a', cap', rfl, H2.out.1, H2.out.2⟩
end
end
section
open Go.RowKit Go.Maps Go.WideMaps
set_option maxRecDepth 100000

section
variable {w : World} {c : Nat → Nat} {q : Nat} {ls : List (List St)} {es : En}
set_option maxHeartbeats 4000000 in
theorem rinner_any (h : RT w c q ls es) (ht : Sm es) (hes : es.length ≤ 4000) {n : Nat} (hn : n ≤ 5000) :
    Calls Tryz.prog 51 #[.pointer (some ⟨q, 0, none⟩), .int .i64 n] w fun e w' => e = .returned (.int .i64 (innN es n : Nat)) ∧ Kept Nil w w' := by
  have CC := Lib.hid (rchain_any h hes hn)
  have HH := Lib.hid h
  have HT := Lib.hid ht
  clear h ht
  cases hent : ent es n with
  | none =>
    have e1 : chn es n = [] := by unfold chn; rw [hent]; rfl
    have e2 : innN es n = 0 := by unfold innN; rw [hent]
    rw [e1, hent] at CC
    rw [e2]
    clear hent e1 e2
    go_enter Tryz.func51, Tryz.ntmps51
    go_wp2_with fail
    refine CC.out.mono ?_
    rintro e w1 ⟨a, cap, rfl, hS, rfl⟩
    go_wp2_with fail
    go_ret
    exact ⟨rfl, Kept.refl _ _⟩
  | some x =>
    have e1 : chn es n = x := by unfold chn; rw [hent]; rfl
    have e2 : innN es n = inE es x := by unfold innN; rw [hent]
    have hmx := HT.out.ms _ _ hent
    rw [e1, hent] at CC
    rw [e2]
    by_cases hx0 : x = []
    · subst hx0
      have e3 := inE_nil es
      rw [e3]
      clear hent e1 e2 e3 hmx
      go_enter Tryz.func51, Tryz.ntmps51
      go_wp2_with fail
      refine CC.out.mono ?_
      rintro e w1 ⟨a, cap, rfl, hS, rfl⟩
      go_wp2_with fail
      go_ret
      exact ⟨rfl, Kept.refl _ _⟩
    · obtain ⟨d, hd, subs, rfl⟩ := snoc_of hx0
      rw [massL_append] at hmx
      simp only [massL, St.mass] at hmx
      have hdl := length_massL d
      obtain ⟨dl, hdle⟩ : ∃ dl, d.length = dl := ⟨_, rfl⟩
      obtain ⟨len, hlen⟩ : ∃ len, (d ++ [St.mk hd subs]).length = len := ⟨_, rfl⟩
      have hld : len = dl + 1 := by rw [← hlen, List.length_append, hdle]; rfl
      have HDL := Lib.hid hdle
      have HLEN := Lib.hid hlen
      simp only [hlen] at CC
      have hl0 : ((len : Int) == 0) = false := by simp; omega
      have hkI : (len : Int) - 1 = (dl : Int) := by omega
      have hk0 : (0 : Int) ≤ (dl : Int) := by omega
      have hk1 : (dl : Int) < (len : Int) := by omega
      have hlb : len ≤ 5001 := by omega
      have HM := Lib.hid hmx
      clear hent e1 e2 hx0 hlen hdle hmx hdl
      go_enter Tryz.func51, Tryz.ntmps51
      go_wp2_with fail
      refine CC.out.mono ?_
      rintro e w1 ⟨a, cap, rfl, hS, rfl⟩
      obtain ⟨b, o, at_, ct, as_, cs, rfl, hok, hr, hT, hK⟩ := hS.at_ (i := dl) (hd := hd) (sb := subs) (by rw [← HDL.out]; simp)
      have q0 := hr 0 _ rfl
      have q5 := hr 5 _ rfl
      rw [Nat.add_zero] at q0
      have hbl := blk_lt q0
      have hfit := hS.fits.2
      by_cases hk3 : hd.k = 3
      · rw [hk3] at q0
        have HFI := Lib.hid (show inE es (d ++ [St.mk hd subs]) = fnd es (d ++ subs) by rw [inE_snoc, if_pos hk3])
        have hfst := hS.first (k := dl) (by omega)
        rw [show (d ++ [St.mk hd subs]).take dl = d by rw [← HDL.out]; simp] at hfst
        obtain ⟨ps, hps, hL, hP⟩ := hfst.pairs
        obtain ⟨qs, hqs, hL2, hP2⟩ := hK.pairs
        have hpl : ps.length = dl := by rw [← HDL.out, ← hps, trS_len]
        have hql : qs.length = subs.length := by rw [← hqs, trS_len]
        have hsl := length_massL subs
        have hm := HM.out
        obtain ⟨v5, w5, r5, o5, k5, _⟩ := RowD.append (P := Tryz.prog) elsQ 35 (RowD.nil (D := kS) (e := 82) (B := w1.heap.size) w1) hL hP (by simp; omega) (Nat.le_refl _)
        rw [List.nil_append] at o5
        have K5 : Kept Nil w1 w5 := k5.mono (fun i hi e => by simp [Value.ownBlock] at e)
        obtain ⟨a5, c5, rfl, hc5⟩ := o5.shape
        obtain ⟨v6, w6, r6, o6, k6, _⟩ := RowD.append (P := Tryz.prog) elsQ 35 o5 (hL2.keptN K5) (hP2.kept K5 (fun _ _ _ g => g)) (by omega) K5.size
        have K6 : Kept Nil w1 w6 := K5.trans k6 (fun i hi e => by have := (o5.base i e).1; omega)
        obtain ⟨a6, c6, rfl, hc6⟩ := o6.shape
        have hSH := (o6.lies).sholds (ok := fun _ _ => True) (((hP.kept K6 (fun _ _ _ g => g)).append (hP2.kept K6 (fun _ _ _ g => g))).mono (fun _ _ _ => trivial)) hc6 (fun _ _ _ => trivial)
        rw [trS_append, hps, hqs] at hSH
        have CF := Lib.hid (rfind_any (HH.out.keptN K6) HT.out hes (d ++ subs) (by rw [massL_append]; omega) _ a6 c6 (by rw [List.length_append, HDL.out, ← hpl, ← hql, ← List.length_append]; exact hSH))
        rw [List.length_append, HDL.out, ← hpl, ← hql, ← List.length_append] at CF
        obtain ⟨l6, hl6⟩ : ∃ l6, (ps ++ qs).length = l6 := ⟨_, rfl⟩
        obtain ⟨l5, hl5⟩ : ∃ l5, subs.length = l5 := ⟨_, rfl⟩
        rw [hl6] at CF r6
        rw [hpl] at r5 r6
        rw [hl5] at q5 r6
        have q5' : w5.cell? ⟨b, o + dl * 6 + 5, none⟩ = some (.slice as_ l5 cs) := (K5.cell (p := ⟨b, o + dl * 6 + 5, none⟩) hbl (fun e => e)).trans q5
        have hbl5 : b < w5.heap.size := Nat.lt_of_lt_of_le hbl K5.size
        have HFI2 := Lib.hid K6
        clear hr hT hK hS hfst hL hP hL2 hP2 o5 o6 k5 k6 K5 K6 hSH hps hqs hpl hql hl6 hl5 hk3 hok hm hsl
        go_wp2_with (first
          | (refine wpList_append_run rfl (.tmp 31) (.tmp 36) 35 rfl (.slice none 0 0) (.slice (some ⟨b, o, none⟩) dl cap) rfl rfl (v' := .slice a5 dl c5) (w' := w5) (by with_reducible exact r5) ?_)
          | (refine wpList_append_run rfl (.tmp 38) (.tmp 45) 35 rfl (.slice a5 dl c5) (.slice as_ l5 cs) rfl rfl (v' := .slice a6 l6 c6) (w' := w6) (by with_reducible exact r6) ?_))
        refine CF.out.mono ?_
        rintro e w7 ⟨rfl, k7⟩
        have K7 := Lib.hid (HFI2.out.trans k7 (fun _ _ e => e))
        clear k7 CF
        go_wp2_with fail
        go_ret
        refine ⟨?_, K7.out⟩
        rw [HFI.out]; rfl
      · have b3 : ((hd.k : Int) != 3) = true := by simp; exact hk3
        have HFI := Lib.hid (show inE es (d ++ [St.mk hd subs]) = 0 by rw [inE_snoc, if_neg hk3])
        clear hr hT hK hS hk3 hok
        go_wp2_with fail
        go_ret
        refine ⟨?_, Kept.refl _ _⟩
        rw [HFI.out]; rfl
end
end
end Go.Proofs.YtljefbfjehblpaaGreat
