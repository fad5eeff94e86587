/- Whatever the numbers, ListAll returns true, and writes nothing that was there. -/
import Derived.Test.YtpjfpmagmclldaaLAllM
import Derived.Test.YtpjfpmagmclldaaLAwake
import Derived.Test.YtpjfpmagmclldaaLOpenW
import Derived.BigRegionIn
import Derived.Sort.CutIn
namespace Go.Proofs.Ytpjfpmagmclldaa
open Go.RowKit Go.Maps Go.Shelf
attribute [local go_sem] Oper.semAt_some
set_option maxRecDepth 100000

section
variable {w w' : World} {B p : Nat} {m : Value} {g : Nat → Nat} {row : List Nat} {vals : List Int}
theorem removeI_any (h : LstI w B p m g row vals) (hl : vals.length ≤ 100000) {x : Nat} (hx : x ≤ 100000) :
    Calls Try.prog 24 #[.pointer (some ⟨p, 0, none⟩), .int .i64 (x : Int)] w fun e w' => (∃ v b, e = .returned (.tuple #[.int .i64 v, .bool b])) ∧ LstI w' B p m g (rm row x) vals ∧ Kept (FoI w B m) w w' := by
  by_cases hm : x ∈ row
  · obtain ⟨v, hv, _⟩ := h.cell x hm
    obtain ⟨bm, rfl⟩ : ∃ bm, m = .map (some bm) := by
      rcases h.mp with ⟨_, e⟩ | ⟨bm, _, e, _⟩
      · subst e; cases hm
      · exact ⟨bm, e⟩
    exact (removeH_i h hl hm hv).mono fun e w' ⟨he, hh⟩ => ⟨⟨_, _, he⟩, hh⟩
  · rw [rm_none hm]
    exact (removeN_i h (WalkArith.wf_i64 (by omega)) (fun y hy e => hm (by have : y = x := by omega
                                                                           exact this ▸ hy))).mono fun e w' ⟨he, hk⟩ => ⟨⟨_, _, he⟩, h.keptN hk, hk.mono (fun _ _ e => e.elim)⟩
end

theorem LstI.other {w : World} {B p : Nat} {m : Value} {g : Nat → Nat} {row : List Nat} {vals : List Int} (h : LstI w B p m g row vals) {k : Nat} {cs : Array Value} {t : TypeId} (hb : Blk w k t cs) (h1 : t ≠ 77) (h2 : t ≠ 81) : ¬ FoI w B m k := by
  unfold Blk at hb
  rintro ⟨_, e | ⟨cs', f', e | e⟩⟩
  · rcases h.mp with ⟨e', _⟩ | ⟨bm, D, e', _, ho, _⟩
    · rw [e'] at e; cases e
    · rw [e'] at e
      cases e
      obtain ⟨es, c, hbb, _⟩ := ho
      rw [hbb] at hb; cases hb
  · rw [hb] at e; simp at e; exact h1 e.2.1
  · rw [hb] at e; simp at e; exact h2 e.2.1
theorem LstI.lower {w : World} {B B' p : Nat} {m : Value} {g : Nat → Nat} {row : List Nat} {vals : List Int} (h : LstI w B p m g row vals) (hB : B' ≤ B) : LstI w B' p m g row vals :=
  ⟨Nat.le_trans hB h.base, h.here, h.nodup, h.range, h.cell, fun x hx => Nat.le_trans hB (h.low x hx), h.inj, h.mp.imp id fun ⟨bm, D, e, hb, r⟩ => ⟨bm, D, e, Nat.le_trans hB hb, r⟩⟩
theorem FoI.fresh {w w1 w2 : World} {m : Value} (h : Kept Nil w w1) (k : Kept (FoI w1 w.heap.size m) w1 w2) : Kept Nil w w2 := h.trans k (fun _ hi hf => absurd hf.1 (Nat.not_le.2 hi))
/-- The law's own variables, as they lie ahead of the loop over the iterator. -/
structure BoxA (W : World) (bs bg bk bl br p : Nat) (zs zg k : Int) : Prop where
  s : Blk W bs 5 #[.int .u8 zs]
  g : Blk W bg 5 #[.int .u8 zg]
  k : Blk W bk 3 #[.int .i64 k]
  l : Blk W bl 47 #[.pointer (some ⟨p, 0, none⟩)]
  r : Blk W br 4 #[.bool false]
theorem BoxA.kept {W W' : World} {bs bg bk bl br p : Nat} {zs zg k : Int} {F : Nat → Prop} (h : BoxA W bs bg bk bl br p zs zg k) (hk : Kept F W W') (hF : ∀ b t cs, Blk W b t cs → t = 5 ∨ t = 3 ∨ t = 47 ∨ t = 4 → ¬ F b) : BoxA W' bs bg bk bl br p zs zg k :=
  ⟨h.s.kept hk (hF _ _ _ h.s (.inl rfl)), h.g.kept hk (hF _ _ _ h.g (.inl rfl)), h.k.kept hk (hF _ _ _ h.k (.inr (.inl rfl))), h.l.kept hk (hF _ _ _ h.l (.inr (.inr (.inl rfl)))), h.r.kept hk (hF _ _ _ h.r (.inr (.inr (.inr rfl))))⟩
theorem BoxA.keptN {W W' : World} {bs bg bk bl br p : Nat} {zs zg k : Int} (h : BoxA W bs bg bk bl br p zs zg k) (hk : Kept Nil W W') : BoxA W' bs bg bk bl br p zs zg k := h.kept hk (fun _ _ _ _ _ e => e)
theorem LstI.mine {w : World} {B p : Nat} {m : Value} {g : Nat → Nat} {row : List Nat} {vals : List Int} (h : LstI w B p m g row vals) {b : Nat} {t : TypeId} {cs : Array Value} (hb : Blk w b t cs) (ht : t = 5 ∨ t = 3 ∨ t = 47 ∨ t = 4) : ¬ FoI w B m b := by
  rcases ht with rfl | rfl | rfl | rfl <;> exact h.other hb (by decide) (by decide)
theorem row0_step (i : Nat) : row0 i ++ [(vals0 i).length + 1] = row0 (i + 1) := by
  have : (vals0 i).length = i := by simp [vals0]
  rw [this]
  unfold row0
  rw [List.range'_1_concat, Nat.add_comm 1 i]
theorem vals0_step (i : Nat) : vals0 i ++ [10 * (i : Int)] = vals0 (i + 1) := by simp [vals0, List.range_succ]

theorem eqFunc (f : Nat) (cs : Array Value) (w : World) : (binOp .eql 50 (.func (.func f) #[] cs) .nilFunc).run Try.prog w = .ok (.bool false) w := by
  have e : (Op.equalIn (9999 + 1) 50 (.func (.func f) #[] cs) .nilFunc).run Try.prog w = .ok false w := by
    unfold Op.equalIn
    simp [run_underlying Try.underlying50]
  simp only [binOp]
  simp [show Op.equal 50 (.func (.func f) #[] cs) .nilFunc = Op.equalIn (9999 + 1) 50 (.func (.func f) #[] cs) .nilFunc from rfl, e]

/-- What the law wants next. -/
def wantA (k turn xr : Nat) (pre : List (Nat × Int)) : Int := if pre = [] then 1 else (nxI (StA k turn xr pre).1 (lastH pre : Int) : Nat)
/-- What stands between two rounds of the loop over the iterator. -/
structure InvL (w : World) (B0 bs bg bk bl br p bc bi : Nat) (zs zg : Int) (k turn xr : Nat) (pre : List (Nat × Int)) (W : World) : Prop where
  lst : ∃ m g, LstI W w.heap.size p m g (StA k turn xr pre).1 (StA k turn xr pre).2 ∧ ∀ b, m = .map (some b) → b < B0
  box : BoxA W bs bg bk bl br p zs zg k
  c : Blk W bc 47 #[.pointer (some ⟨p, 0, none⟩)]
  i : Blk W bi 3 #[.int .i64 (pre.length : Int)]
  t : Blk W (bi + 1) 3 #[.int .i64 (turn : Int)]
  want : Blk W (bi + 1 + 1) 3 #[.int .i64 (wantA k turn xr pre)]
  kept : Kept Nil w W
  bnd : pre.length ≤ lastH pre
/-- The loop's own book-keeping turns nothing that cells are. -/
theorem kept_of_row {W W' : World} {row : Option Nat} (hg : W.grownBy W' row) : Kept (fun k => row = some k) W W' := ⟨hg.os, hg.tape, hg.output, hg.size, fun k hk hF => hg.block k hk (fun e => hF e.symm)⟩
theorem not_row {B0 : Nat} {W : World} {row : Option Nat} (hr : ∀ r, row = some r → B0 ≤ r ∧ ∃ o : Obj, W.heap[r]? = some o ∧ o.isCells = false) {b : Nat} {t : TypeId} {cs : Array Value} (hb : Blk W b t cs) : ¬ row = some b := by
  intro e
  obtain ⟨_, o, ho, hc⟩ := hr b e
  unfold Blk at hb
  rw [hb] at ho
  cases ho; cases hc
theorem InvL.own {w : World} {B0 bs bg bk bl br p bc bi : Nat} {zs zg : Int} {k turn xr : Nat} (hB : w.heap.size ≤ B0) : OwnFrom B0 (InvL w B0 bs bg bk bl br p bc bi zs zg k turn xr) := by
  intro pre W W' row h hg hr
  have kk := kept_of_row hg
  obtain ⟨m, g, hl, hm⟩ := h.lst
  refine ⟨⟨m, g, hl.kept kk (fun b hf e => ?_), hm⟩, h.box.kept kk (fun b t cs hb _ => not_row hr hb), h.c.kept kk (not_row hr h.c), h.i.kept kk (not_row hr h.i), h.t.kept kk (not_row hr h.t), h.want.kept kk (not_row hr h.want), h.kept.trans kk (fun i hi e => by have := (hr i e).1; omega), h.bnd⟩
  rcases hf.2 with e2 | ⟨cs, f, e2⟩
  · have := hm b e2
    have := (hr b e).1
    omega
  · obtain ⟨_, o, ho, hc⟩ := hr b e
    rcases e2 with e2 | e2 <;> (rw [e2] at ho; cases ho; cases hc)
/-- What stands where the law has answered out of a round. -/
def OutL (w : World) (br : Nat) (c : Code) (_ : List (Nat × Int)) (W : World) : Prop := c = .ret ∧ Blk W br 4 #[.bool true] ∧ Kept Nil w W
theorem OutL.own {w : World} {B0 br : Nat} (hB : w.heap.size ≤ B0) (c : Code) : OwnFrom B0 (OutL w br c) := by
  intro pre W W' row h hg hr
  have kk := kept_of_row hg
  exact ⟨h.1, h.2.1.kept kk (not_row hr h.2.1), h.2.2.trans kk (fun i hi e => by have := (hr i e).1; omega)⟩

theorem wantA_ok {k turn xr : Nat} {pre : List (Nat × Int)} {x : Nat × Int} (h : OkL (StA k turn xr) pre x) : wantA k turn xr pre = (x.1 : Int) := by
  unfold wantA
  split
  · rename_i e
    subst e
    have h2 := h.2.1
    rw [StA_nil, lastH_nil] at h2
    have h3 : nxI (row0 k) ((0 : Nat) : Int) = nx (0 :: row0 k) 0 := rfl
    rw [h3, ← headD_nx] at h2
    cases k with
    | zero => exact absurd h2.symm h.1
    | succ k =>
      have : (row0 (k + 1)).headD 0 = 1 := by unfold row0; rw [List.range'_succ]; rfl
      rw [this] at h2
      rw [← h2]; rfl
  · rw [h.2.1]
theorem wantA_snoc {k turn xr : Nat} {pre : List (Nat × Int)} {x : Nat × Int} : wantA k turn xr (pre ++ [x]) = (nxI (StA k turn xr (pre ++ [x])).1 (x.1 : Int) : Nat) := by
  unfold wantA
  rw [if_neg (by simp), lastH_snoc]

/-- The law's own variables lie ahead of the three that the loop writes. -/
structure LowA (bs bg bk bl br bc bi : Nat) : Prop where
  s : bs < bi
  g : bg < bi
  k : bk < bi
  l : bl < bi
  r : br < bi
  c : bc < bi
/-- What stands within a round, behind calls on the list. -/
structure Aft (w : World) (B0 bs bg bk bl br p bc bi : Nat) (zs zg : Int) (k turn n h : Nat) (W W4 : World) : Prop where
  box : BoxA W4 bs bg bk bl br p zs zg k
  c : Blk W4 bc 47 #[.pointer (some ⟨p, 0, none⟩)]
  i : Blk W4 bi 3 #[.int .i64 (n : Int)]
  t : Blk W4 (bi + 1) 3 #[.int .i64 (turn : Int)]
  want : Blk W4 (bi + 1 + 1) 3 #[.int .i64 (h : Int)]
  kept : Kept Nil w W4
  keeps : KeepsFrom B0 W W4
section
variable {w W W4 W5 : World} {B0 bs bg bk bl br p bc bi : Nat} {zs zg : Int} {k turn n h : Nat}
theorem Aft.keptN (A : Aft w B0 bs bg bk bl br p bc bi zs zg k turn n h W W4) (hk : Kept Nil W4 W5) : Aft w B0 bs bg bk bl br p bc bi zs zg k turn n h W W5 :=
  ⟨A.box.keptN hk, A.c.kept hk (fun e => e), A.i.kept hk (fun e => e), A.t.kept hk (fun e => e), A.want.kept hk (fun e => e), A.kept.trans hk (fun _ _ e => e),
    A.keeps.trans ⟨hk.size, fun j _ _ ho _ => (hk.block j (Array.getElem?_eq_some_iff.1 ho).1 (fun e => e)).trans ho⟩⟩
theorem Aft.step {bm : Nat} {g : Nat → Nat} {row : List Nat} {vals : List Int} (A : Aft w B0 bs bg bk bl br p bc bi zs zg k turn n h W W4) (hl : LstI W4 w.heap.size p (.map (some bm)) g row vals) (hb : bm < B0) (hk : Kept (FoI W4 w.heap.size (.map (some bm))) W4 W5) : Aft w B0 bs bg bk bl br p bc bi zs zg k turn n h W W5 := by
  refine ⟨A.box.kept hk (fun b t cs hb ht => hl.mine hb ht), A.c.kept hk (hl.mine A.c (.inr (.inr (.inl rfl)))), A.i.kept hk (hl.mine A.i (.inr (.inl rfl))), A.t.kept hk (hl.mine A.t (.inr (.inl rfl))), A.want.kept hk (hl.mine A.want (.inr (.inl rfl))), FoI.fresh A.kept hk, A.keeps.trans ⟨hk.size, fun j o hj ho hc => ?_⟩⟩
  refine (hk.block j (Array.getElem?_eq_some_iff.1 ho).1 (fun hf => ?_)).trans ho
  rcases hf.2 with e | ⟨cs, f, e⟩
  · cases e; omega
  · rcases e with e | e <;> (rw [ho] at e; cases e; cases hc)
/-- The round's end: what is wanted next, and one turn more. -/
theorem Aft.done {bm : Nat} {g : Nat → Nat} {xr : Nat} {pre : List (Nat × Int)} {x : Nat × Int} (L : LowA bs bg bk bl br bc bi) (A : Aft w B0 bs bg bk bl br p bc bi zs zg k turn pre.length h W W4) (hbi : w.heap.size ≤ bi) (hl : LstI W4 w.heap.size p (.map (some bm)) g (StA k turn xr (pre ++ [x])).1 (StA k turn xr (pre ++ [x])).2) (hb : bm < B0) (hbd : pre.length < x.1) {N L1 : Int} (hN : N = wantA k turn xr (pre ++ [x])) (hL1 : L1 = (pre.length : Int) + 1) :
    InvL w B0 bs bg bk bl br p bc bi zs zg k turn xr (pre ++ [x]) ((W4.setCell ⟨bi + 1 + 1, 0, none⟩ (.int .i64 N)).setCell ⟨bi, 0, none⟩ (.int .i64 L1)) ∧ KeepsFrom B0 W ((W4.setCell ⟨bi + 1 + 1, 0, none⟩ (.int .i64 N)).setCell ⟨bi, 0, none⟩ (.int .i64 L1)) := by
  subst hN hL1
  have far2 : ∀ {b t cs}, Blk W4 b t cs → b < bi → Blk ((W4.setCell ⟨bi + 1 + 1, 0, none⟩ (.int .i64 (wantA k turn xr (pre ++ [x])))).setCell ⟨bi, 0, none⟩ (.int .i64 ((pre.length : Int) + 1))) b t cs := fun hb hlt =>
    (hb.far (p := ⟨bi + 1 + 1, 0, none⟩) (by simp only; omega) _).far (p := ⟨bi, 0, none⟩) (by simp only; omega) _
  have hs := L
  have kk : Kept (fun b => b = bi + 1 + 1 ∨ b = bi) W4 ((W4.setCell ⟨bi + 1 + 1, 0, none⟩ (.int .i64 (wantA k turn xr (pre ++ [x])))).setCell ⟨bi, 0, none⟩ (.int .i64 ((pre.length : Int) + 1))) :=
    ((Kept.refl (fun b => b = bi + 1 + 1 ∨ b = bi) W4).setCell ⟨bi + 1 + 1, 0, none⟩ (Or.inl (Or.inl rfl)) _).setCell ⟨bi, 0, none⟩ (Or.inl (Or.inr rfl)) _
  refine ⟨⟨⟨_, g, hl.kept kk (fun b hf e => ?_), fun b e => by cases e; exact hb⟩, ⟨far2 A.box.s L.s, far2 A.box.g L.g, far2 A.box.k L.k, far2 A.box.l L.l, far2 A.box.r L.r⟩, far2 A.c L.c, ?_, ?_, ?_, ?_, by rw [lastH_snoc]; simp; omega⟩, ?_⟩
  · rcases e with rfl | rfl
    · exact hl.mine A.want (.inr (.inl rfl)) hf
    · exact hl.mine A.i (.inr (.inl rfl)) hf
  · have := (A.i.far (p := ⟨bi + 1 + 1, 0, none⟩) (by simp only; omega) (.int .i64 (wantA k turn xr (pre ++ [x])))).set_ 0 (.int .i64 ((pre.length : Int) + 1))
    simpa using this
  · exact (A.t.far (p := ⟨bi + 1 + 1, 0, none⟩) (by simp only; omega) _).far (p := ⟨bi, 0, none⟩) (by simp only; omega) _
  · have := (A.want.set_ 0 (.int .i64 (wantA k turn xr (pre ++ [x])))).far (p := ⟨bi, 0, none⟩) (by simp only; omega) (.int .i64 ((pre.length : Int) + 1))
    simpa using this
  · exact A.kept.trans kk (fun i hi e => by rcases e with e | e <;> omega)
  · exact A.keeps.trans (((KeepsOthers.setCell _ _ _).trans (KeepsOthers.setCell _ _ _)).from _)
end

set_option maxHeartbeats 8000000 in
theorem listAll_any (zn zs za zg : Int) (hz : (0 ≤ zn ∧ zn < 256) ∧ (0 ≤ zs ∧ zs < 256) ∧ (0 ≤ za ∧ za < 256) ∧ (0 ≤ zg ∧ zg < 256)) (w : World) :
    Calls Try.prog 4 #[.agg #[.int .u8 zn, .int .u8 zs, .int .u8 za, .int .u8 zg]] w fun e w' => e = .returned (.bool true) ∧ Kept Nil w w' := by
  refine (callsIn_wide (n := 9)).1 ?_
  refine callsIn_of_wp_marks Try.func4 rfl trivial ?_ rfl
  simp only [Try.ntmps4, List.size_toArray, List.length_cons, List.length_nil, Nat.reduceAdd, Nat.reduceSub, Array.replicate_succ, Array.replicate_zero, List.push_toArray, List.append_toArray, List.nil_append, List.cons_append]
  gi_wp2
  have hbz := (Blk.new w 46 #[.int .u8 zn, .int .u8 zs, .int .u8 za, .int .u8 zg]).alloc (.cells #[.bool false] 4)
  have hbr := Blk.new (w.alloc (.cells #[.int .u8 zn, .int .u8 zs, .int .u8 za, .int .u8 zg] 46)) 4 #[.bool false]
  rw [show (w.alloc (.cells #[.int .u8 zn, .int .u8 zs, .int .u8 za, .int .u8 zg] 46)).heap.size = w.heap.size + 1 from by simp] at hbr
  have hk0 := ((Kept.refl Nil w).alloc (.cells #[.int .u8 zn, .int .u8 zs, .int .u8 za, .int .u8 zg] 46)).alloc (.cells #[.bool false] 4)
  generalize (w.alloc (.cells #[.int .u8 zn, .int .u8 zs, .int .u8 za, .int .u8 zg] 46)).alloc (.cells #[.bool false] 4) = w0 at *
  have z0 := hbz.cell 0
  have z1 := hbz.cell 1
  have z2 := hbz.cell 2
  have z3 := hbz.cell 3
  have hlt := hbz.lt
  gi_cut [3, 4, 5] from 16 (fun v3 v4 v5 wx => ∃ bs bg, v3 = .pointer (some ⟨bs, 0, none⟩) ∧ v5 = .pointer (some ⟨bg, 0, none⟩) ∧ v4 = .int .u8 za ∧ bs ≠ bg ∧ w0.heap.size ≤ bs ∧ w0.heap.size ≤ bg ∧ Blk wx bs 5 #[.int .u8 zs] ∧ Blk wx bg 5 #[.int .u8 zg] ∧ Kept Nil w0 wx)
  case first =>
    gi_region
    · gi_wp2
      gi_meet
      exact ⟨w0.heap.size, w0.heap.size + 1, rfl, rfl, rfl, by omega, Nat.le_refl _, by omega, ((Blk.new w0 _ _).alloc _).drew, by simpa using (Blk.new (w0.alloc (.cells #[.int .u8 zs] 5)) 5 #[.int .u8 zg]).drew, (((Kept.refl Nil w0).alloc _).alloc _).drew⟩
    · gi_wp2
      gi_meet
      exact ⟨w0.heap.size + 1, w0.heap.size, rfl, rfl, rfl, by omega, by omega, Nat.le_refl _, by simpa using (Blk.new (w0.alloc (.cells #[.int .u8 zg] 5)) 5 #[.int .u8 zs]).drew, ((Blk.new w0 _ _).alloc _).drew, (((Kept.refl Nil w0).alloc _).alloc _).drew⟩
  case rest =>
    obtain ⟨bs, bg, rfl, rfl, rfl, hne, hs0, hg0, hbs, hbg, hkx⟩ := hcut
    have hbz2 := hbz.kept hkx (fun e => e)
    have z20 := hbz2.cell 0
    obtain ⟨k, hk⟩ : ∃ k : Nat, zn % 31 = (k : Int) := ⟨(zn % 31).toNat, by omega⟩
    have hk30 : k ≤ 30 := by omega
    have HK1 := Lib.hid ((hk0.trans hkx (fun _ _ e => e)).alloc (.cells #[.int .i64 (k : Int)] 3))
    have S1 := Lib.hid (hbs.alloc (.cells #[.int .i64 (k : Int)] 3))
    have G1 := Lib.hid (hbg.alloc (.cells #[.int .i64 (k : Int)] 3))
    have R1 := Lib.hid ((hbr.kept hkx (fun e => e)).alloc (.cells #[.int .i64 (k : Int)] 3))
    have BK1 := Lib.hid (Blk.new wc 3 #[.int .i64 (k : Int)])
    clear hbz hbz2 hbs hbg hkx hbr hk0 z0 z1 z2 z3 hlt hs0 hg0
    gi_wp2
    generalize wc.alloc (.cells #[.int .i64 (k : Int)] 3) = wd at *
    generalize wc.heap.size = bk at *
    refine ⟨trivial, (callsIn_wide.2 (new_i _)).mono ?_⟩
    rintro e w1 ⟨rfl, t1, k1⟩
    have hk2 := HK1.out.trans (k1.alloc (.cells #[.pointer (some ⟨wd.heap.size, 0, none⟩)] 47)) (fun _ _ e => e)
    have k1a := k1.alloc (.cells #[.pointer (some ⟨wd.heap.size, 0, none⟩)] 47)
    have HL := Lib.hid ((t1.keptN ((Kept.refl Nil w1).alloc (.cells #[.pointer (some ⟨wd.heap.size, 0, none⟩)] 47))).lower HK1.out.size)
    have HB := Lib.hid (show BoxA (w1.alloc (.cells #[.pointer (some ⟨wd.heap.size, 0, none⟩)] 47)) bs bg bk w1.heap.size (w.heap.size + 1) wd.heap.size zs zg k from
      ⟨S1.out.kept k1a (fun e => e), G1.out.kept k1a (fun e => e), BK1.out.kept k1a (fun e => e), Blk.new _ _ _, R1.out.kept k1a (fun e => e)⟩)
    have HK2 := Lib.hid hk2
    have y0 := HB.out.k.cell 0
    have y1 := HB.out.l.cell 0
    clear t1 k1 k1a hk2
    gi_wp2
    generalize w1.alloc (.cells #[.pointer (some ⟨wd.heap.size, 0, none⟩)] 47) = w2 at *
    generalize w1.heap.size = bl at *
    generalize wd.heap.size = p at *
    clear y0 y1
    gi_loopw [30] (fun iv wf => ∃ (j : Nat) (m : Value) (g : Nat → Nat), j ≤ k ∧ iv = .int .i64 (j : Int) ∧ LstI wf w.heap.size p m g (row0 j) (vals0 j) ∧ BoxA wf bs bg bk bl (w.heap.size + 1) p zs zg k ∧ Kept Nil w wf) (fun iv _ => k - (intOf iv).toNat)
    case atStart => exact ⟨0, _, _, Nat.zero_le _, rfl, HL.out, HB.out, HK2.out⟩
    case round =>
      obtain ⟨j, m, g, hj, rfl, hl, hb, hkk⟩ := hrel
      have HL1 := Lib.hid hl
      have HB1 := Lib.hid hb
      have HK3 := Lib.hid hkk
      have y1 := HB1.out.l.cell 0
      have hvl : (vals0 j).length = j := by simp [vals0]
      have HVL := Lib.hid hvl
      clear hl hb hkk hvl
      by_cases hlt : j < k
      · gi_wp2
        refine ⟨trivial, (callsIn_wide.2 (push_i HL1.out (by have := HVL.out; omega) (10 * (j : Int)))).mono ?_⟩
        rintro e w5 ⟨rfl, m5, g5, hl5, _, hk5⟩
        rw [row0_step, vals0_step] at hl5
        have HL5 := Lib.hid hl5
        have HB5 := Lib.hid (HB1.out.kept hk5 (fun b t cs hb ht => HL1.out.mine hb ht))
        have HK5 := Lib.hid (FoI.fresh HK3.out hk5)
        clear hl5 hk5
        gi_wp2
        go_roundw
        case rel => exact ⟨j + 1, m5, g5, hlt, by go_num, HL5.out, HB5.out, HK5.out⟩
        case measure => simp [intOf]; omega
      · have hjk : k = j := by omega
        subst hjk
        clear hlt
        obtain ⟨turn, hturn⟩ : ∃ turn : Nat, za % 31 = (turn : Int) := ⟨(za % 31).toNat, by omega⟩
        rename World => wo
        have HTn := Lib.hid hturn
        gi_wp2
        refine ⟨trivial, (callsIn_wide.2 (all_i p)).mono ?_⟩
        rintro e w6 ⟨rfl, hw6⟩
        have K6 := Lib.hid (show Kept Nil wo w6 from hw6 ▸ (Kept.refl Nil wo).alloc _)
        have C6 := Lib.hid (show Blk w6 wo.heap.size 47 #[.pointer (some ⟨p, 0, none⟩)] from hw6 ▸ Blk.new _ _ _)
        clear hw6
        have qf := fun W cs => eqFunc 39 cs W
        gi_wp2
        obtain ⟨xr, hxr⟩ : ∃ xr : Nat, 1 + zg % 31 = (xr : Int) := ⟨(1 + zg % 31).toNat, by omega⟩
        have kq := ((((Kept.refl Nil w6).alloc (.cells #[.int .i64 0] 3)).alloc (.cells #[.int .i64 (turn : Int)] 3)).alloc (.cells #[.int .i64 1] 3))
        have k0q := K6.out.trans kq (fun _ _ e => e)
        have HI := Lib.hid (show InvL w (((w6.alloc (.cells #[.int .i64 0] 3)).alloc (.cells #[.int .i64 (turn : Int)] 3)).alloc (.cells #[.int .i64 1] 3)).heap.size bs bg bk bl (w.heap.size + 1) p wo.heap.size w6.heap.size zs zg k turn xr [] (((w6.alloc (.cells #[.int .i64 0] 3)).alloc (.cells #[.int .i64 (turn : Int)] 3)).alloc (.cells #[.int .i64 1] 3)) from
          ⟨⟨m, g, by rw [StA_nil]; exact HL1.out.keptN k0q, fun b e => by
              rcases HL1.out.mp with ⟨e', _⟩ | ⟨bm, D, e', _, ho, _⟩
              · rw [e'] at e; cases e
              · rw [e'] at e; cases e; exact Nat.lt_of_lt_of_le ho.lt k0q.size⟩,
            HB1.out.keptN k0q, (show Blk w6 wo.heap.size 47 #[.pointer (some ⟨p, 0, none⟩)] from C6.out).kept kq (fun e => e), ((Blk.new w6 _ _).alloc _).alloc _, by simpa using (Blk.new (w6.alloc (.cells #[.int .i64 0] 3)) 3 #[.int .i64 (turn : Int)]).alloc (.cells #[.int .i64 1] 3),
            by simpa [wantA] using Blk.new ((w6.alloc (.cells #[.int .i64 0] 3)).alloc (.cells #[.int .i64 (turn : Int)] 3)) 3 #[.int .i64 1], HK3.out.trans k0q (fun _ _ e => e), Nat.le_refl _⟩)
        have HLow := Lib.hid (show LowA bs bg bk bl (w.heap.size + 1) wo.heap.size w6.heap.size from
          ⟨(HB1.out.keptN K6.out).s.lt, (HB1.out.keptN K6.out).g.lt, (HB1.out.keptN K6.out).k.lt, (HB1.out.keptN K6.out).l.lt, (HB1.out.keptN K6.out).r.lt, Blk.lt (show Blk w6 wo.heap.size 47 #[.pointer (some ⟨p, 0, none⟩)] from C6.out)⟩)
        have HBi := Lib.hid (Nat.le_trans HK3.out.size K6.out.size)
        clear kq k0q qf
        generalize ((w6.alloc (.cells #[.int .i64 0] 3)).alloc (.cells #[.int .i64 (turn : Int)] 3)).alloc (.cells #[.int .i64 1] 3) = wq at *
        generalize w6.heap.size = bi at *
        generalize wo.heap.size = bc at *
        have hBq := HI.out.kept.size
        refine wpIn_rangeFunc_told (a₁ := ?a1) rfl (by decide) (gf := 39) (lb := #[.pointer (some ⟨bc, 0, none⟩)]) rfl trivial (enters_of Try.func39 (by kernel_rfl) rfl)
          (all_told (StA k turn xr) w.heap.size p bc (fun pre => (InvA.all k turn xr pre).rise) (fun pre => by have := StA_len k turn xr pre; omega) 8 wq) (Below.refl _ _) (fun _ => rfl)
          (InvL w wq.heap.size bs bg bk bl (w.heap.size + 1) p bc bi zs zg k turn xr) (OutL w (w.heap.size + 1)) (InvL.own hBq) (fun c => OutL.own hBq c)
          (fun pre V h => by obtain ⟨m, g, hl, _⟩ := h.lst; exact ⟨m, g, hl, h.c⟩) HI.out ?assign ?body ?done ?stop
        case assign =>
          intro l x W K hK
          dsimp only [encX]
          gi_wp2
          exact hK
        case body =>
          rintro l pre ⟨h, v⟩ W hI hok
          have hwant := wantA_ok hok
          have hval := StA_val k turn xr hok.1 hok.2.2
          have hlen := StA_len k turn xr pre
          obtain ⟨m, g, hl, hm⟩ := hI.lst
          obtain ⟨bm, rfl⟩ : ∃ bm, m = .map (some bm) := by
            rcases hl.mp with ⟨_, e⟩ | ⟨bm, _, e, _⟩
            · have := hok.2.1
              rw [e] at this
              have h0 := nxI_mem (row := []) (k := (lastH pre : Int))
              rcases h0 with h0 | h0
              · rw [h0] at this; exact absurd this.symm hok.1
              · cases h0
            · exact ⟨bm, e⟩
          have HBM := Lib.hid (hm bm rfl)
          have HW := Lib.hid hwant
          have c1 := hI.want.cell 0
          rw [hwant] at c1
          have c2 := hI.i.cell 0
          have c3 := hI.t.cell 0
          have c4 := hI.box.k.cell 0
          have c5 := hI.box.l.cell 0
          have c6 := hI.box.g.cell 0
          have HI1 := Lib.hid hI
          have HL3 := Lib.hid hl
          have hp0 : 0 < h := Nat.pos_of_ne_zero hok.1
          have hh32 : h ≤ 32 := by
            have := hval
            rcases this with ⟨h1, _⟩ | ⟨h1, _⟩ <;> omega
          have hpl : pre.length < h := by
            have h1 := nxI_rise (k := lastH pre) (InvA.all k turn xr pre).rise
            have h2 := hok.2.1
            have h3 := hok.1
            have h4 := hI.bnd
            dsimp only at h2 h3
            rcases h1 with h1 | h1 <;> omega
          clear hI hok hwant hl hm
          rcases hval with ⟨hhk, hv⟩ | ⟨hhk, hv⟩
          · dsimp only at hv hhk
            subst hv
            have e1 : decide (h ≤ k) = true := decide_eq_true hhk
            have e2 : decide (k < h) = false := decide_eq_false (by omega)
            have HA := Lib.hid (show Aft w wq.heap.size bs bg bk bl (w.heap.size + 1) p bc bi zs zg k turn pre.length h W W from ⟨HI1.out.box, HI1.out.c, HI1.out.i, HI1.out.t, by have := HI1.out.want; rw [HW.out] at this; exact this, HI1.out.kept, KeepsFrom.refl _ _⟩)
            by_cases ht : pre.length = turn
            · have et : ((pre.length : Int) == (turn : Int)) = true := by simp [ht]
              have hst : StA k turn xr (pre ++ [(h, 10 * ((h : Int) - 1))]) = ((if xr = h then (StA k turn xr pre).1 else rm (StA k turn xr pre).1 xr) ++ [(StA k turn xr pre).2.length + 1], (StA k turn xr pre).2 ++ [7]) := by rw [StA_snoc]; unfold stepA; rw [if_pos ht]
              have HST := Lib.hid hst
              clear ht hst
              by_cases hx : xr = h
              · have ex : ((xr : Int) != (h : Int)) = false := by simp [hx]
                have HX := Lib.hid hx
                clear hx
                gi_wp2
                refine ⟨trivial, (CallsIn.inRound l (callsIn_wide.2 (pushM_i HL3.out (by omega) 7))).mono ?_⟩
                rintro e W4 ⟨rfl, g4, hl4, hk4⟩
                have HL4 := Lib.hid (show LstI W4 w.heap.size p (.map (some bm)) g4 (StA k turn xr (pre ++ [(h, 10 * ((h : Int) - 1))])).1 (StA k turn xr (pre ++ [(h, 10 * ((h : Int) - 1))])).2 from by rw [HST.out, if_pos HX.out]; exact hl4)
                have HA4 := Lib.hid (HA.out.step HL3.out HBM.out hk4)
                clear hl4 hk4
                have hlen4 := StA_len k turn xr (pre ++ [(h, 10 * ((h : Int) - 1))])
                have c4n := HA4.out.box.l.cell 0
                gi_wp2
                refine ⟨trivial, (CallsIn.inRound l (callsIn_wide.2 (next_i HL4.out (by omega) (k := (h : Int)) (WalkArith.wf_i64 (by omega))))).mono ?_⟩
                rintro e W5 ⟨rfl, k5⟩
                have HA5 := Lib.hid (HA4.out.keptN k5)
                have HL5 := Lib.hid (HL4.out.keptN k5)
                have wN : ((nxI (StA k turn xr (pre ++ [(h, 10 * ((h : Int) - 1))])).1 (h : Int) : Nat) : Int) = wantA k turn xr (pre ++ [(h, 10 * ((h : Int) - 1))]) := wantA_snoc.symm
                have HD := Lib.hid (HA5.out.done (x := (h, 10 * ((h : Int) - 1))) HLow.out HBi.out HL5.out HBM.out hpl (N := ((nxI (StA k turn xr (pre ++ [(h, 10 * ((h : Int) - 1))])).1 (h : Int) : Nat) : Int)) (L1 := (pre.length : Int) + 1) wN rfl)
                generalize ((nxI (StA k turn xr (pre ++ [(h, 10 * ((h : Int) - 1))])).1 (h : Int) : Nat) : Int) = N at *
                have d1 := HA5.out.want.cell 0
                have d2 := HA5.out.want.frozen 0
                have d3 := HA5.out.i.cell 0
                have d4 := HA5.out.i.frozen 0
                have d5 := HA5.out.box.s.cell 0
                have dne : bs ≠ bi := by have := HLow.out.s; omega
                have dne1 : bs ≠ bi + 1 + 1 := by have := HLow.out.s; omega
                clear k5 c1 c2 c3 c4 c5 c6 c4n wN hlen4
                by_cases hst : (pre.length : Int) + 1 = zs % 40
                · have es : ((pre.length : Int) + 1 == zs % 40) = true := by simp [hst]
                  clear hst
                  gi_wp2
                  generalize (W5.setCell ⟨bi + 1 + 1, 0, none⟩ (.int .i64 N)).setCell ⟨bi, 0, none⟩ (.int .i64 ((pre.length : Int) + 1)) = W6 at *
                  refine ⟨trivial, (CallsIn.inRound l (callsIn_wide.2 (awake_any W6))).mono ?_⟩
                  rintro e W7 ⟨rfl, k7⟩
                  have r7 := HD.out.1.box.r.kept k7 (fun e => e)
                  have x1 := r7.cell 0
                  have x2 := r7.frozen 0
                  have HR7 := Lib.hid r7
                  have HK7 := Lib.hid (HD.out.1.kept.trans k7 (fun _ _ e => e))
                  have HF7 := Lib.hid (HD.out.2.trans ⟨k7.size, fun j _ _ ho _ => (k7.block j (Array.getElem?_eq_some_iff.1 ho).1 (fun e => e)).trans ho⟩)
                  clear k7 r7
                  gi_wp2
                  exact ⟨HF7.out.trans ((KeepsOthers.setCell _ _ _).from _), rfl, HR7.out.set_ 0 _, HK7.out.setCell ⟨w.heap.size + 1, 0, none⟩ (.inr (by simp)) _⟩
                · have es : ((pre.length : Int) + 1 == zs % 40) = false := by simp [hst]
                  clear hst
                  gi_wp2
                  exact ⟨HD.out.2, trivial, HD.out.1⟩
              · have ex : ((xr : Int) != (h : Int)) = true := by simp; omega
                have HX := Lib.hid hx
                clear hx
                gi_wp2
                refine ⟨trivial, (CallsIn.inRound l (callsIn_wide.2 (removeI_any HL3.out (by omega) (x := xr) (by omega)))).mono ?_⟩
                rintro e W3 ⟨⟨v3, b3, rfl⟩, hl3, hk3⟩
                have HA3 := Lib.hid (HA.out.step HL3.out HBM.out hk3)
                have HL3' := Lib.hid hl3
                have c53 := HA3.out.box.l.cell 0
                clear hl3 hk3
                gi_wp2
                refine ⟨trivial, (CallsIn.inRound l (callsIn_wide.2 (pushM_i HL3'.out (by omega) 7))).mono ?_⟩
                rintro e W4 ⟨rfl, g4, hl4, hk4⟩
                have HL4 := Lib.hid (show LstI W4 w.heap.size p (.map (some bm)) g4 (StA k turn xr (pre ++ [(h, 10 * ((h : Int) - 1))])).1 (StA k turn xr (pre ++ [(h, 10 * ((h : Int) - 1))])).2 from by rw [HST.out, if_neg HX.out]; exact hl4)
                have HA4 := Lib.hid (HA3.out.step HL3'.out HBM.out hk4)
                clear hl4 hk4 c53
                have hlen4 := StA_len k turn xr (pre ++ [(h, 10 * ((h : Int) - 1))])
                have c4n := HA4.out.box.l.cell 0
                gi_wp2
                refine ⟨trivial, (CallsIn.inRound l (callsIn_wide.2 (next_i HL4.out (by omega) (k := (h : Int)) (WalkArith.wf_i64 (by omega))))).mono ?_⟩
                rintro e W5 ⟨rfl, k5⟩
                have HA5 := Lib.hid (HA4.out.keptN k5)
                have HL5 := Lib.hid (HL4.out.keptN k5)
                have wN : ((nxI (StA k turn xr (pre ++ [(h, 10 * ((h : Int) - 1))])).1 (h : Int) : Nat) : Int) = wantA k turn xr (pre ++ [(h, 10 * ((h : Int) - 1))]) := wantA_snoc.symm
                have HD := Lib.hid (HA5.out.done (x := (h, 10 * ((h : Int) - 1))) HLow.out HBi.out HL5.out HBM.out hpl (N := ((nxI (StA k turn xr (pre ++ [(h, 10 * ((h : Int) - 1))])).1 (h : Int) : Nat) : Int)) (L1 := (pre.length : Int) + 1) wN rfl)
                generalize ((nxI (StA k turn xr (pre ++ [(h, 10 * ((h : Int) - 1))])).1 (h : Int) : Nat) : Int) = N at *
                have d1 := HA5.out.want.cell 0
                have d2 := HA5.out.want.frozen 0
                have d3 := HA5.out.i.cell 0
                have d4 := HA5.out.i.frozen 0
                have d5 := HA5.out.box.s.cell 0
                have dne : bs ≠ bi := by have := HLow.out.s; omega
                have dne1 : bs ≠ bi + 1 + 1 := by have := HLow.out.s; omega
                clear k5 c1 c2 c3 c4 c5 c6 c4n wN hlen4
                by_cases hst : (pre.length : Int) + 1 = zs % 40
                · have es : ((pre.length : Int) + 1 == zs % 40) = true := by simp [hst]
                  clear hst
                  gi_wp2
                  generalize (W5.setCell ⟨bi + 1 + 1, 0, none⟩ (.int .i64 N)).setCell ⟨bi, 0, none⟩ (.int .i64 ((pre.length : Int) + 1)) = W6 at *
                  refine ⟨trivial, (CallsIn.inRound l (callsIn_wide.2 (awake_any W6))).mono ?_⟩
                  rintro e W7 ⟨rfl, k7⟩
                  have r7 := HD.out.1.box.r.kept k7 (fun e => e)
                  have x1 := r7.cell 0
                  have x2 := r7.frozen 0
                  have HR7 := Lib.hid r7
                  have HK7 := Lib.hid (HD.out.1.kept.trans k7 (fun _ _ e => e))
                  have HF7 := Lib.hid (HD.out.2.trans ⟨k7.size, fun j _ _ ho _ => (k7.block j (Array.getElem?_eq_some_iff.1 ho).1 (fun e => e)).trans ho⟩)
                  clear k7 r7
                  gi_wp2
                  exact ⟨HF7.out.trans ((KeepsOthers.setCell _ _ _).from _), rfl, HR7.out.set_ 0 _, HK7.out.setCell ⟨w.heap.size + 1, 0, none⟩ (.inr (by simp)) _⟩
                · have es : ((pre.length : Int) + 1 == zs % 40) = false := by simp [hst]
                  clear hst
                  gi_wp2
                  exact ⟨HD.out.2, trivial, HD.out.1⟩
            · have et : ((pre.length : Int) == (turn : Int)) = false := by simp; omega
              have HL4 := Lib.hid (show LstI W w.heap.size p (.map (some bm)) g (StA k turn xr (pre ++ [(h, 10 * ((h : Int) - 1))])).1 (StA k turn xr (pre ++ [(h, 10 * ((h : Int) - 1))])).2 from by rw [StA_snoc]; unfold stepA; rw [if_neg ht]; exact HL3.out)
              have HA4 := HA
              clear ht
              have hlen4 := StA_len k turn xr (pre ++ [(h, 10 * ((h : Int) - 1))])
              have c4n := HA4.out.box.l.cell 0
              gi_wp2
              refine ⟨trivial, (CallsIn.inRound l (callsIn_wide.2 (next_i HL4.out (by omega) (k := (h : Int)) (WalkArith.wf_i64 (by omega))))).mono ?_⟩
              rintro e W5 ⟨rfl, k5⟩
              have HA5 := Lib.hid (HA4.out.keptN k5)
              have HL5 := Lib.hid (HL4.out.keptN k5)
              have wN : ((nxI (StA k turn xr (pre ++ [(h, 10 * ((h : Int) - 1))])).1 (h : Int) : Nat) : Int) = wantA k turn xr (pre ++ [(h, 10 * ((h : Int) - 1))]) := wantA_snoc.symm
              have HD := Lib.hid (HA5.out.done (x := (h, 10 * ((h : Int) - 1))) HLow.out HBi.out HL5.out HBM.out hpl (N := ((nxI (StA k turn xr (pre ++ [(h, 10 * ((h : Int) - 1))])).1 (h : Int) : Nat) : Int)) (L1 := (pre.length : Int) + 1) wN rfl)
              generalize ((nxI (StA k turn xr (pre ++ [(h, 10 * ((h : Int) - 1))])).1 (h : Int) : Nat) : Int) = N at *
              have d1 := HA5.out.want.cell 0
              have d2 := HA5.out.want.frozen 0
              have d3 := HA5.out.i.cell 0
              have d4 := HA5.out.i.frozen 0
              have d5 := HA5.out.box.s.cell 0
              have dne : bs ≠ bi := by have := HLow.out.s; omega
              have dne1 : bs ≠ bi + 1 + 1 := by have := HLow.out.s; omega
              clear k5 c1 c2 c3 c4 c5 c6 c4n wN hlen4
              by_cases hst : (pre.length : Int) + 1 = zs % 40
              · have es : ((pre.length : Int) + 1 == zs % 40) = true := by simp [hst]
                clear hst
                gi_wp2
                generalize (W5.setCell ⟨bi + 1 + 1, 0, none⟩ (.int .i64 N)).setCell ⟨bi, 0, none⟩ (.int .i64 ((pre.length : Int) + 1)) = W6 at *
                refine ⟨trivial, (CallsIn.inRound l (callsIn_wide.2 (awake_any W6))).mono ?_⟩
                rintro e W7 ⟨rfl, k7⟩
                have r7 := HD.out.1.box.r.kept k7 (fun e => e)
                have x1 := r7.cell 0
                have x2 := r7.frozen 0
                have HR7 := Lib.hid r7
                have HK7 := Lib.hid (HD.out.1.kept.trans k7 (fun _ _ e => e))
                have HF7 := Lib.hid (HD.out.2.trans ⟨k7.size, fun j _ _ ho _ => (k7.block j (Array.getElem?_eq_some_iff.1 ho).1 (fun e => e)).trans ho⟩)
                clear k7 r7
                gi_wp2
                exact ⟨HF7.out.trans ((KeepsOthers.setCell _ _ _).from _), rfl, HR7.out.set_ 0 _, HK7.out.setCell ⟨w.heap.size + 1, 0, none⟩ (.inr (by simp)) _⟩
              · have es : ((pre.length : Int) + 1 == zs % 40) = false := by simp [hst]
                clear hst
                gi_wp2
                exact ⟨HD.out.2, trivial, HD.out.1⟩
          · dsimp only at hv hhk
            subst hv
            have e1 : decide (h ≤ k) = false := decide_eq_false (by omega)
            have e2 : decide (k < h) = true := decide_eq_true (by omega)
            have e3 : ((7 : Int) != 10 * ((h : Int) - 1)) = true := by simp; omega
            clear hhk
            have HA := Lib.hid (show Aft w wq.heap.size bs bg bk bl (w.heap.size + 1) p bc bi zs zg k turn pre.length h W W from ⟨HI1.out.box, HI1.out.c, HI1.out.i, HI1.out.t, by have := HI1.out.want; rw [HW.out] at this; exact this, HI1.out.kept, KeepsFrom.refl _ _⟩)
            by_cases ht : pre.length = turn
            · have et : ((pre.length : Int) == (turn : Int)) = true := by simp [ht]
              have hst : StA k turn xr (pre ++ [(h, 7)]) = ((if xr = h then (StA k turn xr pre).1 else rm (StA k turn xr pre).1 xr) ++ [(StA k turn xr pre).2.length + 1], (StA k turn xr pre).2 ++ [7]) := by rw [StA_snoc]; unfold stepA; rw [if_pos ht]
              have HST := Lib.hid hst
              clear ht hst
              by_cases hx : xr = h
              · have ex : ((xr : Int) != (h : Int)) = false := by simp [hx]
                have HX := Lib.hid hx
                clear hx
                gi_wp2
                refine ⟨trivial, (CallsIn.inRound l (callsIn_wide.2 (pushM_i HL3.out (by omega) 7))).mono ?_⟩
                rintro e W4 ⟨rfl, g4, hl4, hk4⟩
                have HL4 := Lib.hid (show LstI W4 w.heap.size p (.map (some bm)) g4 (StA k turn xr (pre ++ [(h, 7)])).1 (StA k turn xr (pre ++ [(h, 7)])).2 from by rw [HST.out, if_pos HX.out]; exact hl4)
                have HA4 := Lib.hid (HA.out.step HL3.out HBM.out hk4)
                clear hl4 hk4
                have hlen4 := StA_len k turn xr (pre ++ [(h, 7)])
                have c4n := HA4.out.box.l.cell 0
                gi_wp2
                refine ⟨trivial, (CallsIn.inRound l (callsIn_wide.2 (next_i HL4.out (by omega) (k := (h : Int)) (WalkArith.wf_i64 (by omega))))).mono ?_⟩
                rintro e W5 ⟨rfl, k5⟩
                have HA5 := Lib.hid (HA4.out.keptN k5)
                have HL5 := Lib.hid (HL4.out.keptN k5)
                have wN : ((nxI (StA k turn xr (pre ++ [(h, 7)])).1 (h : Int) : Nat) : Int) = wantA k turn xr (pre ++ [(h, 7)]) := wantA_snoc.symm
                have HD := Lib.hid (HA5.out.done (x := (h, 7)) HLow.out HBi.out HL5.out HBM.out hpl (N := ((nxI (StA k turn xr (pre ++ [(h, 7)])).1 (h : Int) : Nat) : Int)) (L1 := (pre.length : Int) + 1) wN rfl)
                generalize ((nxI (StA k turn xr (pre ++ [(h, 7)])).1 (h : Int) : Nat) : Int) = N at *
                have d1 := HA5.out.want.cell 0
                have d2 := HA5.out.want.frozen 0
                have d3 := HA5.out.i.cell 0
                have d4 := HA5.out.i.frozen 0
                have d5 := HA5.out.box.s.cell 0
                have dne : bs ≠ bi := by have := HLow.out.s; omega
                have dne1 : bs ≠ bi + 1 + 1 := by have := HLow.out.s; omega
                clear k5 c1 c2 c3 c4 c5 c6 c4n wN hlen4
                by_cases hst : (pre.length : Int) + 1 = zs % 40
                · have es : ((pre.length : Int) + 1 == zs % 40) = true := by simp [hst]
                  clear hst
                  gi_wp2
                  generalize (W5.setCell ⟨bi + 1 + 1, 0, none⟩ (.int .i64 N)).setCell ⟨bi, 0, none⟩ (.int .i64 ((pre.length : Int) + 1)) = W6 at *
                  refine ⟨trivial, (CallsIn.inRound l (callsIn_wide.2 (awake_any W6))).mono ?_⟩
                  rintro e W7 ⟨rfl, k7⟩
                  have r7 := HD.out.1.box.r.kept k7 (fun e => e)
                  have x1 := r7.cell 0
                  have x2 := r7.frozen 0
                  have HR7 := Lib.hid r7
                  have HK7 := Lib.hid (HD.out.1.kept.trans k7 (fun _ _ e => e))
                  have HF7 := Lib.hid (HD.out.2.trans ⟨k7.size, fun j _ _ ho _ => (k7.block j (Array.getElem?_eq_some_iff.1 ho).1 (fun e => e)).trans ho⟩)
                  clear k7 r7
                  gi_wp2
                  exact ⟨HF7.out.trans ((KeepsOthers.setCell _ _ _).from _), rfl, HR7.out.set_ 0 _, HK7.out.setCell ⟨w.heap.size + 1, 0, none⟩ (.inr (by simp)) _⟩
                · have es : ((pre.length : Int) + 1 == zs % 40) = false := by simp [hst]
                  clear hst
                  gi_wp2
                  exact ⟨HD.out.2, trivial, HD.out.1⟩
              · have ex : ((xr : Int) != (h : Int)) = true := by simp; omega
                have HX := Lib.hid hx
                clear hx
                gi_wp2
                refine ⟨trivial, (CallsIn.inRound l (callsIn_wide.2 (removeI_any HL3.out (by omega) (x := xr) (by omega)))).mono ?_⟩
                rintro e W3 ⟨⟨v3, b3, rfl⟩, hl3, hk3⟩
                have HA3 := Lib.hid (HA.out.step HL3.out HBM.out hk3)
                have HL3' := Lib.hid hl3
                have c53 := HA3.out.box.l.cell 0
                clear hl3 hk3
                gi_wp2
                refine ⟨trivial, (CallsIn.inRound l (callsIn_wide.2 (pushM_i HL3'.out (by omega) 7))).mono ?_⟩
                rintro e W4 ⟨rfl, g4, hl4, hk4⟩
                have HL4 := Lib.hid (show LstI W4 w.heap.size p (.map (some bm)) g4 (StA k turn xr (pre ++ [(h, 7)])).1 (StA k turn xr (pre ++ [(h, 7)])).2 from by rw [HST.out, if_neg HX.out]; exact hl4)
                have HA4 := Lib.hid (HA3.out.step HL3'.out HBM.out hk4)
                clear hl4 hk4 c53
                have hlen4 := StA_len k turn xr (pre ++ [(h, 7)])
                have c4n := HA4.out.box.l.cell 0
                gi_wp2
                refine ⟨trivial, (CallsIn.inRound l (callsIn_wide.2 (next_i HL4.out (by omega) (k := (h : Int)) (WalkArith.wf_i64 (by omega))))).mono ?_⟩
                rintro e W5 ⟨rfl, k5⟩
                have HA5 := Lib.hid (HA4.out.keptN k5)
                have HL5 := Lib.hid (HL4.out.keptN k5)
                have wN : ((nxI (StA k turn xr (pre ++ [(h, 7)])).1 (h : Int) : Nat) : Int) = wantA k turn xr (pre ++ [(h, 7)]) := wantA_snoc.symm
                have HD := Lib.hid (HA5.out.done (x := (h, 7)) HLow.out HBi.out HL5.out HBM.out hpl (N := ((nxI (StA k turn xr (pre ++ [(h, 7)])).1 (h : Int) : Nat) : Int)) (L1 := (pre.length : Int) + 1) wN rfl)
                generalize ((nxI (StA k turn xr (pre ++ [(h, 7)])).1 (h : Int) : Nat) : Int) = N at *
                have d1 := HA5.out.want.cell 0
                have d2 := HA5.out.want.frozen 0
                have d3 := HA5.out.i.cell 0
                have d4 := HA5.out.i.frozen 0
                have d5 := HA5.out.box.s.cell 0
                have dne : bs ≠ bi := by have := HLow.out.s; omega
                have dne1 : bs ≠ bi + 1 + 1 := by have := HLow.out.s; omega
                clear k5 c1 c2 c3 c4 c5 c6 c4n wN hlen4
                by_cases hst : (pre.length : Int) + 1 = zs % 40
                · have es : ((pre.length : Int) + 1 == zs % 40) = true := by simp [hst]
                  clear hst
                  gi_wp2
                  generalize (W5.setCell ⟨bi + 1 + 1, 0, none⟩ (.int .i64 N)).setCell ⟨bi, 0, none⟩ (.int .i64 ((pre.length : Int) + 1)) = W6 at *
                  refine ⟨trivial, (CallsIn.inRound l (callsIn_wide.2 (awake_any W6))).mono ?_⟩
                  rintro e W7 ⟨rfl, k7⟩
                  have r7 := HD.out.1.box.r.kept k7 (fun e => e)
                  have x1 := r7.cell 0
                  have x2 := r7.frozen 0
                  have HR7 := Lib.hid r7
                  have HK7 := Lib.hid (HD.out.1.kept.trans k7 (fun _ _ e => e))
                  have HF7 := Lib.hid (HD.out.2.trans ⟨k7.size, fun j _ _ ho _ => (k7.block j (Array.getElem?_eq_some_iff.1 ho).1 (fun e => e)).trans ho⟩)
                  clear k7 r7
                  gi_wp2
                  exact ⟨HF7.out.trans ((KeepsOthers.setCell _ _ _).from _), rfl, HR7.out.set_ 0 _, HK7.out.setCell ⟨w.heap.size + 1, 0, none⟩ (.inr (by simp)) _⟩
                · have es : ((pre.length : Int) + 1 == zs % 40) = false := by simp [hst]
                  clear hst
                  gi_wp2
                  exact ⟨HD.out.2, trivial, HD.out.1⟩
            · have et : ((pre.length : Int) == (turn : Int)) = false := by simp; omega
              have HL4 := Lib.hid (show LstI W w.heap.size p (.map (some bm)) g (StA k turn xr (pre ++ [(h, 7)])).1 (StA k turn xr (pre ++ [(h, 7)])).2 from by rw [StA_snoc]; unfold stepA; rw [if_neg ht]; exact HL3.out)
              have HA4 := HA
              clear ht
              have hlen4 := StA_len k turn xr (pre ++ [(h, 7)])
              have c4n := HA4.out.box.l.cell 0
              gi_wp2
              refine ⟨trivial, (CallsIn.inRound l (callsIn_wide.2 (next_i HL4.out (by omega) (k := (h : Int)) (WalkArith.wf_i64 (by omega))))).mono ?_⟩
              rintro e W5 ⟨rfl, k5⟩
              have HA5 := Lib.hid (HA4.out.keptN k5)
              have HL5 := Lib.hid (HL4.out.keptN k5)
              have wN : ((nxI (StA k turn xr (pre ++ [(h, 7)])).1 (h : Int) : Nat) : Int) = wantA k turn xr (pre ++ [(h, 7)]) := wantA_snoc.symm
              have HD := Lib.hid (HA5.out.done (x := (h, 7)) HLow.out HBi.out HL5.out HBM.out hpl (N := ((nxI (StA k turn xr (pre ++ [(h, 7)])).1 (h : Int) : Nat) : Int)) (L1 := (pre.length : Int) + 1) wN rfl)
              generalize ((nxI (StA k turn xr (pre ++ [(h, 7)])).1 (h : Int) : Nat) : Int) = N at *
              have d1 := HA5.out.want.cell 0
              have d2 := HA5.out.want.frozen 0
              have d3 := HA5.out.i.cell 0
              have d4 := HA5.out.i.frozen 0
              have d5 := HA5.out.box.s.cell 0
              have dne : bs ≠ bi := by have := HLow.out.s; omega
              have dne1 : bs ≠ bi + 1 + 1 := by have := HLow.out.s; omega
              clear k5 c1 c2 c3 c4 c5 c6 c4n wN hlen4
              by_cases hst : (pre.length : Int) + 1 = zs % 40
              · have es : ((pre.length : Int) + 1 == zs % 40) = true := by simp [hst]
                clear hst
                gi_wp2
                generalize (W5.setCell ⟨bi + 1 + 1, 0, none⟩ (.int .i64 N)).setCell ⟨bi, 0, none⟩ (.int .i64 ((pre.length : Int) + 1)) = W6 at *
                refine ⟨trivial, (CallsIn.inRound l (callsIn_wide.2 (awake_any W6))).mono ?_⟩
                rintro e W7 ⟨rfl, k7⟩
                have r7 := HD.out.1.box.r.kept k7 (fun e => e)
                have x1 := r7.cell 0
                have x2 := r7.frozen 0
                have HR7 := Lib.hid r7
                have HK7 := Lib.hid (HD.out.1.kept.trans k7 (fun _ _ e => e))
                have HF7 := Lib.hid (HD.out.2.trans ⟨k7.size, fun j _ _ ho _ => (k7.block j (Array.getElem?_eq_some_iff.1 ho).1 (fun e => e)).trans ho⟩)
                clear k7 r7
                gi_wp2
                exact ⟨HF7.out.trans ((KeepsOthers.setCell _ _ _).from _), rfl, HR7.out.set_ 0 _, HK7.out.setCell ⟨w.heap.size + 1, 0, none⟩ (.inr (by simp)) _⟩
              · have es : ((pre.length : Int) + 1 == zs % 40) = false := by simp [hst]
                clear hst
                gi_wp2
                exact ⟨HD.out.2, trivial, HD.out.1⟩
        case done =>
          rintro D xs W hD hS hI hK
          have c4 := hI.box.k.cell 0
          have c1 := hI.want.cell 0
          have HI1 := Lib.hid hI
          have HKD := Lib.hid hK
          have hlt : D < W.heap.size := (Array.getElem?_eq_some_iff.1 hK).1
          by_cases hk0 : k = 0
          · have ek : ((k : Int) == 0) = true := by simp [hk0]
            clear hI hK hS hk0
            gi_wp2
            refine ⟨trivial, (callsIn_wide.2 (awake_any W)).mono ?_⟩
            rintro e W7 ⟨rfl, k7⟩
            have r7 := HI1.out.box.r.kept k7 (fun e => e)
            have x1 := r7.cell 0
            have x2 := r7.frozen 0
            have hK7 : W7.heap[D]? = some (.deferred (some [])) := (k7.block D hlt (fun e => e)).trans HKD.out
            have HK8 := Lib.hid (show (W7.setCell ⟨w.heap.size + 1, 0, none⟩ (.bool true)).heap[D]? = some (.deferred (some [])) from (KeepsOthers.setCell W7 ⟨w.heap.size + 1, 0, none⟩ (.bool true)).same D _ hK7 rfl)
            have HR8 := Lib.hid (r7.set_ 0 (.bool true))
            have HK := Lib.hid ((HI1.out.kept.trans k7 (fun _ _ e => e)).setCell ⟨w.heap.size + 1, 0, none⟩ (.inr (by simp)) (.bool true))
            clear k7 r7 hK7
            gi_wp2
            refine ⟨by simp, .inl ⟨_, _, rfl, run_takeDeferred HK8.out, ?_⟩⟩
            have hbD := Blk.kept HR8.out (kept_of_row (grownBy_putObj' _ D (.deferred none))) (fun e => by
              cases e
              have h1 := HR8.out
              have h2 := HK8.out
              unfold Blk at h1
              rw [h2] at h1; cases h1)
            have hcD := hbD.cell 0
            refine ⟨.bool true, ?_, rfl, HK.out.trans (kept_of_row (grownBy_putObj' _ D (.deferred none))) (fun i hi e => by cases e; omega)⟩
            simp at hcD
            simp [results, Try.f4, go_sem, hcD]
          · have ek : ((k : Int) == 0) = false := by simp [hk0]
            have hw0 : wantA k turn xr xs = 0 := by
              unfold wantA
              split
              · rename_i e
                subst e
                have h2 := hS
                unfold EndL at h2
                rw [StA_nil, lastH_nil] at h2
                have h3 : nxI (row0 k) ((0 : Nat) : Int) = nx (0 :: row0 k) 0 := rfl
                rw [h3, ← headD_nx] at h2
                cases k with
                | zero => exact absurd rfl hk0
                | succ k =>
                  have : (row0 (k + 1)).headD 0 = 1 := by unfold row0; rw [List.range'_succ]; rfl
                  omega
              · rw [show nxI (StA k turn xr xs).1 (lastH xs : Int) = 0 from hS]; rfl
            rw [hw0] at c1
            clear hI hK hS hk0 hw0
            gi_wp2
            refine ⟨trivial, (callsIn_wide.2 (awake_any W)).mono ?_⟩
            rintro e W7 ⟨rfl, k7⟩
            have r7 := HI1.out.box.r.kept k7 (fun e => e)
            have x1 := r7.cell 0
            have x2 := r7.frozen 0
            have hK7 : W7.heap[D]? = some (.deferred (some [])) := (k7.block D hlt (fun e => e)).trans HKD.out
            have HK8 := Lib.hid (show (W7.setCell ⟨w.heap.size + 1, 0, none⟩ (.bool true)).heap[D]? = some (.deferred (some [])) from (KeepsOthers.setCell W7 ⟨w.heap.size + 1, 0, none⟩ (.bool true)).same D _ hK7 rfl)
            have HR8 := Lib.hid (r7.set_ 0 (.bool true))
            have HK := Lib.hid ((HI1.out.kept.trans k7 (fun _ _ e => e)).setCell ⟨w.heap.size + 1, 0, none⟩ (.inr (by simp)) (.bool true))
            clear k7 r7 hK7
            gi_wp2
            refine ⟨by simp, .inl ⟨_, _, rfl, run_takeDeferred HK8.out, ?_⟩⟩
            have hbD := Blk.kept HR8.out (kept_of_row (grownBy_putObj' _ D (.deferred none))) (fun e => by
              cases e
              have h1 := HR8.out
              have h2 := HK8.out
              unfold Blk at h1
              rw [h2] at h1; cases h1)
            have hcD := hbD.cell 0
            refine ⟨.bool true, ?_, rfl, HK.out.trans (kept_of_row (grownBy_putObj' _ D (.deferred none))) (fun i hi e => by cases e; omega)⟩
            simp at hcD
            simp [results, Try.f4, go_sem, hcD]
        case stop =>
          rintro D c pre W hD ⟨rfl, hb, hkk⟩ hK
          gi_wp2
          refine ⟨by simp, .inl ⟨_, _, rfl, run_takeDeferred hK, ?_⟩⟩
          have hbD := Blk.kept hb (kept_of_row (grownBy_putObj' _ D (.deferred none))) (fun e => by
            cases e
            have h1 := hb
            have h2 := hK
            unfold Blk at h1
            rw [h2] at h1; cases h1)
          have hcD := hbD.cell 0
          refine ⟨.bool true, ?_, rfl, hkk.trans (kept_of_row (grownBy_putObj' _ D (.deferred none))) (fun i hi e => by cases e; omega)⟩
          simp at hcD
          simp [results, Try.f4, go_sem, hcD]
end Go.Proofs.Ytpjfpmagmclldaa
