/- Layer trie: the document's example, its numbers. No program. – Layer trie: the law's example. – Layer trie: Remove of a list that isn't there. – Layer scope: slices.Index of a condition's three terms; term.Var. – Layer scope: where a variable is bound, as the program looks for it. – Layer scope: the program's Bound: where each variable is bound, rising. -/
import Derived.Test.YtljefbfjehblpaaGreatA15
import Derived.Test.YtljefbfjehblpaaGreatA18
import Derived.Test.YtljefbfjehblpaaGreatA3
namespace Go.Proofs.YtljefbfjehblpaaGreat
section
open Go.RowKit
set_option maxRecDepth 100000
def xA : St := .mk ⟨1, 0, 0, 0, []⟩ []
def xB : St := .mk ⟨1, 1, 0, 0, []⟩ []
def xC : St := .mk ⟨2, 0, 0, 0, []⟩ []
theorem x_rlB : Rl [xA, xB] := ⟨by decide, by decide⟩
theorem x_rlC : Rl [xA, xC] := ⟨by decide, by decide⟩
theorem x_chB : chSL [xA, xB] [] = [[xA], [xA, xB]] := by rfl
theorem x_chC : chSL [xA, xC] [] = [[xA], [xA, xC]] := by rfl
def xE1 : En := [([xA], true), ([xA, xB], true)]
def xE2 : En := [([xA], true), ([xA, xB], true), ([xA, xC], true)]
theorem x_es1 : addAll [] (chSL [xA, xB] []) = xE1 := by decide
theorem x_es2 : addAll xE1 (chSL [xA, xC] []) = xE2 := by decide
theorem x_ids1 : (chSL [xA, xB] []).map (fnd xE1) = [2, 3] := by decide
theorem x_ids2 : (chSL [xA, xC] []).map (fnd xE2) = [2, 4] := by decide
theorem x_out : ((([] :: chSL [xA, xB] []).reverse.filter (goes [[xA, xB], [xA, xC]] [xA, xB])).map (fnd xE2)) = [3] := by decide
theorem x_dis : ∀ x, x ∈ [[xA], [xA, xC]] ↔ x ≠ [] ∧ 0 < usesL ([[xA, xB], [xA, xC]].erase [xA, xB]) x := by
  intro x
  have e : [[xA, xB], [xA, xC]].erase [xA, xB] = [[xA, xC]] := by decide
  rw [e]
  unfold usesL
  rw [List.countP_singleton, x_chC]
  constructor
  · intro h
    have h0 : x ≠ [] := fun e => by subst e; simp at h
    exact ⟨h0, by simp [h0, h]⟩
  · rintro ⟨h0, h1⟩
    by_cases hm : x ∈ [[xA], [xA, xC]]
    · exact hm
    · simp [h0, hm] at h1
end
section
open Go.RowKit Go.Maps Go.WideMaps
set_option maxRecDepth 100000

abbrev cX (k a : Int) : List Value := [.int .i64 k, .int .i64 a, .int .i64 0, .int .i64 0, .slice none 0 0, .slice none 0 0]
theorem holds2 {W : World} {b : Nat} {k a k' a' : Int} (hb : Blk W b 65 #[.int .i64 k, .int .i64 a, .int .i64 0, .int .i64 0, .slice none 0 0, .slice none 0 0, .int .i64 k', .int .i64 a', .int .i64 0, .int .i64 0, .slice none 0 0, .slice none 0 0]) :
    SHolds W (fun x _ => x = b) (.slice (some ⟨b, 0, none⟩) [St.mk ⟨k, a, 0, 0, []⟩ [], St.mk ⟨k', a', 0, 0, []⟩ []].length 2) [St.mk ⟨k, a, 0, 0, []⟩ [], St.mk ⟨k', a', 0, 0, []⟩ []] := by
  refine .row b 0 2 _ (fun _ => .slice none 0 0) (fun _ => .slice none 0 0) (by simp) rfl (fun i x hi => ?_) (fun i x hi => ?_) (fun i x hi => ?_)
  · have hl := (List.getElem?_eq_some_iff.1 hi).1
    have : i = 0 ∨ i = 1 := by simp at hl; omega
    rcases this with rfl | rfl
    · cases hi; exact World.rangeAt_of_block hb 0 6
    · cases hi; exact World.rangeAt_of_block hb 6 6
  · have hl := (List.getElem?_eq_some_iff.1 hi).1
    have : i = 0 ∨ i = 1 := by simp at hl; omega
    rcases this with rfl | rfl <;> (cases hi; exact .nil none 0)
  · have hl := (List.getElem?_eq_some_iff.1 hi).1
    have : i = 0 ∨ i = 1 := by simp at hl; omega
    rcases this with rfl | rfl <;> (cases hi; exact .nil none 0)
/-- What the example's region reads. -/
def SAw (b1 b2 b3 : Nat) (w : World) : Prop := Blk w b1 65 (cX 1 0).toArray ∧ Blk w b2 65 (cX 1 1).toArray ∧ Blk w b3 65 (cX 2 0).toArray
/-- What stands behind it. -/
def AwM (w : World) (p b1 b2 b3 : Nat) (x y : Value) (W : World) : Prop := SAw b1 b2 b3 W ∧ Kept Nil w W ∧ ∃ c U E a1 c1 a2 c2, x = .slice a1 2 c1 ∧ y = .slice a2 2 c2 ∧ In cNt 1 W a1 2 [2, 3] ∧ In cNt 1 W a2 2 [2, 4] ∧ (∀ b, (Value.slice a1 2 c1).ownBlock = some b → c b = 0) ∧ (∀ b, (Value.slice a2 2 c2).ownBlock = some b → c b = 0) ∧ TE W c p xE2 U E ∧ TLS [[xA, xB], [xA, xC]] xE2 U E ∧ c b1 = 0 ∧ c b2 = 0 ∧ c b3 = 0 ∧ ∀ b, b < w.heap.size → c b = 0
abbrev cAB : Array Value := #[.int .i64 1, .int .i64 0, .int .i64 0, .int .i64 0, .slice none 0 0, .slice none 0 0, .int .i64 1, .int .i64 1, .int .i64 0, .int .i64 0, .slice none 0 0, .slice none 0 0]
abbrev cAC : Array Value := #[.int .i64 1, .int .i64 0, .int .i64 0, .int .i64 0, .slice none 0 0, .slice none 0 0, .int .i64 2, .int .i64 0, .int .i64 0, .int .i64 0, .slice none 0 0, .slice none 0 0]
section
variable {W : World} {c : Nat → Nat} {p : Nat} {U E : Nat → Int}
theorem aw_add1 (ht : TE W c p [] U E) (h : TLS [] [] U E) {bx : Nat} (hb : Blk W bx 65 cAB) (hc : c bx = 0) :
    Calls Tryz.prog 14 #[.pointer (some ⟨p, 0, none⟩), .slice (some ⟨bx, 0, none⟩) 2 2] W fun e W' => ∃ a cp c2 U2 E2, e = .returned (.slice a 2 cp) ∧ In cNt 1 W' a 2 [2, 3] ∧ (∀ b, (Value.slice a 2 cp).ownBlock = some b → W.heap.size ≤ b ∧ b < W'.heap.size ∧ c2 b = 0) ∧ TEG W W' c p xE1 U2 E2 c2 ∧ TLS [[xA, xB]] xE1 U2 E2 := by
  have hA := add_any ht [xA, xB] x_rlB (by decide) h.far (fun n => by have := h.bnd n; simp at this; omega) (fun x _ => x = bx) (fun b o e => by subst e; exact ⟨hb.lt, hc⟩) (some ⟨bx, 0, none⟩) 2 (holds2 hb)
  have hT := h.add x_rlB
  rw [x_es1] at hA hT
  rw [x_ids1] at hA
  refine hA.mono ?_
  rintro e W' ⟨a, cp, c2, rfl, hI, ho, _, t⟩
  exact ⟨a, cp, c2, _, _, rfl, hI, ho, t, hT⟩
theorem aw_add2 (ht : TE W c p xE1 U E) (h : TLS [[xA, xB]] xE1 U E) {bx : Nat} (hb : Blk W bx 65 cAC) (hc : c bx = 0) :
    Calls Tryz.prog 14 #[.pointer (some ⟨p, 0, none⟩), .slice (some ⟨bx, 0, none⟩) 2 2] W fun e W' => ∃ a cp c2 U2 E2, e = .returned (.slice a 2 cp) ∧ In cNt 1 W' a 2 [2, 4] ∧ (∀ b, (Value.slice a 2 cp).ownBlock = some b → W.heap.size ≤ b ∧ b < W'.heap.size ∧ c2 b = 0) ∧ TEG W W' c p xE2 U2 E2 c2 ∧ TLS [[xA, xB], [xA, xC]] xE2 U2 E2 := by
  have hA := add_any ht [xA, xC] x_rlC (by decide) h.far (fun n => by have := h.bnd n; simp at this; omega) (fun x _ => x = bx) (fun b o e => by subst e; exact ⟨hb.lt, hc⟩) (some ⟨bx, 0, none⟩) 2 (holds2 hb)
  have hT := h.add x_rlC
  rw [x_es2] at hA hT
  rw [x_ids2] at hA
  refine hA.mono ?_
  rintro e W' ⟨a, cp, c2, rfl, hI, ho, _, t⟩
  exact ⟨a, cp, c2, _, _, rfl, hI, ho, t, hT⟩
theorem aw_rem (ht : TE W c p xE2 U E) (h : TLS [[xA, xB], [xA, xC]] xE2 U E) {bx : Nat} (hb : Blk W bx 65 cAB) (hc : c bx = 0) :
    Calls Tryz.prog 10 #[.pointer (some ⟨p, 0, none⟩), .slice (some ⟨bx, 0, none⟩) 2 2] W fun e W' => ∃ a cp c2 es U2 E2, e = .returned (.tuple #[.slice a 1 cp, .int .i64 0]) ∧ In cNt 1 W' a 1 [3] ∧ TEG W W' c p es U2 E2 c2 ∧ TLS ([[xA, xB], [xA, xC]].erase [xA, xB]) es U2 E2 := by
  refine (remove_any ht h (by decide) (by decide) x_rlB (by decide) (fun x _ => x = bx) (fun b o e => by subst e; exact ⟨hb.lt, hc⟩) (some ⟨bx, 0, none⟩) 2 (holds2 hb)).mono ?_
  rintro e W' ⟨a, n, cp, c2, es2, U2, out, rfl, r, hI, _, _, t⟩
  have ho := r.out
  rw [x_out] at ho
  subst ho
  have hn := hI.1
  simp at hn
  subst hn
  exact ⟨a, cp, c2, _, _, _, rfl, hI, t, RemI.done h (by decide) r⟩
end
theorem infoSt6 : (Tryz.prog.info? 65).map (·.size) = some 6 := by kernel_rfl
theorem loadSt {W : World} {q : Nat} {cs : Array Value} (hb : Blk W q 65 cs) (hsz : cs.size = 6) : (Instr.loadAt 65 (.pointer (some ⟨q, 0, none⟩))).run Tryz.prog W = .ok (.agg cs) W := by
  simp only [Instr.loadAt, Instr.sureAddr, Sem.run_bind, Sem.run_pure, Result.andThen_ok, run_loadVar_row W q _ _ _ _ _ hb Tryz.underlying65 rfl (hsz ▸ infoSt6)]
theorem SAw.keptF {b1 b2 b3 : Nat} {W W' : World} {F : Nat → Prop} (h : SAw b1 b2 b3 W) (k : Kept F W W') (z : ¬ F b1 ∧ ¬ F b2 ∧ ¬ F b3) : SAw b1 b2 b3 W' := ⟨h.1.kept k z.1, h.2.1.kept k z.2.1, h.2.2.kept k z.2.2⟩
theorem SAw.keptN {b1 b2 b3 : Nat} {W W' : World} (h : SAw b1 b2 b3 W) (k : Kept Nil W W') : SAw b1 b2 b3 W' := h.keptF k ⟨fun e => e, fun e => e, fun e => e⟩
/-- Behind both calls of Add. -/
theorem aw_mid {w W W3 W4 W5 : World} {p b1 b2 b3 cp1 cp2 : Nat} {c c2 c3 : Nat → Nat} {U2 E2 U3 E3 : Nat → Int} {a1 a2 : Option Addr} (k0 : Kept Nil w W) (h0 : SAw b1 b2 b3 W) (z : (c b1 = 0 ∧ c b2 = 0 ∧ c b3 = 0) ∧ ∀ b, b < w.heap.size → c b = 0)
    (t1 : TEG W W3 c p xE1 U2 E2 c2) (i1 : In cNt 1 W3 a1 2 [2, 3]) (o1 : ∀ b, (Value.slice a1 2 cp1).ownBlock = some b → W.heap.size ≤ b ∧ b < W3.heap.size ∧ c2 b = 0) (k4 : Kept Nil W3 W4)
    (t2 : TEG W4 W5 c2 p xE2 U3 E3 c3) (hT : TLS [[xA, xB], [xA, xC]] xE2 U3 E3) (i2 : In cNt 1 W5 a2 2 [2, 4]) (o2 : ∀ b, (Value.slice a2 2 cp2).ownBlock = some b → W4.heap.size ≤ b ∧ b < W5.heap.size ∧ c3 b = 0) :
    AwM w p b1 b2 b3 (.slice a1 2 cp1) (.slice a2 2 cp2) W5 := by
  have z2 : (c2 b1 = 0 ∧ c2 b2 = 0 ∧ c2 b3 = 0) := ⟨t1.zero h0.1.lt z.1.1, t1.zero h0.2.1.lt z.1.2.1, t1.zero h0.2.2.lt z.1.2.2⟩
  have h3 : SAw b1 b2 b3 W4 := (h0.keptF t1.kept ⟨fun e => e.1 z.1.1, fun e => e.1 z.1.2.1, fun e => e.1 z.1.2.2⟩).keptN k4
  have h5 : SAw b1 b2 b3 W5 := h3.keptF t2.kept ⟨fun e => e.1 z2.1, fun e => e.1 z2.2.1, fun e => e.1 z2.2.2⟩
  have hsz1 := k0.size
  have hsz2 := t1.kept.size
  have hsz3 := k4.size
  have zw2 : ∀ b, b < w.heap.size → c2 b = 0 := fun b hb => t1.zero (by omega) (z.2 b hb)
  have k05 : Kept Nil w W5 := ((k0.trans t1.kept (fun i hi e => e.1 (z.2 i hi))).trans k4 (fun _ _ e => e)).trans t2.kept (fun i hi e => e.1 (zw2 i hi))
  exact ⟨h5, k05, c3, U3, E3, a1, cp1, a2, cp2, rfl, rfl, (i1.kept k4).keptF (cap := cp1) t2.kept (fun b e f => f.1 (o1 b e).2.2), i2, fun b e => t2.zero (by have := (o1 b e).2.1; omega) (o1 b e).2.2, fun b e => (o2 b e).2.2, t2.te, hT,
    t2.zero h3.1.lt z2.1, t2.zero h3.2.1.lt z2.2.1, t2.zero h3.2.2.lt z2.2.2, fun b hb => t2.zero (by omega) (zw2 b hb)⟩
theorem in_lit {W : World} {b : Nat} {l : List Nat} {cs : Array Value} (hb : Blk W b 3 cs) (hc : cs.toList = l.flatMap cNt) : In cNt 1 W (some ⟨b, 0, none⟩) l.length l := by
  refine ⟨rfl, .inr ⟨b, 0, rfl, hb.lt, fun j x i v hj hi => ?_⟩⟩
  have hi0 : i = 0 := by
    have := (List.getElem?_eq_some_iff.1 hi).1
    simp [cNt] at this; exact this
  subst hi0
  have hv : v = .int .i64 x := by simp [cNt] at hi; exact hi.symm
  subst hv
  have hl : cs.toList = l.map (fun x : Nat => Value.int .i64 (x : Int)) := by
    rw [hc]
    clear hc hj hb
    induction l with
    | nil => rfl
    | cons y r ih => rw [List.flatMap_cons, ih]; rfl
  have e : cs[j]? = some (.int .i64 (x : Int)) := by
    rw [← Array.getElem?_toList, hl, List.getElem?_map, hj]; rfl
  rw [show (⟨b, 0 + j * 1 + 0, none⟩ : Addr) = ⟨b, j, none⟩ by simp, hb.cell j]
  exact e
theorem aw_ints {W : World} {a : Option Addr} {n c b : Nat} {l : List Nat} {cs : Array Value} (h : In cNt 1 W a n l) (hb : Blk W b 3 cs) (hc : cs.toList = l.flatMap cNt) (hn : n ≤ 1000) :
    Calls Tryz.prog 12 #[.slice a n c, .slice (some ⟨b, 0, none⟩) n n] W fun e w' => e = .returned (.bool true) ∧ Kept Nil W w' := by
  have e := h.1
  subst e
  refine (ints_any h (in_lit hb hc) (by omega) (by omega)).mono ?_
  rintro e w' ⟨he, k⟩
  rw [decide_eq_true rfl] at he
  exact ⟨he, k⟩
set_option maxHeartbeats 8000000 in
theorem awake_any (w : World) : Calls Tryz.prog 5 #[] w fun e w' => e = .returned (.bool true) ∧ Kept Nil w w' := by
  go_enter Tryz.func5, Tryz.ntmps5
  go_wp2_with fail
  have HS0 : Hid (SAw w.heap.size (w.heap.size + 1) (w.heap.size + 1 + 1) (((w.alloc (.cells (cX 1 0).toArray 65)).alloc (.cells (cX 1 1).toArray 65)).alloc (.cells (cX 2 0).toArray 65))) := Lib.hid
    ⟨((Blk.new w _ _).alloc _).alloc _, by simpa using (Blk.new (w.alloc (.cells (cX 1 0).toArray 65)) 65 (cX 1 1).toArray).alloc (.cells (cX 2 0).toArray 65), by simpa using Blk.new ((w.alloc (.cells (cX 1 0).toArray 65)).alloc (.cells (cX 1 1).toArray 65)) 65 (cX 2 0).toArray⟩
  have HK0 := Lib.hid ((((Kept.refl Nil w).alloc (.cells (cX 1 0).toArray 65)).alloc (.cells (cX 1 1).toArray 65)).alloc (.cells (cX 2 0).toArray 65))
  have HZ0 : Hid ((((w.alloc (.cells (cX 1 0).toArray 65)).alloc (.cells (cX 1 1).toArray 65)).alloc (.cells (cX 2 0).toArray 65)).heap.size = w.heap.size + 1 + 1 + 1) := Lib.hid (by simp)
  refine (new_any _).mono ?_
  rintro e w1 ⟨p, c, rfl, te, k1, hc⟩
  have HTE := Lib.hid te
  have HC := Lib.hid (fun b (hb : b < w.heap.size + 1 + 1 + 1) => by
    by_cases e : c b = 0
    · exact e
    · have h3 : w.heap.size + 1 + 1 + 1 ≤ b := Nat.le_trans (Nat.le_of_eq HZ0.out.symm) (hc b e)
      omega : ∀ b, b < w.heap.size + 1 + 1 + 1 → c b = 0)
  have HS1 := Lib.hid (show SAw w.heap.size (w.heap.size + 1) (w.heap.size + 1 + 1) w1 from ⟨HS0.out.1.kept k1 (fun e => e), HS0.out.2.1.kept k1 (fun e => e), HS0.out.2.2.kept k1 (fun e => e)⟩)
  have HK1 := Lib.hid (HK0.out.trans k1 (fun _ _ e => e))
  clear te k1 hc HS0 HK0 HZ0
  obtain ⟨b1, hb1⟩ : ∃ b1, w.heap.size = b1 := ⟨_, rfl⟩
  simp only [hb1] at HC HS1 ⊢
  obtain ⟨b2, hb2⟩ : ∃ b2, b1 + 1 = b2 := ⟨_, rfl⟩
  simp only [hb2] at HC HS1 ⊢
  obtain ⟨b3, hb3⟩ : ∃ b3, b2 + 1 = b3 := ⟨_, rfl⟩
  simp only [hb3] at HC HS1 ⊢
  have HB := Lib.hid (And.intro hb1 (And.intro hb2 hb3))
  have HCZ := Lib.hid (show c b1 = 0 ∧ c b2 = 0 ∧ c b3 = 0 from ⟨HC.out _ (by omega), HC.out _ (by omega), HC.out _ (by omega)⟩)
  have HCW := Lib.hid (show ∀ b, b < w.heap.size → c b = 0 from fun b hb => HC.out b (by omega))
  clear hb1 hb2 hb3
  go_upto_region 5 with fail
  go_cut [5, 6] from 16 to 25 (fun x y wx => AwM w p b1 b2 b3 x y wx)
  case first =>
    have HLOW := Lib.hid HTE.out.low
    have S0 := Lib.hid (show SAw b1 b2 b3 w1.drew from HS1.out.keptN ((Kept.refl Nil w1).drew))
    have KD := Lib.hid ((Kept.refl Nil w1).drew)
    refine wp_region_held (SAw b1 b2 b3) (by kernel_rfl) ?_
    refine takeH (i := 0) (some 16) (.pointer (some ⟨p, 0, none⟩)) rfl rfl (by kernel_rfl) (by kernel_rfl) (by kernel_rfl) (fun _ _ _ h => h) (by rfl) S0.out ?_ ?_
    · intro w hSw
      go_simp
    simp only [Act.put, List.setIfInBounds_toArray, List.set_cons_succ, List.set_cons_zero]
    refine takeH (i := 1) (some 17) (.agg #[.int .i64 1, .int .i64 0, .int .i64 0, .int .i64 0, .slice none 0 0, .slice none 0 0]) rfl rfl (by kernel_rfl) (by kernel_rfl) (by kernel_rfl) (fun _ _ _ h => h) (by rfl) S0.out ?_ ?_
    · intro w hSw
      exact exec_load rfl rfl (loadSt hSw.1 rfl)
    simp only [Act.put, List.setIfInBounds_toArray, List.set_cons_succ, List.set_cons_zero]
    refine takeH (i := 2) (some 18) (.agg #[.int .i64 1, .int .i64 1, .int .i64 0, .int .i64 0, .slice none 0 0, .slice none 0 0]) rfl rfl (by kernel_rfl) (by kernel_rfl) (by kernel_rfl) (fun _ _ _ h => h) (by rfl) S0.out ?_ ?_
    · intro w hSw
      exact exec_load rfl rfl (loadSt hSw.2.1 rfl)
    simp only [Act.put, List.setIfInBounds_toArray, List.set_cons_succ, List.set_cons_zero]
    refine takeH (i := 5) (some 21) (.pointer (some ⟨p, 0, none⟩)) rfl rfl (by kernel_rfl) (by kernel_rfl) (by kernel_rfl) (fun _ _ _ h => h) (by rfl) S0.out ?_ ?_
    · intro w hSw
      go_simp
    simp only [Act.put, List.setIfInBounds_toArray, List.set_cons_succ, List.set_cons_zero]
    refine takeH (i := 6) (some 22) (.agg #[.int .i64 1, .int .i64 0, .int .i64 0, .int .i64 0, .slice none 0 0, .slice none 0 0]) rfl rfl (by kernel_rfl) (by kernel_rfl) (by kernel_rfl) (fun _ _ _ h => h) (by rfl) S0.out ?_ ?_
    · intro w hSw
      exact exec_load rfl rfl (loadSt hSw.1 rfl)
    simp only [Act.put, List.setIfInBounds_toArray, List.set_cons_succ, List.set_cons_zero]
    refine takeH (i := 7) (some 23) (.agg #[.int .i64 2, .int .i64 0, .int .i64 0, .int .i64 0, .slice none 0 0, .slice none 0 0]) rfl rfl (by kernel_rfl) (by kernel_rfl) (by kernel_rfl) (fun _ _ _ h => h) (by rfl) S0.out ?_ ?_
    · intro w hSw
      exact exec_load rfl rfl (loadSt hSw.2.2 rfl)
    simp only [Act.put, List.setIfInBounds_toArray, List.set_cons_succ, List.set_cons_zero]
    generalize w1.drew = V0 at *
    refine wpAnyH_all (rs := [3, 8]) (by kernel_rfl) (by decide) (fun k hk => ?_)
    rcases List.mem_cons.1 hk with rfl | hk
    · refine wpOp_of rfl rfl (lit_wp (some 19) rfl (v := (.slice (some ⟨V0.heap.size, 0, none⟩) 2 2)) (w' := V0.alloc (.cells cAB 65)) ?_ ?_)
      · go_simp
      have Bx := Lib.hid (Blk.new V0 65 cAB)
      have KV2 := Lib.hid ((Kept.refl Nil V0).alloc (.cells cAB 65))
      have SV2 := Lib.hid (S0.out.keptN KV2.out)
      refine ⟨SV2.out, ?_⟩
      simp only [Act.put, List.setIfInBounds_toArray, List.set_cons_succ, List.set_cons_zero]
      generalize V0.alloc (.cells cAB 65) = V2 at *
      obtain ⟨bx, hbx⟩ : ∃ bx, V0.heap.size = bx := ⟨_, rfl⟩
      simp only [hbx] at Bx ⊢
      have HBx := Lib.hid hbx
      clear hbx
      refine wpAnyH_all (rs := [4, 8]) (by kernel_rfl) (by decide) (fun k hk => ?_)
      rcases List.mem_cons.1 hk with rfl | hk
      · have kW := KD.out.trans KV2.out (fun _ _ e => e)
        have hcx : c bx = 0 := by
          by_cases e : c bx = 0
          · exact e
          · have h1 := HLOW.out bx e
            have h2 := HBx.out
            have h3 := KD.out.size
            have h4 := KD.out.size
            omega
        
        refine wpOp_of rfl rfl (call_wp (some 20) rfl 14 #[.tmp 16, .tmp 19] #[23, 44] rfl (enter_ofZ (by rfl) (by decide) (by kernel_rfl)) #[.pointer (some ⟨p, 0, none⟩), .slice (some ⟨bx, 0, none⟩) 2 2] (by simp [Act.eval]) (aw_add1 (HTE.out.keptN kW) TLS.nil Bx.out hcx) ?_)
        rintro e V3 ⟨a1, cp1, c2, U2, E2, rfl, i1, o1, t1, hT1⟩
        have SV3 := Lib.hid (SV2.out.keptF t1.kept ⟨fun e => e.1 (HCZ.out.1), fun e => e.1 (HCZ.out.2.1), fun e => e.1 (HCZ.out.2.2)⟩)
        refine ⟨_, rfl, SV3.out, ?_⟩
        simp only [Act.put, List.setIfInBounds_toArray, List.set_cons_succ, List.set_cons_zero]
        refine wpAnyH_all (rs := [8]) (by kernel_rfl) (by decide) (forall_one ?_)
        refine wpOp_of rfl rfl (lit_wp (some 24) rfl (v := (.slice (some ⟨V3.heap.size, 0, none⟩) 2 2)) (w' := V3.alloc (.cells cAC 65)) ?_ ?_)
        · go_simp
        have By := Lib.hid (Blk.new V3 65 cAC)
        have KV4 := Lib.hid ((Kept.refl Nil V3).alloc (.cells cAC 65))
        have SV4 := Lib.hid (SV3.out.keptN KV4.out)
        refine ⟨SV4.out, ?_⟩
        simp only [Act.put, List.setIfInBounds_toArray, List.set_cons_succ, List.set_cons_zero]
        generalize V3.alloc (.cells cAC 65) = V4 at *
        obtain ⟨bw, hby⟩ : ∃ bw, V3.heap.size = bw := ⟨_, rfl⟩
        simp only [hby] at By ⊢
        have HBy := Lib.hid hby
        clear hby
        refine wpAnyH_all (rs := [9]) (by kernel_rfl) (by decide) (forall_one ?_)
        have hcy : c2 bw = 0 := by
            by_cases e : c2 bw = 0
            · exact e
            · have h1 := t1.te.low bw e
              have h2 := HBy.out
              omega
        refine wpOp_of rfl rfl (call_wp (some 25) rfl 14 #[.tmp 21, .tmp 24] #[23, 44] rfl (enter_ofZ (by rfl) (by decide) (by kernel_rfl)) #[.pointer (some ⟨p, 0, none⟩), .slice (some ⟨bw, 0, none⟩) 2 2] (by simp [Act.eval]) (aw_add2 (t1.te.keptN KV4.out) hT1 (By.out) hcy) ?_)
        rintro e V5 ⟨a2, cp2, c3, U3, E3, rfl, i2, o2, t2, hT2⟩
        have HM := Lib.hid (aw_mid (w := w) (b1 := b1) (b2 := b2) (b3 := b3) ((HK1.out.trans KD.out (fun _ _ e => e)).trans KV2.out (fun _ _ e => e)) (SV2.out) ⟨HCZ.out, HCW.out⟩ t1 i1 o1 (KV4.out) t2 hT2 i2 o2)
        refine ⟨_, rfl, HM.out.1, ?_⟩
        simp only [Act.put, List.setIfInBounds_toArray, List.set_cons_succ, List.set_cons_zero]
        refine takeH (i := 10) (some 5) (.slice a1 2 cp1) rfl rfl (by kernel_rfl) (by kernel_rfl) (by kernel_rfl) (fun _ _ _ h => h) (by rfl) HM.out.1 ?_ ?_
        · intro w hSw
          go_simp
        simp only [Act.put, List.setIfInBounds_toArray, List.set_cons_succ, List.set_cons_zero]
        refine takeH (i := 11) (some 6) (.slice a2 2 cp2) rfl rfl (by kernel_rfl) (by kernel_rfl) (by kernel_rfl) (fun _ _ _ h => h) (by rfl) HM.out.1 ?_ ?_
        · intro w hSw
          go_simp
        simp only [Act.put, List.setIfInBounds_toArray, List.set_cons_succ, List.set_cons_zero]
        refine wpAnyH_done (by kernel_rfl) ?_ _
        go_wp2_with fail
        go_meet
        exact HM.out
      · obtain rfl := List.mem_singleton.1 hk
        refine wpOp_of rfl rfl (lit_wp (some 24) rfl (v := (.slice (some ⟨V2.heap.size, 0, none⟩) 2 2)) (w' := V2.alloc (.cells cAC 65)) ?_ ?_)
        · go_simp
        have By := Lib.hid (Blk.new V2 65 cAC)
        have KV3 := Lib.hid ((Kept.refl Nil V2).alloc (.cells cAC 65))
        have SV3 := Lib.hid (SV2.out.keptN KV3.out)
        refine ⟨SV3.out, ?_⟩
        simp only [Act.put, List.setIfInBounds_toArray, List.set_cons_succ, List.set_cons_zero]
        generalize V2.alloc (.cells cAC 65) = V3 at *
        obtain ⟨bw, hby⟩ : ∃ bw, V2.heap.size = bw := ⟨_, rfl⟩
        simp only [hby] at By ⊢
        have HBy := Lib.hid hby
        clear hby
        refine wpAnyH_all (rs := [4]) (by kernel_rfl) (by decide) (forall_one ?_)
        have kW := (KD.out.trans KV2.out (fun _ _ e => e)).trans KV3.out (fun _ _ e => e)
        have hcx : c bx = 0 := by
          by_cases e : c bx = 0
          · exact e
          · have h1 := HLOW.out bx e
            have h2 := HBx.out
            have h3 := KD.out.size
            have h4 := KD.out.size
            omega
        
        refine wpOp_of rfl rfl (call_wp (some 20) rfl 14 #[.tmp 16, .tmp 19] #[23, 44] rfl (enter_ofZ (by rfl) (by decide) (by kernel_rfl)) #[.pointer (some ⟨p, 0, none⟩), .slice (some ⟨bx, 0, none⟩) 2 2] (by simp [Act.eval]) (aw_add1 (HTE.out.keptN kW) TLS.nil (Bx.out.kept KV3.out (fun e => e)) hcx) ?_)
        rintro e V4 ⟨a1, cp1, c2, U2, E2, rfl, i1, o1, t1, hT1⟩
        have SV4 := Lib.hid (SV3.out.keptF t1.kept ⟨fun e => e.1 (HCZ.out.1), fun e => e.1 (HCZ.out.2.1), fun e => e.1 (HCZ.out.2.2)⟩)
        refine ⟨_, rfl, SV4.out, ?_⟩
        simp only [Act.put, List.setIfInBounds_toArray, List.set_cons_succ, List.set_cons_zero]
        refine wpAnyH_all (rs := [9]) (by kernel_rfl) (by decide) (forall_one ?_)
        have hcy0 : c bw = 0 := by
          by_cases e : c bw = 0
          · exact e
          · have h1 := HLOW.out bw e
            have h2 := HBy.out
            have h3 := KD.out.size
            have h5 := KV2.out.size
            omega
        have hcy : c2 bw = 0 := t1.zero By.out.lt hcy0
        refine wpOp_of rfl rfl (call_wp (some 25) rfl 14 #[.tmp 21, .tmp 24] #[23, 44] rfl (enter_ofZ (by rfl) (by decide) (by kernel_rfl)) #[.pointer (some ⟨p, 0, none⟩), .slice (some ⟨bw, 0, none⟩) 2 2] (by simp [Act.eval]) (aw_add2 (t1.te) hT1 (By.out.kept t1.kept (fun e => e.1 hcy0)) hcy) ?_)
        rintro e V5 ⟨a2, cp2, c3, U3, E3, rfl, i2, o2, t2, hT2⟩
        have HM := Lib.hid (aw_mid (w := w) (b1 := b1) (b2 := b2) (b3 := b3) (((HK1.out.trans KD.out (fun _ _ e => e)).trans KV2.out (fun _ _ e => e)).trans KV3.out (fun _ _ e => e)) (SV3.out) ⟨HCZ.out, HCW.out⟩ t1 i1 o1 (Kept.refl _ _) t2 hT2 i2 o2)
        refine ⟨_, rfl, HM.out.1, ?_⟩
        simp only [Act.put, List.setIfInBounds_toArray, List.set_cons_succ, List.set_cons_zero]
        refine takeH (i := 10) (some 5) (.slice a1 2 cp1) rfl rfl (by kernel_rfl) (by kernel_rfl) (by kernel_rfl) (fun _ _ _ h => h) (by rfl) HM.out.1 ?_ ?_
        · intro w hSw
          go_simp
        simp only [Act.put, List.setIfInBounds_toArray, List.set_cons_succ, List.set_cons_zero]
        refine takeH (i := 11) (some 6) (.slice a2 2 cp2) rfl rfl (by kernel_rfl) (by kernel_rfl) (by kernel_rfl) (fun _ _ _ h => h) (by rfl) HM.out.1 ?_ ?_
        · intro w hSw
          go_simp
        simp only [Act.put, List.setIfInBounds_toArray, List.set_cons_succ, List.set_cons_zero]
        refine wpAnyH_done (by kernel_rfl) ?_ _
        go_wp2_with fail
        go_meet
        exact HM.out
    · obtain rfl := List.mem_singleton.1 hk
      refine wpOp_of rfl rfl (lit_wp (some 24) rfl (v := (.slice (some ⟨V0.heap.size, 0, none⟩) 2 2)) (w' := V0.alloc (.cells cAC 65)) ?_ ?_)
      · go_simp
      have By := Lib.hid (Blk.new V0 65 cAC)
      have KV2 := Lib.hid ((Kept.refl Nil V0).alloc (.cells cAC 65))
      have SV2 := Lib.hid (S0.out.keptN KV2.out)
      refine ⟨SV2.out, ?_⟩
      simp only [Act.put, List.setIfInBounds_toArray, List.set_cons_succ, List.set_cons_zero]
      generalize V0.alloc (.cells cAC 65) = V2 at *
      obtain ⟨bw, hby⟩ : ∃ bw, V0.heap.size = bw := ⟨_, rfl⟩
      simp only [hby] at By ⊢
      have HBy := Lib.hid hby
      clear hby
      refine wpAnyH_all (rs := [3]) (by kernel_rfl) (by decide) (forall_one ?_)
      refine wpOp_of rfl rfl (lit_wp (some 19) rfl (v := (.slice (some ⟨V2.heap.size, 0, none⟩) 2 2)) (w' := V2.alloc (.cells cAB 65)) ?_ ?_)
      · go_simp
      have Bx := Lib.hid (Blk.new V2 65 cAB)
      have KV3 := Lib.hid ((Kept.refl Nil V2).alloc (.cells cAB 65))
      have SV3 := Lib.hid (SV2.out.keptN KV3.out)
      refine ⟨SV3.out, ?_⟩
      simp only [Act.put, List.setIfInBounds_toArray, List.set_cons_succ, List.set_cons_zero]
      generalize V2.alloc (.cells cAB 65) = V3 at *
      obtain ⟨bx, hbx⟩ : ∃ bx, V2.heap.size = bx := ⟨_, rfl⟩
      simp only [hbx] at Bx ⊢
      have HBx := Lib.hid hbx
      clear hbx
      refine wpAnyH_all (rs := [4]) (by kernel_rfl) (by decide) (forall_one ?_)
      have kW := (KD.out.trans KV2.out (fun _ _ e => e)).trans KV3.out (fun _ _ e => e)
      have hcx : c bx = 0 := by
        by_cases e : c bx = 0
        · exact e
        · have h1 := HLOW.out bx e
          have h2 := HBx.out
          have h3 := KD.out.size
          have h4 := KD.out.size
          have h5 := KV2.out.size; omega
      
      refine wpOp_of rfl rfl (call_wp (some 20) rfl 14 #[.tmp 16, .tmp 19] #[23, 44] rfl (enter_ofZ (by rfl) (by decide) (by kernel_rfl)) #[.pointer (some ⟨p, 0, none⟩), .slice (some ⟨bx, 0, none⟩) 2 2] (by simp [Act.eval]) (aw_add1 (HTE.out.keptN kW) TLS.nil Bx.out hcx) ?_)
      rintro e V4 ⟨a1, cp1, c2, U2, E2, rfl, i1, o1, t1, hT1⟩
      have SV4 := Lib.hid (SV3.out.keptF t1.kept ⟨fun e => e.1 (HCZ.out.1), fun e => e.1 (HCZ.out.2.1), fun e => e.1 (HCZ.out.2.2)⟩)
      refine ⟨_, rfl, SV4.out, ?_⟩
      simp only [Act.put, List.setIfInBounds_toArray, List.set_cons_succ, List.set_cons_zero]
      refine wpAnyH_all (rs := [9]) (by kernel_rfl) (by decide) (forall_one ?_)
      have hcy0 : c bw = 0 := by
        by_cases e : c bw = 0
        · exact e
        · have h1 := HLOW.out bw e
          have h2 := HBy.out
          have h3 := KD.out.size
          omega
      have hcy : c2 bw = 0 := t1.zero (By.out.kept KV3.out (fun e => e)).lt hcy0
      refine wpOp_of rfl rfl (call_wp (some 25) rfl 14 #[.tmp 21, .tmp 24] #[23, 44] rfl (enter_ofZ (by rfl) (by decide) (by kernel_rfl)) #[.pointer (some ⟨p, 0, none⟩), .slice (some ⟨bw, 0, none⟩) 2 2] (by simp [Act.eval]) (aw_add2 (t1.te) hT1 ((By.out.kept KV3.out (fun e => e)).kept t1.kept (fun e => e.1 hcy0)) hcy) ?_)
      rintro e V5 ⟨a2, cp2, c3, U3, E3, rfl, i2, o2, t2, hT2⟩
      have HM := Lib.hid (aw_mid (w := w) (b1 := b1) (b2 := b2) (b3 := b3) (((HK1.out.trans KD.out (fun _ _ e => e)).trans KV2.out (fun _ _ e => e)).trans KV3.out (fun _ _ e => e)) (SV3.out) ⟨HCZ.out, HCW.out⟩ t1 i1 o1 (Kept.refl _ _) t2 hT2 i2 o2)
      refine ⟨_, rfl, HM.out.1, ?_⟩
      simp only [Act.put, List.setIfInBounds_toArray, List.set_cons_succ, List.set_cons_zero]
      refine takeH (i := 10) (some 5) (.slice a1 2 cp1) rfl rfl (by kernel_rfl) (by kernel_rfl) (by kernel_rfl) (fun _ _ _ h => h) (by rfl) HM.out.1 ?_ ?_
      · intro w hSw
        go_simp
      simp only [Act.put, List.setIfInBounds_toArray, List.set_cons_succ, List.set_cons_zero]
      refine takeH (i := 11) (some 6) (.slice a2 2 cp2) rfl rfl (by kernel_rfl) (by kernel_rfl) (by kernel_rfl) (fun _ _ _ h => h) (by rfl) HM.out.1 ?_ ?_
      · intro w hSw
        go_simp
      simp only [Act.put, List.setIfInBounds_toArray, List.set_cons_succ, List.set_cons_zero]
      refine wpAnyH_done (by kernel_rfl) ?_ _
      go_wp2_with fail
      go_meet
      exact HM.out
  case rest =>
    obtain ⟨hs, hk, c9, U, E, a1, cp1, a2, cp2, rfl, rfl, i1, i2, o1, o2, te, hT, z1, z2, z3, zw⟩ := hcut
    have q0 := hs.1.cell
    have k0 := q0 0
    have k1 := q0 1
    have k2 := q0 2
    have k3 := q0 3
    have k4 := q0 4
    have k5 := q0 5
    have r0 := hs.2.1.cell
    have j0 := r0 0
    have j1 := r0 1
    have j2 := r0 2
    have j3 := r0 3
    have j4 := r0 4
    have j5 := r0 5
    simp at k0 k1 k2 k3 k4 k5 j0 j1 j2 j3 j4 j5
    have HI1 := Lib.hid i1
    have HI2 := Lib.hid i2
    have HO1 := Lib.hid o1
    have HO2 := Lib.hid o2
    have HTE9 := Lib.hid te
    have HT9 := Lib.hid hT
    have HZW := Lib.hid zw
    have HK9 := Lib.hid hk
    have KB := Lib.hid ((Kept.refl Nil wc).alloc (.cells cAB 65))
    have BB := Lib.hid (Blk.new wc 65 cAB)
    have hcb : c9 wc.heap.size = 0 := by
      by_cases e : c9 wc.heap.size = 0
      · exact e
      · have := te.low _ e; omega
    have CR := Lib.hid (aw_rem (te.keptN KB.out) hT BB.out hcb)
    clear hs hk i1 i2 o1 o2 te hT z1 z2 z3 zw q0 r0 hcb
    go_wp2_with fail
    refine CR.out.mono ?_
    rintro e w6 ⟨a3, cp3, c6, es, U6, E6, rfl, i3, t6, hT6⟩
    have J1 := Lib.hid ((HI1.out.kept KB.out).keptF (cap := cp1) t6.kept (fun b e f => f.1 (HO1.out b e)))
    have J2 := Lib.hid ((HI2.out.kept KB.out).keptF (cap := cp2) t6.kept (fun b e f => f.1 (HO2.out b e)))
    have J3 := Lib.hid i3
    have HK6 := Lib.hid ((HK9.out.trans KB.out (fun _ _ e => e)).trans t6.kept (fun i hi e => e.1 (HZW.out i hi)))
    have HL6 := Lib.hid (fun W (kW : Kept Nil w6 W) => len_any (t6.te.keptN kW) hT6 (Dis := [[xA], [xA, xC]]) (by decide) x_dis)
    clear i3 t6 hT6 CR BB KB
    have B1 := Lib.hid (Blk.new w6 3 #[.int .i64 2, .int .i64 3])
    have K1 := Lib.hid ((Kept.refl Nil w6).alloc (.cells #[.int .i64 2, .int .i64 3] 3))
    have C1 := Lib.hid (aw_ints (c := cp1) (J1.out.kept K1.out) B1.out rfl (by decide))
    go_wp2_with fail
    refine C1.out.mono ?_
    rintro e w7 ⟨rfl, k7⟩
    have K7 := Lib.hid (K1.out.trans k7 (fun _ _ e => e))
    clear k7 C1 B1
    have B2 := Lib.hid (Blk.new w7 3 #[.int .i64 2, .int .i64 4])
    have K2 := Lib.hid ((Kept.refl Nil w7).alloc (.cells #[.int .i64 2, .int .i64 4] 3))
    have C2 := Lib.hid (aw_ints (c := cp2) ((J2.out.kept K7.out).kept K2.out) B2.out rfl (by decide))
    go_wp2_with fail
    refine C2.out.mono ?_
    rintro e w8 ⟨rfl, k8⟩
    have K8 := Lib.hid ((K7.out.trans K2.out (fun _ _ e => e)).trans k8 (fun _ _ e => e))
    clear k8 C2 B2
    have B3 := Lib.hid (Blk.new w8 3 #[.int .i64 3])
    have K3 := Lib.hid ((Kept.refl Nil w8).alloc (.cells #[.int .i64 3] 3))
    have C3 := Lib.hid (aw_ints (c := cp3) ((J3.out.kept K8.out).kept K3.out) B3.out rfl (by decide))
    go_wp2_with fail
    refine C3.out.mono ?_
    rintro e w9 ⟨rfl, k9⟩
    have K9 := Lib.hid ((K8.out.trans K3.out (fun _ _ e => e)).trans k9 (fun _ _ e => e))
    clear k9 C3 B3
    have C4 := Lib.hid (HL6.out w9 K9.out)
    go_wp2_with fail
    refine C4.out.mono ?_
    rintro e w10 ⟨rfl, rfl⟩
    go_wp2_with fail
    go_ret
    exact ⟨rfl, HK6.out.trans K9.out (fun _ _ e => e)⟩
end
section
open Go.RowKit Go.Maps Go.WideMaps
set_option maxRecDepth 100000

section
variable {w : World} {c : Nat → Nat} {p : Nat} {es : En} {U E : Nat → Int}
/-- Remove of a list that isn't there. -/
theorem removeNone_any {ls : List (List St)} {l : List St} (ht : TE w c p es U E) (h : TLS ls es U E) (hn : es.length ≤ 2000) (hl : Rl l) (hm : l ∉ ls) (ok : Nat → Nat → Prop) (hok : ∀ b o, ok b o → b < w.heap.size) (a : Option Addr) (cap : Nat) (hH : SHolds w ok (.slice a l.length cap) l) :
    Calls Tryz.prog 10 #[.pointer (some ⟨p, 0, none⟩), .slice a l.length cap] w fun e w' => e = .returned (.tuple #[.slice none 0 0, .int .i64 16]) ∧ Kept Nil w w' := by
  have CF := Lib.hid (fun W (kW : Kept Nil w W) => find_any (ht.keptN kW) (by omega) l hl ok (fun b o e => Nat.lt_of_lt_of_le (hok b o e) kW.size) a cap (hH.keptN kW))
  have hlt := fnd_lt (es := es) (c := l)
  have hE : ∀ v : Nv, (match ent es (fnd es l) with | none => v = zNv | some _ => v.li = E (fnd es l)) → v.li = 0 := fun v hv => by
    cases e : ent es (fnd es l) with
    | none => rw [e] at hv; rw [hv]; rfl
    | some x =>
      rw [e] at hv
      have hx := (ent_fnd h.tl.ok).1 e
      have : x = l := fnd_inj h.tl.ok hx.2 (by omega)
      subst this
      rw [hv, h.en x hx.1]
      have : endsL ls x = 0 := by
        by_cases e2 : 0 < endsL ls x
        · exact absurd (endsL_pos.1 e2) hm
        · omega
      rw [this]; rfl
  have kA : Kept Nil w (w.alloc (.cells #[.pointer (some ⟨p, 0, none⟩)] 23)) := (Kept.refl _ _).alloc _
  have bB : Blk (w.alloc (.cells #[.pointer (some ⟨p, 0, none⟩)] 23)) w.heap.size 23 #[.pointer (some ⟨p, 0, none⟩)] := Blk.new _ _ _
  have HKA := Lib.hid kA
  have HT := Lib.hid ht
  have LV := Lib.hid (fun W (kW : Kept Nil w W) => (ht.keptN kW).lookV (n := fnd es l) (by omega))
  have HE := Lib.hid hE
  obtain ⟨f, hf⟩ : ∃ f, fnd es l = f := ⟨_, rfl⟩
  obtain ⟨len, hln⟩ : ∃ len, l.length = len := ⟨_, rfl⟩
  have HF := Lib.hid hf
  simp only [hf, hln] at CF LV ⊢
  rw [hf] at hE hlt
  have HE := Lib.hid hE
  clear ht h hH hok hE hf kA hln hm hl
  refine (callsIn_wide (n := 9)).1 ?_
  refine callsIn_of_wp_marks Tryz.func10 rfl trivial ?_ rfl
  simp only [Tryz.ntmps10, List.size_toArray, List.length_cons, List.length_nil, Nat.reduceAdd, Nat.reduceSub, Array.replicate_succ, Array.replicate_zero, List.push_toArray, List.append_toArray, List.nil_append, List.cons_append]
  gi_wp2
  refine ⟨trivial, (callsIn_wide.2 (CF.out _ HKA.out)).mono ?_⟩
  rintro e w1 ⟨rfl, k1⟩
  have K1 := Lib.hid (HKA.out.trans k1 (fun _ _ e => e))
  obtain ⟨bn, v, d0, hlk, _, hv⟩ := LV.out w1 K1.out
  have hz := HE.out v (by
    cases e : ent es f with
    | none => rw [e] at hv; exact hv
    | some x => rw [e] at hv; exact hv.li)
  have hli := fieldLi v
  rw [hz] at hli
  have BT1 := bB.kept k1 (fun e => e)
  have d1 := BT1.cell 0
  simp only [List.getElem?_toArray, List.getElem?_cons_zero] at d1
  have hp0 := (HT.out.keptN K1.out).lt
  generalize aN v = av at *
  clear hv hz k1 bB BT1
  gi_wp2
  refine ⟨_, ?_, rfl, K1.out⟩
  simp [results, Tryz.f10, go_sem]
end
end
section
open Go.RowKit
set_option maxRecDepth 100000

theorem eqTm4 (x y : Bool) (n m : Int) (w : World) : (Op.equalIn 10000 69 (.agg #[.bool x, .int .i64 n]) (.agg #[.bool y, .int .i64 m])).run Tryz.prog w = .ok (decide (x = y ∧ n = m)) w := by
  have e : ∀ x y : Int, (Op.equalIn 9999 3 (.int .i64 x) (.int .i64 y)).run Tryz.prog w = .ok (x == y) w := fun x y => run_equalIn_int w 9998 3 .i64 .i64 x y Tryz.underlying3
  have eb : ∀ x y : Bool, (Op.equalIn 9999 4 (.bool x) (.bool y)).run Tryz.prog w = .ok (x == y) w := fun x y => run_equalIn_bool w 9998 4 x y Tryz.underlying4
  rw [run_equalIn_struct w 9999 _ _ _ (by kernel_rfl) (by kernel_rfl)]
  simp only [Program.fieldsOf, Tryz.underlying69]
  by_cases h : x = y
  · subst h
    by_cases hn : n = m <;> simp [Op.eqFields, part, isAgg, run_underlying Tryz.underlying3, run_underlying Tryz.underlying4, e, eb, hn]
  · simp [Op.eqFields, part, isAgg, run_underlying Tryz.underlying3, run_underlying Tryz.underlying4, eb, h]
theorem eqlTm (x y : Bool) (n m : Int) (b : Bool) (hb : decide (x = y ∧ n = m) = b) (w : World) : (binOp .eql 69 (.agg #[.bool x, .int .i64 n]) (.agg #[.bool y, .int .i64 m])).run Tryz.prog w = .ok (.bool b) w := by
  rw [run_eql_struct, eqTm4, hb]; rfl
theorem Blk.drewN {w : World} {g n : Nat} {t : TypeId} {cs : Array Value} (h : Blk w g t cs) : Blk (w.drewN n) g t cs := h
/-- The first of three that is so; -1 if none is. -/
def first3 (b0 b1 b2 : Bool) : Int := if b0 then 0 else if b1 then 1 else if b2 then 2 else -1
abbrev arr8 (h : Hd) (u : Value) : Array Value := #[.int .i64 h.k, .bool h.x0, .int .i64 h.n0, .bool h.x1, .int .i64 h.n1, .bool h.x2, .int .i64 h.n2, u]
end
section
open Go.RowKit
set_option maxRecDepth 100000

def hitF (h : Hd) (v : Int) : Int := first3 (decide (true = h.x0 ∧ v = h.n0)) (decide (true = h.x1 ∧ v = h.n1)) (decide (true = h.x2 ∧ v = h.n2))
/-- The first place of a variable: in which of the Pos, in which field. -/
def fpL : List Sh → Int → Nat → Option (Nat × Int)
  | [], _, _ => none
  | s :: r, v, back => if s.hd.k = 1 then (if 0 ≤ hitF s.hd v then some (back, hitF s.hd v) else fpL r v (back + 1)) else fpL r v back
theorem fpL_drop {l : List Sh} {j : Nat} {x : Sh} (h : l[j]? = some x) (v : Int) (back : Nat) : fpL (l.drop j) v back = if x.hd.k = 1 then (if 0 ≤ hitF x.hd v then some (back, hitF x.hd v) else fpL (l.drop (j + 1)) v (back + 1)) else fpL (l.drop (j + 1)) v back := by
  obtain ⟨hl, e⟩ := List.getElem?_eq_some_iff.1 h
  rw [List.drop_eq_getElem_cons hl, e]
  rfl
theorem hitF_le (h : Hd) (v : Int) : hitF h v ≤ 2 ∧ -1 ≤ hitF h v := by
  unfold hitF first3
  split
  · omega
  · split
    · omega
    · split <;> omega
def plV (v : Int) : Option (Nat × Int) → Value
  | none => .agg #[.int .i64 0, .int .i64 0, .int .i64 0]
  | some (b, f) => .agg #[.int .i64 v, .int .i64 (b : Int), .int .i64 f]
abbrev zP : Array Value := #[.int .i64 0, .int .i64 0, .int .i64 0]
/-- The class of worlds in which a condition's block is as it was laid. -/
def CS1 (w : World) (G : Nat) (cs : Array Value) (W : World) : Prop := Blk W G 72 cs ∧ Kept Nil w W
theorem CS1.step {w : World} {G : Nat} {cs : Array Value} (W W' : World) (h : CS1 w G cs W) (k : Kept Nil W W') : CS1 w G cs W' := ⟨h.1.kept k id, h.2.trans k (fun _ _ g => g)⟩
theorem results_pair {fn : Func} {p q : Tmp} {ty t : TypeId} {fs : Array Field} {cs : Array Value} (h : fn.results = #[.cell p ty, .tmp q]) (tmps : Array Value) (w : World) (g : Nat) (v : Value)
    (hp : tmps.getD p undef = .pointer (some ⟨g, 0, none⟩)) (hq : tmps.getD q undef = v) (hg : Blk w g t cs) (hu : Tryz.prog.underlying ty = some (.struct fs)) (hi : (Tryz.prog.info? ty).map (·.size) = some cs.size) :
    (results fn tmps).run Tryz.prog w = .ok (.tuple #[.agg cs, v]) w := by
  have hp' : tmps[p]?.getD undef = .pointer (some ⟨g, 0, none⟩) := by simpa using hp
  have hq' : tmps[q]?.getD undef = v := by simpa using hq
  have hr := run_loadVar_row (P := Tryz.prog) w g _ _ _ _ _ hg hu rfl hi
  simp [results, h, hp', hq', asAddr, hr]
def FpEnd (l : List Sh) (v : Int) (w : World) (e : Ending) (w' : World) : Prop := e = .returned (.tuple #[plV v (fpL l v 0), .bool (fpL l v 0).isSome]) ∧ Kept Nil w w'
end
section
open Go.RowKit
set_option maxRecDepth 100000

abbrev Pl := Int × Nat × Int
/-- Where the first variables are bound. -/
def bdL (l : List Sh) : Nat → List Pl
  | 0 => []
  | m + 1 => bdL l m ++ (match fpL l ((m : Int) + 1) 0 with | some (b, f) => [((m : Int) + 1, b, f)] | none => [])
theorem bdL_len (l : List Sh) (m : Nat) : (bdL l m).length ≤ m := by
  induction m with
  | zero => simp [bdL]
  | succ m ih =>
    rw [bdL, List.length_append]
    split <;> simp <;> omega
abbrev cP (p : Pl) : List Value := [.int .i64 p.1, .int .i64 (p.2.1 : Int), .int .i64 p.2.2]
def flatP (ps : List Pl) : List Value := ps.flatMap cP
theorem flatP_len : ∀ ps : List Pl, (flatP ps).length = ps.length * 3
  | [] => rfl
  | p :: r => by
    show (cP p ++ flatP r).length = _
    rw [List.length_append, flatP_len r, List.length_cons]
    simp; omega
theorem flatP_get : ∀ (ps : List Pl) (i j : Nat) (p : Pl), ps[i]? = some p → j < 3 → (flatP ps)[i * 3 + j]? = (cP p)[j]?
  | [], i, j, p, h, _ => by simp at h
  | x :: r, 0, j, p, h, hj => by
    simp only [List.getElem?_cons_zero, Option.some.injEq] at h
    subst h
    show (cP x ++ flatP r)[0 * 3 + j]? = _
    rw [Nat.zero_mul, Nat.zero_add, List.getElem?_append_left (by simp; omega)]
  | x :: r, i + 1, j, p, h, hj => by
    show (cP x ++ flatP r)[(i + 1) * 3 + j]? = _
    rw [List.getElem?_append_right (by simp; omega), show (i + 1) * 3 + j - (cP x).length = i * 3 + j by simp; omega]
    exact flatP_get r i j p (by simpa using h) hj
/-- What a law sees of places. -/
def Places (w : World) (v : Value) (ps : List Pl) : Prop := ∃ a c, v = .slice a ps.length c ∧ ∀ (i : Nat) p, ps[i]? = some p → ∃ g, a = some ⟨g, 0, none⟩ ∧ w.rangeAt g (i * 3) (cP p)
end
end Go.Proofs.YtljefbfjehblpaaGreat
