/- The document's own memory: Remove. -/
import Derived.Test.YtgnpclcoinndpaaWRefB
namespace Go.Proofs.Ytgnpclcoinndpaa
open Go.RowKit Go.Maps
set_option maxRecDepth 100000

theorem kept3 (w : World) (g : Nat) (u0 u1 u2 : Value) : Kept (fun k => k = g) w (((w.setCell ⟨g, 0, none⟩ u0).setCell ⟨g, 1, none⟩ u1).setCell ⟨g, 2, none⟩ u2) :=
  (((Kept.refl (fun k => k = g) w).setCell ⟨g, 0, none⟩ (.inl rfl) _).setCell ⟨g, 1, none⟩ (.inl rfl) _).setCell ⟨g, 2, none⟩ (.inl rfl) _
section
variable {w : World} {a1 a2 : Option Addr} {n1 c1 n2 c2 : Nat} {all : List F4} {gone : List Int}
/-- The two blocks with which a call of the document's begins. -/
theorem blocks2 (w : World) (v1 v2 v3 z1 z2 z3 : Value) : Kept Nil w ((w.alloc (.cells #[v1, v2, v3] 31)).alloc (.cells #[z1, z2, z3] 31)) ∧
    Blk ((w.alloc (.cells #[v1, v2, v3] 31)).alloc (.cells #[z1, z2, z3] 31)) w.heap.size 31 #[v1, v2, v3] ∧
    Blk ((w.alloc (.cells #[v1, v2, v3] 31)).alloc (.cells #[z1, z2, z3] 31)) (w.heap.size + 1) 31 #[z1, z2, z3] := by
  refine ⟨((Kept.refl _ _).alloc _).alloc _, (Blk.new w _ _).alloc _, ?_⟩
  have := Blk.new (w.alloc (.cells #[v1, v2, v3] 31)) 31 #[z1, z2, z3]
  simpa using this

set_option maxHeartbeats 2000000 in
theorem refRemove_miss (h1 : In encF 4 w a1 n1 all) (h2 : In cN 1 w a2 n2 gone) (hn1 : n1 ≤ 4000) (hn2 : n2 ≤ 4000) (lim : Int) {k : Int} (hk : look (inL all gone) k = none) :
    Calls Try.prog 9 #[.agg #[.slice a1 n1 c1, .slice a2 n2 c2, .int .i64 lim], .int .i64 k] w fun e w' => e = .returned (.tuple #[.agg #[.slice a1 n1 c1, .slice a2 n2 c2, .int .i64 lim], .int .i64 10]) ∧ Kept Nil w w' := by
  have hget := fun W (hkw : Kept Nil w W) => refGet_any (c1 := c1) (c2 := c2) (h1.kept hkw) (h2.kept hkw) hn1 hn2 lim k
  rw [hk] at hget
  have HG := Lib.hid hget
  obtain ⟨k2, b2, b4⟩ := blocks2 w (.slice a1 n1 c1) (.slice a2 n2 c2) (.int .i64 lim) (.slice none 0 0) (.slice none 0 0) (.int .i64 0)
  have K2 := Lib.hid k2
  have B2 := Lib.hid b2
  have B4 := Lib.hid b4
  clear hget k2 b2 b4 h1 h2 hn1 hn2 hk
  go_enter Try.func9, Try.ntmps9
  go_wp2_with fail
  refine (HG.out _ K2.out).mono ?_
  rintro e w3 ⟨rfl, k3⟩
  have b2 := B2.out.kept k3 (fun e => e)
  have b4 := B4.out.kept k3 (fun e => e)
  have K3 := Lib.hid (K2.out.trans k3 (fun _ _ e => e))
  have k5 : Kept Nil w3 (w3.alloc (.cells #[.int .i64 0, .int .i64 0, .int .i64 0] 32)) := (Kept.refl _ _).alloc _
  have K5 := Lib.hid k5
  have b25 := b2.kept k5 (fun e => e)
  have b45 := b4.kept k5 (fun e => e)
  have HB4 := Lib.hid b45
  have x0 := b25.cell 0
  have x1 := b25.cell 1
  have x2 := b25.cell 2
  have y0 := b45.cell 0
  have y1 := b45.cell 1
  have y2 := b45.cell 2
  have f0 := b45.frozen 0
  have f1 := b45.frozen 1
  have f2 := b45.frozen 2
  rw [show ((none : Option T3).getD zeroT) = (0, 0, 0) from rfl, show (none : Option T3).isSome = false from rfl]
  clear k3 b2 b4 k5 b25 b45 HG K2 B2 B4
  go_wp2
  refine bodyPost_ret (results_rowtmp Try.results9 _ _ _ _ _ _ _ rfl (((HB4.out.set_ 0 _).set_ 1 _).set_ 2 _) Try.underlying31 rfl (by kernel_rfl)) rfl ?_
  refine ⟨rfl, ?_⟩
  exact (((K3.out.trans K5.out (fun _ _ e => e)).setCell ⟨w.heap.size + 1, 0, none⟩ (.inr (Nat.le_succ _)) _).setCell ⟨w.heap.size + 1, 1, none⟩ (.inr (Nat.le_succ _)) _).setCell ⟨w.heap.size + 1, 2, none⟩ (.inr (Nat.le_succ _)) _

set_option maxHeartbeats 4000000 in
theorem refRemove_hit (h1 : In encF 4 w a1 n1 all) (h2 : In cN 1 w a2 n2 gone) (hn1 : n1 ≤ 4000) (hn2 : n2 ≤ 4000) (lim : Int) {k : Int} {t : T3} (hk : look (inL all gone) k = some t) :
    Calls Try.prog 9 #[.agg #[.slice a1 n1 c1, .slice a2 n2 c2, .int .i64 lim], .int .i64 k] w fun e w' => ∃ a' c', e = .returned (.tuple #[.agg #[.slice a1 n1 c1, .slice a' (n2 + 1) c', .int .i64 lim], .int .i64 0]) ∧ In cN 1 w' a' (n2 + 1) (gone ++ [k]) ∧ (∀ b, (Value.slice a' (n2 + 1) c').ownBlock = some b → w.heap.size ≤ b) ∧ Kept Nil w w' := by
  have hget := fun W (hkw : Kept Nil w W) => refGet_any (c1 := c1) (c2 := c2) (h1.kept hkw) (h2.kept hkw) hn1 hn2 lim k
  rw [hk] at hget
  have HG := Lib.hid hget
  have H2 := Lib.hid h2
  obtain ⟨k2, b2, b4⟩ := blocks2 w (.slice a1 n1 c1) (.slice a2 n2 c2) (.int .i64 lim) (.slice none 0 0) (.slice none 0 0) (.int .i64 0)
  have K2 := Lib.hid k2
  have B2 := Lib.hid b2
  have B4 := Lib.hid b4
  clear hget k2 b2 b4 h1 h2 hn1 hk
  go_enter Try.func9, Try.ntmps9
  go_wp2_with fail
  refine (HG.out _ K2.out).mono ?_
  rintro e w3 ⟨rfl, k3⟩
  rw [show ((some t : Option T3).getD zeroT) = t from rfl, show (some t : Option T3).isSome = true from rfl]
  have k5 : Kept Nil w3 (w3.alloc (.cells #[.int .i64 t.1, .int .i64 t.2.1, .int .i64 t.2.2] 32)) := (Kept.refl _ _).alloc _
  have K5 := Lib.hid (K2.out.trans (k3.trans k5 (fun _ _ e => e)) (fun _ _ e => e))
  have b25 := (B2.out.kept k3 (fun e => e)).kept k5 (fun e => e)
  have b45 := (B4.out.kept k3 (fun e => e)).kept k5 (fun e => e)
  obtain ⟨W5, hW5⟩ : ∃ W5, W5 = w3.alloc (.cells #[.int .i64 t.1, .int .i64 t.2.1, .int .i64 t.2.2] 32) := ⟨_, rfl⟩
  rw [← hW5] at K5 b25 b45
  have hgl : gone.length = n2 := H2.out.1
  obtain ⟨a6, c6, w6, r6, o6, k6, f6⟩ := Row.pushAll (w := W5) elsI cN_len cN_one (by decide) 29 (Kept.refl _ _) (Row.nil W5 W5.heap.size) rfl (by simp) (c2 := c2) (H2.out.kept K5.out) (by omega)
  rw [Nat.zero_add, List.nil_append] at o6
  rw [Nat.zero_add] at r6
  obtain ⟨a7, c7, w7, r7, o7, k7, f7⟩ := Row.push (w := W5) elsI cN_len cN_one 29 k6 o6 hgl.symm (by omega) k #[.int .i64 k] rfl
  have hI7 := o7.toIn cN_len (by decide)
  have b26 := b25.kept k6 (fun e => e)
  have b27 := b25.kept k7 (fun e => e)
  have b47 := b45.kept k7 (fun e => e)
  have HB4 := Lib.hid b47
  have K7 := Lib.hid (K5.out.trans k7 (fun _ _ e => e))
  have HI := Lib.hid hI7
  have HO : Hid (∀ b, (Value.slice a7 (n2 + 1) c7).ownBlock = some b → ¬ b = w.heap.size + 1) := fun b hb e => by
    have h1 := (o7.lt b hb).1
    have h2 := b45.lt
    omega
  have HN : Hid (∀ b, (Value.slice a7 (n2 + 1) c7).ownBlock = some b → w.heap.size ≤ b) := fun b hb => Nat.le_trans K5.out.size (o7.lt b hb).1
  have R6 := Lib.hid r6
  have R7 := Lib.hid r7
  have x1 := b25.cell 1
  have z0 := b27.cell 0
  have z2 := b27.cell 2
  have y0 := b47.cell 0
  have y1 := b47.cell 1
  have y2 := b47.cell 2
  have f0 := b47.frozen 0
  have f1 := b47.frozen 1
  have f2 := b47.frozen 2
  clear k3 k5 b25 b45 b26 b27 b47 HG K2 B2 B4 r6 r7 o6 o7 hI7 k6 k7 f6 f7 hgl K5
  subst hW5
  go_wp2_with (first | (at_builtin; (first | (refine wpList_append_run rfl (.tmp 18) (.tmp 20) 29 rfl _ _ rfl rfl R6.out ?_) | (refine wpList_append_run rfl (.tmp 22) (.tmp 24) 29 rfl _ _ rfl rfl R7.out ?_))))
  refine bodyPost_ret (results_rowtmp Try.results9 _ _ _ _ _ _ _ rfl (((HB4.out.set_ 0 _).set_ 1 _).set_ 2 _) Try.underlying31 rfl (by kernel_rfl)) rfl ?_
  exact ⟨a7, c7, rfl, HI.out.keptF (cap := c7) (kept3 _ _ _ _ _) HO.out, HN.out, K7.out.trans (kept3 _ _ _ _ _) (fun i hi e => by omega)⟩
end
end Go.Proofs.Ytgnpclcoinndpaa
