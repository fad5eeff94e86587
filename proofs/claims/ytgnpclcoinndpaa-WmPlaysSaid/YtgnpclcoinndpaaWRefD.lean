/- The document's own memory: Add. -/
import Derived.Test.YtgnpclcoinndpaaWRefC
import Derived.Deep.RegionHeld3
namespace Go.Proofs.Ytgnpclcoinndpaa
open Go.RowKit Go.Maps
set_option maxRecDepth 100000

/-- Three results: a row in a cell, and two slots. -/
theorem results_row2 {P : Program} {fn : Func} {p r q : Tmp} {ty : TypeId} (h : fn.results = #[.cell p ty, .tmp r, .tmp q]) (tmps : Array Value) (w : World) (g : Nat) (t : TypeId) (cs : Array Value) (fr : Nat × Nat) (d : TypeDesc)
    (hp : tmps.getD p undef = .pointer (some ⟨g, 0, none⟩)) (hg : w.heap[g]? = some (.cells cs t fr))
    (hu : P.underlying ty = some d) (hd : (match d with | .struct _ | .array _ _ => true | _ => false) = true) (hi : (P.info? ty).map (·.size) = some cs.size) :
    (results fn tmps).run P w = .ok (.tuple #[.agg cs, tmps.getD r undef, tmps.getD q undef]) w := by
  have hp' : tmps[p]?.getD undef = .pointer (some ⟨g, 0, none⟩) := by simpa using hp
  simp [results, h, hp', asAddr, run_loadVar_row w g t ty cs fr d hg hu hd hi]

/-- What is read in the region of Add that draws its order. -/
abbrev SeenM (w0 : World) (b : Nat) (v1 v2 v3 : Value) (w' : World) : Prop :=
  w'.cell? ⟨b, 0, none⟩ = some v1 ∧ w'.cell? ⟨b, 1, none⟩ = some v2 ∧ w'.cell? ⟨b, 2, none⟩ = some v3 ∧ Kept Nil w0 w'
theorem seenM_kept {w0 w w' : World} {b : Nat} {v1 v2 v3 : Value} (kk : Kept Nil w w') (h : SeenM w0 b v1 v2 v3 w) : SeenM w0 b v1 v2 v3 w' := by
  have hl : b < w.heap.size := World.block_lt_of_cell? w _ h.1
  exact ⟨(kk.cell hl (fun e => e)).trans h.1, (kk.cell hl (fun e => e)).trans h.2.1, (kk.cell hl (fun e => e)).trans h.2.2.1, h.2.2.2.trans kk (fun _ _ g => g)⟩
theorem seenM_k {w0 w : World} {b : Nat} {v1 v2 v3 : Value} (h : SeenM w0 b v1 v2 v3 w) : Kept Nil w0 w := h.2.2.2
/-- The three blocks with which Add begins. -/
theorem blocks3 (w : World) (v1 v2 v3 t1 t2 t3 z1 z2 z3 : Value) : Kept Nil w (((w.alloc (.cells #[v1, v2, v3] 31)).alloc (.cells #[t1, t2, t3] 32)).alloc (.cells #[z1, z2, z3] 31)) ∧
    Blk (((w.alloc (.cells #[v1, v2, v3] 31)).alloc (.cells #[t1, t2, t3] 32)).alloc (.cells #[z1, z2, z3] 31)) w.heap.size 31 #[v1, v2, v3] ∧
    Blk (((w.alloc (.cells #[v1, v2, v3] 31)).alloc (.cells #[t1, t2, t3] 32)).alloc (.cells #[z1, z2, z3] 31)) (w.heap.size + 1) 32 #[t1, t2, t3] ∧
    Blk (((w.alloc (.cells #[v1, v2, v3] 31)).alloc (.cells #[t1, t2, t3] 32)).alloc (.cells #[z1, z2, z3] 31)) (w.heap.size + 1 + 1) 31 #[z1, z2, z3] := by
  refine ⟨(((Kept.refl _ _).alloc _).alloc _).alloc _, ((Blk.new w _ _).alloc _).alloc _, ?_, ?_⟩
  · have := Blk.new (w.alloc (.cells #[v1, v2, v3] 31)) 32 #[t1, t2, t3]
    have h2 := this.alloc (.cells #[z1, z2, z3] 31)
    simpa using h2
  · have := Blk.new ((w.alloc (.cells #[v1, v2, v3] 31)).alloc (.cells #[t1, t2, t3] 32)) 31 #[z1, z2, z3]
    simpa using this

section
variable {w : World} {a1 a2 : Option Addr} {n1 c1 n2 c2 : Nat} {all : List F4} {gone : List Int}
set_option maxHeartbeats 2000000 in
theorem refAdd_wrong (lim : Int) {t : T3} (ht : okT t = false) (w : World) :
    Calls Try.prog 11 #[.agg #[.slice a1 n1 c1, .slice a2 n2 c2, .int .i64 lim], .agg #[.int .i64 t.1, .int .i64 t.2.1, .int .i64 t.2.2]] w fun e w' => e = .returned (.tuple #[.agg #[.slice a1 n1 c1, .slice a2 n2 c2, .int .i64 lim], .int .i64 0, .int .i64 4]) ∧ Kept Nil w w' := by
  have hc := fun W => refRight_any t W
  rw [ht] at hc
  unfold arr at hc
  clear ht
  obtain ⟨k1, b2, b3, b4⟩ := blocks3 w (.slice a1 n1 c1) (.slice a2 n2 c2) (.int .i64 lim) (.int .i64 t.1) (.int .i64 t.2.1) (.int .i64 t.2.2) (.slice none 0 0) (.slice none 0 0) (.int .i64 0)
  have K1 := Lib.hid k1
  have B2 := Lib.hid b2
  have B4 := Lib.hid b4
  clear k1 b2 b3 b4
  go_enter Try.func11, Try.ntmps11
  go_wp2_with fail
  refine (hc _).mono ?_
  rintro e w3 ⟨rfl, k3⟩
  have K3 := Lib.hid (K1.out.trans k3 (fun _ _ e => e))
  have b2 := B2.out.kept k3 (fun e => e)
  have b4 := B4.out.kept k3 (fun e => e)
  have HB4 := Lib.hid b4
  have x0 := b2.cell 0
  have x1 := b2.cell 1
  have x2 := b2.cell 2
  have y0 := b4.cell 0
  have y1 := b4.cell 1
  have y2 := b4.cell 2
  have f0 := b4.frozen 0
  have f1 := b4.frozen 1
  have f2 := b4.frozen 2
  clear k3 b2 b4 hc K1 B2 B4
  go_wp2
  refine bodyPost_ret (results_row2 Try.results11 _ _ _ _ _ _ _ rfl (((HB4.out.set_ 0 _).set_ 1 _).set_ 2 _) Try.underlying31 rfl (by kernel_rfl)) rfl ?_
  exact ⟨rfl, K3.out.trans (kept3 _ _ _ _ _) (fun i hi e => by omega)⟩

set_option maxHeartbeats 4000000 in
theorem refAdd_full (h1 : In encF 4 w a1 n1 all) (h2 : In cN 1 w a2 n2 gone) (hn1 : n1 ≤ 4000) (hn2 : n2 ≤ 4000) {lim : Int} (hf : lim ≤ ((inL all gone).length : Int)) {t : T3} (ht : okT t = true) :
    Calls Try.prog 11 #[.agg #[.slice a1 n1 c1, .slice a2 n2 c2, .int .i64 lim], .agg #[.int .i64 t.1, .int .i64 t.2.1, .int .i64 t.2.2]] w fun e w' => e = .returned (.tuple #[.agg #[.slice a1 n1 c1, .slice a2 n2 c2, .int .i64 lim], .int .i64 0, .int .i64 11]) ∧ Kept Nil w w' := by
  have hc := fun W => refRight_any t W
  rw [ht] at hc
  unfold arr at hc
  have hle : (inL all gone).length ≤ 4000 := Nat.le_trans (inL_le _ _) (by rw [h1.1]; exact hn1)
  have hfacts := fun W (hkw : Kept Nil w W) => facts_any (c1 := c1) (c2 := c2) (h1.kept hkw) (h2.kept hkw) hn1 hn2 lim
  obtain ⟨L, hL⟩ : ∃ L, L = (inL all gone).length := ⟨_, rfl⟩
  rw [← hL] at hf hle hfacts
  have HF := Lib.hid hfacts
  have hd : decide (lim ≤ (L : Int)) = true := decide_eq_true hf
  obtain ⟨k1, b2, b3, b4⟩ := blocks3 w (.slice a1 n1 c1) (.slice a2 n2 c2) (.int .i64 lim) (.int .i64 t.1) (.int .i64 t.2.1) (.int .i64 t.2.2) (.slice none 0 0) (.slice none 0 0) (.int .i64 0)
  have K1 := Lib.hid k1
  have B2 := Lib.hid b2
  have B4 := Lib.hid b4
  clear k1 b2 b3 b4 hL hfacts h1 h2 hn1 hn2 ht
  go_enter Try.func11, Try.ntmps11
  go_wp2_with fail
  refine (hc _).mono ?_
  rintro e w3 ⟨rfl, k3⟩
  have K3 := Lib.hid (K1.out.trans k3 (fun _ _ e => e))
  have b2 := B2.out.kept k3 (fun e => e)
  have HB4 := Lib.hid (B4.out.kept k3 (fun e => e))
  have S0 := Lib.hid (show SeenM w3 w.heap.size (.slice a1 n1 c1) (.slice a2 n2 c2) (.int .i64 lim) w3.drew from ⟨b2.drew.cell 0, b2.drew.cell 1, b2.drew.cell 2, (Kept.refl _ _).drew⟩)
  have HB2 := Lib.hid b2
  clear k3 b2 hc K1 B2 B4
  go_wp2_with fail
  go_region_held3 (SeenM w3 w.heap.size (.slice a1 n1 c1) (.slice a2 n2 c2) (.int .i64 lim))
    (first | (with_reducible assumption) | (with_reducible exact S0.out) | (with_reducible exact seenM_kept k7 (by with_reducible assumption)))
    (first
      | (go_at_call 15; refine (HF.out _ (K3.out.trans (seenM_k (by with_reducible assumption)) (fun _ _ e => e))).mono ?_; rintro e w7 ⟨a7, c7, rfl, r7, k7⟩))
  all_goals
    have hk := seenM_k (by with_reducible assumption)
    have K8 := Lib.hid (K3.out.trans hk (fun _ _ e => e))
    have b2 := HB2.out.kept hk (fun e => e)
    have b4 := HB4.out.kept hk (fun e => e)
    have HB5 := Lib.hid b4
    have x0 := b2.cell 0
    have x1 := b2.cell 1
    have x2 := b2.cell 2
    have y0 := b4.cell 0
    have y1 := b4.cell 1
    have y2 := b4.cell 2
    have f0 := b4.frozen 0
    have f1 := b4.frozen 1
    have f2 := b4.frozen 2
    clear hk b2 b4
    go_wp2
    refine bodyPost_ret (results_row2 Try.results11 _ _ _ _ _ _ _ rfl (((HB5.out.set_ 0 _).set_ 1 _).set_ 2 _) Try.underlying31 rfl (by kernel_rfl)) rfl ?_
    exact ⟨rfl, K8.out.trans (kept3 _ _ _ _ _) (fun i hi e => by omega)⟩

set_option maxHeartbeats 4000000 in
theorem refAdd_good (h1 : In encF 4 w a1 n1 all) (h2 : In cN 1 w a2 n2 gone) (hn1 : n1 ≤ 4000) (hn2 : n2 ≤ 4000) {lim : Int} (hf : ((inL all gone).length : Int) < lim) {t : T3} (ht : okT t = true) :
    Calls Try.prog 11 #[.agg #[.slice a1 n1 c1, .slice a2 n2 c2, .int .i64 lim], .agg #[.int .i64 t.1, .int .i64 t.2.1, .int .i64 t.2.2]] w fun e w' => ∃ a' c', e = .returned (.tuple #[.agg #[.slice a' (n1 + 1) c', .slice a2 n2 c2, .int .i64 lim], .int .i64 ((n1 : Int) + 1), .int .i64 0]) ∧ In encF 4 w' a' (n1 + 1) (all ++ [((n1 : Int) + 1, t)]) ∧ (∀ b, (Value.slice a' (n1 + 1) c').ownBlock = some b → w.heap.size ≤ b) ∧ Kept Nil w w' := by
  have hc := fun W => refRight_any t W
  rw [ht] at hc
  unfold arr at hc
  have hle : (inL all gone).length ≤ 4000 := Nat.le_trans (inL_le _ _) (by rw [h1.1]; exact hn1)
  have hfacts := fun W (hkw : Kept Nil w W) => facts_any (c1 := c1) (c2 := c2) (h1.kept hkw) (h2.kept hkw) hn1 hn2 lim
  obtain ⟨L, hL⟩ : ∃ L, L = (inL all gone).length := ⟨_, rfl⟩
  rw [← hL] at hf hle hfacts
  have HF := Lib.hid hfacts
  have H1 := Lib.hid h1
  have hd : decide (lim ≤ (L : Int)) = false := decide_eq_false (by omega)
  obtain ⟨k1, b2, b3, b4⟩ := blocks3 w (.slice a1 n1 c1) (.slice a2 n2 c2) (.int .i64 lim) (.int .i64 t.1) (.int .i64 t.2.1) (.int .i64 t.2.2) (.slice none 0 0) (.slice none 0 0) (.int .i64 0)
  have K1 := Lib.hid k1
  have B2 := Lib.hid b2
  have B3 := Lib.hid b3
  have B4 := Lib.hid b4
  clear k1 b2 b3 b4 hL hfacts h1 h2 hn2 ht
  go_enter Try.func11, Try.ntmps11
  go_wp2_with fail
  refine (hc _).mono ?_
  rintro e w3 ⟨rfl, k3⟩
  have K3 := Lib.hid (K1.out.trans k3 (fun _ _ e => e))
  have b2 := B2.out.kept k3 (fun e => e)
  have HB3 := Lib.hid (B3.out.kept k3 (fun e => e))
  have HB4 := Lib.hid (B4.out.kept k3 (fun e => e))
  have S0 := Lib.hid (show SeenM w3 w.heap.size (.slice a1 n1 c1) (.slice a2 n2 c2) (.int .i64 lim) w3.drew from ⟨b2.drew.cell 0, b2.drew.cell 1, b2.drew.cell 2, (Kept.refl _ _).drew⟩)
  have HB2 := Lib.hid b2
  clear k3 b2 hc K1 B2 B3 B4
  go_wp2_with fail
  go_region_held3 (SeenM w3 w.heap.size (.slice a1 n1 c1) (.slice a2 n2 c2) (.int .i64 lim))
    (first | (with_reducible assumption) | (with_reducible exact S0.out) | (with_reducible exact seenM_kept k7 (by with_reducible assumption)))
    (first
      | (go_at_call 15; refine (HF.out _ (K3.out.trans (seenM_k (by with_reducible assumption)) (fun _ _ e => e))).mono ?_; rintro e w7 ⟨a7, c7, rfl, r7, k7⟩))
  all_goals
    rename World => W5
    have hk := seenM_k (by with_reducible assumption)
    have K5 := Lib.hid (K3.out.trans hk (fun _ _ e => e))
    have b25 := HB2.out.kept hk (fun e => e)
    have b35 := HB3.out.kept hk (fun e => e)
    have b45 := HB4.out.kept hk (fun e => e)
    have hal : all.length = n1 := H1.out.1
    obtain ⟨a6, c6, w6, r6, o6, k6, f6⟩ := Row.pushAll (w := W5) elsR encF_len encF_one (by decide) 28 (Kept.refl _ _) (Row.nil W5 W5.heap.size) rfl (by simp) (c2 := c1) (H1.out.kept K5.out) (by omega)
    rw [Nat.zero_add, List.nil_append] at o6
    rw [Nat.zero_add] at r6
    obtain ⟨a9, c9, w9, r9, o9, k9, f9⟩ := Row.push (w := W5) elsR encF_len encF_one 28 k6 o6 hal.symm (by omega) ((n1 : Int) + 1, t) #[.int .i64 ((n1 : Int) + 1), .int .i64 t.1, .int .i64 t.2.1, .int .i64 t.2.2] rfl
    have hI9 := o9.toIn encF_len (by decide)
    have b29 := b25.kept k9 (fun e => e)
    have b36 := b35.kept k6 (fun e => e)
    have b49 := b45.kept k9 (fun e => e)
    have HB9 := Lib.hid b49
    have K9 := Lib.hid (K5.out.trans k9 (fun _ _ e => e))
    have HI := Lib.hid hI9
    have HO : Hid (∀ b, (Value.slice a9 (n1 + 1) c9).ownBlock = some b → ¬ b = w.heap.size + 1 + 1) := fun b hb e => by
      have h1 := (o9.lt b hb).1
      have h2 := b45.lt
      omega
    have HN : Hid (∀ b, (Value.slice a9 (n1 + 1) c9).ownBlock = some b → w.heap.size ≤ b) := fun b hb => Nat.le_trans K5.out.size (o9.lt b hb).1
    have R6 := Lib.hid r6
    have R9 := Lib.hid r9
    have x0 := b25.cell 0
    have t0 := b36.cell 0
    have t1 := b36.cell 1
    have t2 := b36.cell 2
    have z1 := b29.cell 1
    have z2 := b29.cell 2
    have y0 := b49.cell 0
    have y1 := b49.cell 1
    have y2 := b49.cell 2
    have f0 := b49.frozen 0
    have f1 := b49.frozen 1
    have f2 := b49.frozen 2
    clear hk r7 k7 hle hf hd HF K3 HB2 HB3 HB4 S0 b25 b35 b45 b29 b36 b49 r6 r9 o6 o9 hI9 k6 k9 f6 f9 hal K5
    go_wp2_with (first | (at_builtin; (first | (refine wpList_append_run rfl (.tmp 24) (.tmp 26) 28 rfl _ _ rfl rfl R6.out ?_) | (refine wpList_append_run rfl (.tmp 28) (.tmp 32) 28 rfl _ _ rfl rfl R9.out ?_))))
    refine bodyPost_ret (results_row2 Try.results11 _ _ _ _ _ _ _ rfl (((HB9.out.set_ 0 _).set_ 1 _).set_ 2 _) Try.underlying31 rfl (by kernel_rfl)) rfl ?_
    exact ⟨a9, c9, rfl, HI.out.keptF (cap := c9) (kept3 _ _ _ _ _) HO.out, HN.out, K9.out.trans (kept3 _ _ _ _ _) (fun i hi e => by omega)⟩
end
end Go.Proofs.Ytgnpclcoinndpaa
