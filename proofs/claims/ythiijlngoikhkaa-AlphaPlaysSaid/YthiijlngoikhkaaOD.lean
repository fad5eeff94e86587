/- A store: Want, Drop. -/
import Derived.Test.YthiijlngoikhkaaOC
import Derived.Deep.RegionHeld3
namespace Go.Proofs.Ythiijlngoikhkaa
open Go.RowKit Go.Maps Go.WideMaps
set_option maxRecDepth 100000

theorem Sto.le {w : World} {F : Nat → Prop} {p : Nat} {l : List T3} {L : List Mem} (h : Sto w F p l L) : L.length ≤ l.length := by
  obtain ⟨hc, hp, mm, x, g, h3⟩ := h
  have e : (keysL L).length = L.length := List.length_map ..
  rw [← e]
  refine nodup_le h3.keys (fun k hk => ?_)
  obtain ⟨m, hm, rfl⟩ := List.mem_map.1 hk
  rw [← cnt_pos, hc, wanted_some (mem_of h3.keys hm)]
  exact hp m hm
theorem Sto.mem_iff {w : World} {F : Nat → Prop} {p : Nat} {l : List T3} {L : List Mem} (h : Sto w F p l L) (k : T3) : mem L k = none ↔ cnt k l = 0 := by
  obtain ⟨hc, hp, mm, x, g, h3⟩ := h
  rw [hc k]
  cases hm : mem L k with
  | none => simp [wanted_none hm]
  | some m =>
    have := hp m (mem_some hm).1
    rw [wanted_some hm]
    exact ⟨(fun e => by cases e), (fun e => by omega)⟩
section
variable {w : World} {F : Nat → Prop} {p : Nat} {mm x : Value} {g : T3 → Nat} {l : List T3} {L : List Mem}
theorem begin_any (h : Stc w F p mm x g l L) {k : T3} (hk : K3.ok k) (hm : mem L k = none) (hl5 : L.length ≤ 5000) {a : Option Addr} {n c : Nat} {fs : List F4} (hfs : In cF 4 w a n fs) (hw : ∀ f ∈ fs, (Lit.int .i64 f.1).wf = true) (hn : n ≤ 5000) (hF : n = 0 ∨ ∀ b, (Value.slice a n c).ownBlock = some b → ¬ F b) :
    Calls Try.prog 34 #[.pointer (some ⟨p, 0, none⟩), av k, .slice a n c] w fun e w' => e = .returned (.tuple #[]) ∧ ∃ F' mm x g, Stc w' F' p mm x g l (L ++ [⟨k, 1, beg k fs⟩]) ∧ (∀ i, F' i → F i ∨ w.heap.size ≤ i) ∧ Kept F w w' := by
  have ho := h.outer
  rcases ho with ⟨rfl, _⟩ | ⟨bo, D, rfl, _⟩
  · exact begin_none h hk hm hl5 hfs hw hn hF
  · exact begin_some h hk hm hl5 hfs hw hn hF
theorem cnts_new (hc : ∀ j, cnt j l = wanted L j) {k : T3} (hm : mem L k = none) (hs : List Int) (j : T3) : cnt j (l ++ [k]) = wanted (L ++ [⟨k, 1, hs⟩]) j := by
  by_cases e : j = k
  · subst e
    rw [cnt_snoc_same, hc, wanted_none hm]
    rw [wanted_some (mem_snoc_same (m := ⟨j, 1, hs⟩) hm)]
  · rw [cnt_snoc_other (fun e' => e e'.symm), hc]
    unfold wanted
    rw [mem_snoc_other (m := ⟨k, 1, hs⟩) (fun e' => e e'.symm)]
theorem cnts_more (hc : ∀ j, cnt j l = wanted L j) {k : T3} {m : Mem} (hm : mem L k = some m) (j : T3) : cnt j (l ++ [k]) = wanted (upd L k (fun m => ⟨m.key, m.n + 1, m.has⟩)) j := by
  by_cases e : j = k
  · subst e
    rw [cnt_snoc_same, hc, wanted_some hm]
    rw [wanted_some (m := ⟨m.key, m.n + 1, m.has⟩) (by rw [mem_upd_same (f := fun m => ⟨m.key, m.n + 1, m.has⟩) (fun _ => rfl), hm]; rfl)]
  · rw [cnt_snoc_other (fun e' => e e'.symm), hc]
    unfold wanted
    rw [mem_upd_other (f := fun m => ⟨m.key, m.n + 1, m.has⟩) (fun _ => rfl) e]
theorem cnts_less (hc : ∀ j, cnt j l = wanted L j) (k : T3) (j : T3) : cnt j (drp k l) = wanted (upd L k (fun m => ⟨m.key, m.n - 1, m.has⟩)) j := by
  by_cases e : j = k
  · subst e
    rw [cnt_drp_same, hc]
    unfold wanted
    rw [mem_upd_same (f := fun m => ⟨m.key, m.n - 1, m.has⟩) (fun _ => rfl)]
    cases mem L j <;> rfl
  · rw [cnt_drp_other e, hc]
    unfold wanted
    rw [mem_upd_other (f := fun m => ⟨m.key, m.n - 1, m.has⟩) (fun _ => rfl) e]
theorem cnts_gone (hc : ∀ j, cnt j l = wanted L j) {k : T3} (h1 : wanted L k = 1) (j : T3) : cnt j (drp k l) = wanted (rem L k) j := by
  by_cases e : j = k
  · subst e
    rw [cnt_drp_same, hc, h1, wanted_none (mem_rem_same L j)]
  · rw [cnt_drp_other e, hc]
    unfold wanted
    rw [mem_rem_other e]

set_option maxHeartbeats 4000000 in
theorem wantS_any (h : Sto w F p l L) (hl : l.length < 5000) {k : T3} (hk : K3.ok k) {a : Option Addr} {n c : Nat} {fs : List F4} (hfs : In cF 4 w a n fs) (hw : ∀ f ∈ fs, (Lit.int .i64 f.1).wf = true) (hn : n ≤ 5000) (hF : n = 0 ∨ ∀ b, (Value.slice a n c).ownBlock = some b → ¬ F b) :
    Calls Try.prog 9 #[.pointer (some ⟨p, 0, none⟩), av k, .slice a n c] w fun e w' => e = .returned (.int .i64 ((wanted L k : Int) + 1)) ∧ SGrew w w' F p (l ++ [k]) (wantL L k fs) := by
  have hle := h.le
  have hmi := h.mem_iff k
  obtain ⟨hc, hp, mm, x, g, h3⟩ := h
  have HC := Lib.hid hc
  have HP := Lib.hid hp
  have hab : ∀ b, (Value.slice a n c).ownBlock = some b → b < w.heap.size ∨ n = 0 := by
    intro b hb
    rcases hfs.2 with e | ⟨b', o, e, hb', _⟩
    · exact .inr e
    · rw [e] at hb; cases hb; exact .inl hb'
  have B1 := Lib.hid (Box.new w k)
  have h1 := Lib.hid (h3.keptN B1.out.kept)
  have HI := Lib.hid hfs
  have HW := Lib.hid hw
  have HF := Lib.hid hF
  have HAB := Lib.hid hab
  have hinF := Lib.hid h3.inF
  rw [← hc k]
  clear h3 hc hp hfs hw hF hab
  go_enter Try.func9, Try.ntmps9
  go_wp2_with fail
  generalize w.alloc (.cells #[.int .i64 k.1, .int .i64 k.2.1, .int .i64 k.2.2] 31) = w1 at *
  have hb : ¬ F w.heap.size := fun e => Nat.lt_irrefl _ (hinF.out _ e)
  generalize hbw : w.heap.size = b at *
  refine wp_region_still_tail 4 (by kernel_rfl) (by kernel_rfl) ?_
  have K1 := Lib.hid (show Kept Nil w1 { w1 with drawn := w1.drawn + 1 } from (Kept.refl _ w1).drew)
  generalize { w1 with drawn := w1.drawn + 1 } = W at *
  have H := Lib.hid (h1.out.keptN K1.out)
  have BX := Lib.hid (B1.out.three.kept K1.out (fun e => e))
  have ⟨b0, b1, b2⟩ := BX.out
  have KW := Lib.hid (B1.out.kept.trans K1.out (fun _ _ e => e))
  clear h1 B1 K1
  simp only [List.take_succ_cons, List.take_zero, List.drop_succ_cons, List.drop_zero]
  repeat still_step
  refine wpStill_nil ?_
  have HCC := Lib.hid (add_t H.out.tal (by omega) hk)
  go_wp2_with fail
  refine HCC.out.mono ?_
  rintro e w2 ⟨rfl, g2⟩
  obtain ⟨mm', s2, k2⟩ := H.out.tallied g2
  have H2 := Lib.hid s2
  have K2 := Lib.hid k2
  have hbl : b < W.heap.size := World.block_lt_of_cell? W _ b0
  have ⟨c0, c1, c2⟩ := BX.out.kept k2 hb
  clear s2 k2 g2 HCC b0 b1 b2
  have KW2 := Lib.hid ((KW.out.mono (G := F) (fun _ _ e => e.elim)).trans K2.out (fun _ _ e => e))
  by_cases h0 : cnt k l = 0
  · have hm := hmi.2 h0
    have hIn2 : In cF 4 w2 a n fs := HI.out.keptA (cap := c) KW2.out HF.out
    have HB := Lib.hid (begin_any (c := c) H2.out hk hm (by omega) hIn2 HW.out hn (by
      rcases HF.out with e | hF
      · exact .inl e
      · by_cases hn0 : n = 0
        · exact .inl hn0
        · right
          intro i hi e
          rcases e with e | ⟨e, _⟩
          · exact hF i hi e
          · rcases HAB.out i hi with h | h
            · have := KW.out.size; omega
            · exact hn0 h))
    rw [h0]
    clear hIn2
    go_wp2_with fail
    refine HB.out.mono ?_
    rintro e w3 ⟨rfl, F3, mm3, x3, g3, s3, f3, k3⟩
    have H3 := Lib.hid s3
    have HF3 := Lib.hid f3
    have K3' := Lib.hid k3
    clear s3 f3 k3
    go_wp2_with fail
    go_ret
    refine ⟨by rw [h0]; rfl, F3, ⟨fun j => ?_, fun m hm' => ?_, mm3, x3, g3, ?_⟩, fun i hi => ?_, ?_⟩
    · rw [show wantL L k fs = L ++ [⟨k, 1, beg k fs⟩] by unfold wantL; rw [hm]]
      exact cnts_new HC.out hm _ j
    · rw [show wantL L k fs = L ++ [⟨k, 1, beg k fs⟩] by unfold wantL; rw [hm]] at hm'
      rcases List.mem_append.1 hm' with h | h
      · exact HP.out m h
      · rw [List.mem_singleton.1 h]; exact Nat.le_refl _
    · rw [show wantL L k fs = L ++ [⟨k, 1, beg k fs⟩] by unfold wantL; rw [hm]]
      exact H3.out
    · have := KW.out.size
      have := K2.out.size
      rcases HF3.out i hi with (h | h) | h
      · exact .inl h
      · exact .inr (by omega)
      · exact .inr (by omega)
    · refine KW2.out.trans K3'.out (fun i hi e => ?_)
      have := KW.out.size
      rcases e with h | h
      · exact h
      · omega
  · have h0' : ((cnt k l : Int) + 1 == 1) = false := by simp; omega
    obtain ⟨m, hm⟩ : ∃ m, mem L k = some m := by
      cases hm : mem L k with
      | none => exact absurd (hmi.1 hm) h0
      | some m => exact ⟨m, rfl⟩
    have HM := Lib.hid hm
    have hcw : decide ((cnt k l : Int) + 1 = 1) = false := decide_eq_false (by omega)
    clear hm
    go_wp2_with fail
    go_ret
    have e1 : wantL L k fs = upd L k (fun m => ⟨m.key, m.n + 1, m.has⟩) := by unfold wantL; rw [HM.out]
    rw [e1]
    refine ⟨rfl, _, ⟨fun j => cnts_more HC.out HM.out j, fun y hy => ?_, mm', x, g, H2.out.times k (f := fun m => ⟨m.key, m.n + 1, m.has⟩) (fun _ => rfl) (fun _ => rfl)⟩, fun i hi => ?_, KW2.out⟩
    · obtain ⟨z, hz, rfl⟩ := mem_of_upd hy
      have := HP.out z hz
      split
      · show 1 ≤ z.n + 1; omega
      · exact this
    · have := KW.out.size
      rcases hi with h | h
      · exact .inl h
      · exact .inr (by omega)

abbrev SeenB (b : Nat) (k : T3) (W : World) : Prop := W.cell? ⟨b, 0, none⟩ = some (.int .i64 k.1) ∧ W.cell? ⟨b, 1, none⟩ = some (.int .i64 k.2.1) ∧ W.cell? ⟨b, 2, none⟩ = some (.int .i64 k.2.2)
theorem seenB_keptF {b : Nat} {k : T3} {W W' : World} {F : Nat → Prop} (kk : Kept F W W') (hb : ¬ F b) (h : SeenB b k W) : SeenB b k W' := B3.kept h kk hb
theorem seenB_kept {b : Nat} {k : T3} {W W' : World} (kk : Kept Nil W W') (h : SeenB b k W) : SeenB b k W' := B3.kept h kk (fun e => e)
set_option maxHeartbeats 2000000 in
theorem dropS_none (h : Sto w F p l L) {k : T3} (hk : K3.ok k) (hn : mem L k = none) :
    Calls Try.prog 12 #[.pointer (some ⟨p, 0, none⟩), av k] w fun e w' => e = .returned (.tuple #[.int .i64 0, .int .i64 16]) ∧ Kept Nil w w' := by
  have h0 := (h.mem_iff k).1 hn
  obtain ⟨hc, hp, mm, x, g, h3⟩ := h
  have B1 := Lib.hid (Box.new w k)
  have h1 := Lib.hid (h3.keptN B1.out.kept)
  have H0 := Lib.hid h0
  clear h3 hc hp hn h0
  go_enter Try.func12, Try.ntmps12
  go_upto_region 1 with fail
  generalize w.alloc (.cells #[.int .i64 k.1, .int .i64 k.2.1, .int .i64 k.2.2] 31) = w1 at *
  generalize w.heap.size = b at *
  have K1 := Lib.hid (show Kept Nil w1 w1.drew from (Kept.refl _ w1).drew)
  have S0 := Lib.hid (show SeenB b k w1.drew from B1.out.three.kept K1.out (fun e => e))
  have HCC := Lib.hid (drop_none_t (h1.out.keptN K1.out).tal hk H0.out)
  go_cut [6, 7] from 6 to 15 (fun c d wx => c = .int .i64 0 ∧ d = .int .i64 16 ∧ Kept Nil w1.drew wx)
  case first =>
    go_region_held3 (SeenB b k)
      (first | (with_reducible assumption) | (with_reducible exact S0.out) | (with_reducible exact seenB_kept k2 (by with_reducible assumption)))
      (first | (go_at_call 38; (with_reducible refine HCC.out.mono ?_); rintro e w2 ⟨rfl, k2⟩))
    all_goals
      go_wp2_with fail
      go_meet
      exact ⟨rfl, rfl, k2⟩
  case rest =>
    obtain ⟨rfl, rfl, k2⟩ := hcut
    have K2 := Lib.hid (B1.out.kept.trans (K1.out.trans k2 (fun _ _ e => e)) (fun _ _ e => e))
    clear k2 S0 HCC
    go_wp2_with fail
    go_ret2
    exact ⟨rfl, K2.out⟩

set_option maxHeartbeats 4000000 in
theorem dropS_some (h : Sto w F p l L) {k : T3} (hk : K3.ok k) {m : Mem} (hm : mem L k = some m) :
    Calls Try.prog 12 #[.pointer (some ⟨p, 0, none⟩), av k] w fun e w' => e = .returned (.tuple #[.int .i64 ((m.n : Int) - 1), .int .i64 0]) ∧ SGrew w w' F p (drp k l) (dropL L k) := by
  have hwm := wanted_some hm
  have hq := (mem_some hm)
  obtain ⟨hc, hp, mm, x, g, h3⟩ := h
  have hcm : cnt k l = m.n := by rw [hc, hwm]
  have hpos := hp m hq.1
  have HC := Lib.hid hc
  have HP := Lib.hid hp
  have B1 := Lib.hid (Box.new w k)
  have h1 := Lib.hid (h3.keptN B1.out.kept)
  have hinF := Lib.hid h3.inF
  have HM := Lib.hid hm
  have HWM := Lib.hid hwm
  have hll := h3.tal.len
  have hcl := cnt_le k l
  rw [← hcm] at hpos ⊢
  have HCM := Lib.hid hcm
  clear h3 hc hp hm hq hwm hcm
  go_enter Try.func12, Try.ntmps12
  go_upto_region 1 with fail
  generalize w.alloc (.cells #[.int .i64 k.1, .int .i64 k.2.1, .int .i64 k.2.2] 31) = w1 at *
  have hb : ¬ F w.heap.size := fun e => Nat.lt_irrefl _ (hinF.out _ e)
  generalize w.heap.size = b at *
  have K1 := Lib.hid (show Kept Nil w1 w1.drew from (Kept.refl _ w1).drew)
  have H := Lib.hid (h1.out.keptN K1.out)
  have S0 := Lib.hid (show SeenB b k w1.drew from B1.out.three.kept K1.out (fun e => e))
  have HCC := Lib.hid (drop_some_t H.out.tal hk hpos)
  have HTL := Lib.hid (fun w2 (g2 : TGrewt w1.drew w2 0 p mm x (drp k l)) => H.out.tallied g2)
  go_cut [6, 7] from 6 to 15 (fun c d wx => c = .int .i64 ((cnt k l : Int) - 1) ∧ d = .int .i64 0 ∧ (∃ mm', Stc wx (Fup F w1.drew wx) p mm' x g (drp k l) L) ∧ Kept F w1.drew wx)
  case first =>
    go_region_held3 (SeenB b k)
      (first | (with_reducible assumption) | (with_reducible exact S0.out) | (with_reducible exact seenB_keptF k2 hb (by with_reducible assumption)))
      (first | (go_at_call 38; (with_reducible refine HCC.out.mono ?_); rintro e w2 ⟨rfl, g2⟩; obtain ⟨mm', s2, k2⟩ := HTL.out w2 g2))
    all_goals
      go_wp2_with fail
      go_meet
      exact ⟨rfl, rfl, ⟨mm', s2⟩, k2⟩
  case rest =>
  obtain ⟨rfl, rfl, ⟨mm', s2⟩, k2⟩ := hcut
  have H2 := Lib.hid s2
  have ⟨c0, c1, c2⟩ := seenB_keptF k2 hb S0.out
  have KW2 := Lib.hid (((B1.out.kept.trans K1.out (fun _ _ e => e)).mono (G := F) (fun _ _ e => e.elim)).trans k2 (fun _ _ e => e))
  have hsz := (B1.out.kept.trans K1.out (fun _ _ e => e)).size
  clear s2 k2 HCC HTL S0 H
  by_cases h1 : cnt k l = 1
  · have hz : ((cnt k l : Int) - 1) = 0 := by omega
    obtain ⟨bo, w5, hx, hrun, hk5, fo, hs5⟩ := (H2.out.keptN ((Kept.refl _ _).drew)).gone hk (by rw [HM.out]; rfl)
    have H5 := Lib.hid (And.intro hs5 (And.intro hk5 fo))
    have cx := H2.out.tal.cell2
    rw [hx] at cx
    rw [hz]
    clear hs5 hk5 fo hx hz
    go_wp2_with fail
    go_region
    go_wp2
    go_ret2
    obtain ⟨hs5, hk5, fo⟩ := H5.out
    have e1 : dropL L k = rem L k := by unfold dropL; rw [if_pos (by rw [HWM.out, ← HCM.out]; exact h1)]
    rw [e1]
    refine ⟨by rw [h1]; rfl, _, ⟨fun j => cnts_gone HC.out (by rw [HWM.out, ← HCM.out]; exact h1) j, fun y hy => HP.out y (List.mem_filter.1 hy).1, mm', x, g, hs5⟩, fun i hi => ?_, ?_⟩
    · rcases hi with h | h
      · exact .inl h
      · exact .inr (by omega)
    · refine KW2.out.trans (((Kept.refl (fun i => i = bo) wc).drew).trans hk5 (fun _ _ e => e)) (fun i hi e => ?_)
      rw [e] at hi ⊢
      rcases fo with h | h
      · exact h
      · omega
  · have hz : decide ((cnt k l : Int) - 1 = 0) = false := decide_eq_false (by omega)
    go_wp2_with fail
    go_ret2
    have e1 : dropL L k = upd L k (fun m => ⟨m.key, m.n - 1, m.has⟩) := by unfold dropL; rw [if_neg (by rw [HWM.out, ← HCM.out]; exact h1)]
    rw [e1]
    refine ⟨rfl, _, ⟨fun j => cnts_less HC.out k j, fun y hy => ?_, mm', x, g, H2.out.times k (f := fun m => ⟨m.key, m.n - 1, m.has⟩) (fun _ => rfl) (fun _ => rfl)⟩, fun i hi => ?_, KW2.out⟩
    · obtain ⟨z, hz', rfl⟩ := mem_of_upd hy
      have := HP.out z hz'
      split
      · rename_i hzk
        show 1 ≤ z.n - 1
        have hzz := mem_of H2.out.keys hz'
        rw [hzk, HM.out] at hzz
        injection hzz with hzz
        have hcm := HCM.out
        rw [← hzz]; omega
      · exact this
    · rcases hi with h | h
      · exact .inl h
      · exact .inr (by omega)
end
end Go.Proofs.Ythiijlngoikhkaa
