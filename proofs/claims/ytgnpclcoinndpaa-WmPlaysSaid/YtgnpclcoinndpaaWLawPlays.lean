/- Whatever is called, WmPlays returns true, and writes nothing that was there. -/
import Derived.Test.YtgnpclcoinndpaaWRefD
import Derived.Test.YtgnpclcoinndpaaWSame
import Derived.Test.YtgnpclcoinndpaaWAllB
import Derived.Test.YtgnpclcoinndpaaWOpen
namespace Go.Proofs.Ytgnpclcoinndpaa
open Go.RowKit Go.Maps
set_option maxRecDepth 100000

section
variable {w wr w' : World} {B p bm last limit : Nat} {l : List F4}
theorem get_any (h : Mem w B p bm l last limit) {k : Int} (hw : (Lit.int .i64 k).wf = true) :
    Calls Try.prog 16 #[.pointer (some ⟨p, 0, none⟩), .int .i64 k] w (GetEnd (look l k) w) := by
  cases hk : look l k with
  | none => exact get_miss h hw hk
  | some t => exact get_hit h hw hk
/-- What stands in memory: the program's side (the facts l), and the document's. -/
structure Play (w W : World) (p bm bx : Nat) (l : List F4) (last lim n1 n2 : Nat) (all : List F4) (gone : List Int) (a1 a2 : Option Addr) (c1 c2 : Nat) : Prop where
  mem : Mem W w.heap.size p bm l last lim
  box : Blk W bx 31 #[.slice a1 n1 c1, .slice a2 n2 c2, .int .i64 lim]
  inA : In encF 4 W a1 n1 all
  inG : In cN 1 W a2 n2 gone
  farA : ∀ b, (Value.slice a1 n1 c1).ownBlock = some b → ¬ MFoot p bm b ∧ b ≠ bx
  farG : ∀ b, (Value.slice a2 n2 c2).ownBlock = some b → ¬ MFoot p bm b ∧ b ≠ bx
  bxb : w.heap.size ≤ bx
  kept : Kept Nil w W
end
section
variable {w W W' : World} {p bm bx last last' lim n1 n2 : Nat} {l l' all : List F4} {gone : List Int} {a1 a2 : Option Addr} {c1 c2 : Nat}
theorem Play.on (h : Play w W p bm bx l last lim n1 n2 all gone a1 a2 c1 c2) (k : Kept Nil W W') : Play w W' p bm bx l last lim n1 n2 all gone a1 a2 c1 c2 :=
  ⟨h.mem.keptN k, h.box.kept k (fun e => e), h.inA.kept k, h.inG.kept k, h.farA, h.farG, h.bxb, h.kept.trans k (fun _ _ e => e)⟩
/-- A block that is made later is none of a memory's, nor the document's box. -/
theorem Play.new (h : Play w W p bm bx l last lim n1 n2 all gone a1 a2 c1 c2) {b : Nat} (hb : W.heap.size ≤ b) : ¬ MFoot p bm b ∧ b ≠ bx :=
  ⟨fun e => absurd (h.mem.foot e).2 (Nat.not_lt.2 hb), fun e => absurd h.box.lt (Nat.not_lt.2 (e ▸ hb))⟩
/-- The box isn't one of the memory's blocks. -/
theorem Play.apart (h : Play w W p bm bx l last lim n1 n2 all gone a1 a2 c1 c2) : ¬ MFoot p bm bx := h.mem.other h.box (by decide)
/-- The program has made its step. -/
theorem Play.act (h : Play w W p bm bx l last lim n1 n2 all gone a1 a2 c1 c2) (k : Kept (MFoot p bm) W W') (m : Mem W' w.heap.size p bm l' last' lim) : Play w W' p bm bx l' last' lim n1 n2 all gone a1 a2 c1 c2 :=
  ⟨m, h.box.kept k h.apart, h.inA.keptF (cap := c1) k (fun b hb => (h.farA b hb).1), h.inG.keptF (cap := c2) k (fun b hb => (h.farG b hb).1), h.farA, h.farG, h.bxb, h.mem.outer h.kept k⟩
/-- The document's memory is stored anew. -/
theorem Play.store (h : Play w W p bm bx l last lim n1 n2 all gone a1 a2 c1 c2) {n3 n4 : Nat} {all' : List F4} {gone' : List Int} {a3 a4 : Option Addr} {c3 c4 : Nat} (hA : In encF 4 W a3 n3 all') (hG : In cN 1 W a4 n4 gone')
    (fA : ∀ b, (Value.slice a3 n3 c3).ownBlock = some b → ¬ MFoot p bm b ∧ b ≠ bx) (fG : ∀ b, (Value.slice a4 n4 c4).ownBlock = some b → ¬ MFoot p bm b ∧ b ≠ bx) :
    Play w (((W.setCell ⟨bx, 0, none⟩ (.slice a3 n3 c3)).setCell ⟨bx, 1, none⟩ (.slice a4 n4 c4)).setCell ⟨bx, 2, none⟩ (.int .i64 lim)) p bm bx l last lim n3 n4 all' gone' a3 a4 c3 c4 :=
  ⟨h.mem.kept (kept3 _ _ _ _ _) (fun i hi e => h.apart (e ▸ hi)), ((h.box.set_ 0 _).set_ 1 _).set_ 2 _, hA.keptF (cap := c3) (kept3 _ _ _ _ _) (fun b hb => (fA b hb).2), hG.keptF (cap := c4) (kept3 _ _ _ _ _) (fun b hb => (fG b hb).2), fA, fG, h.bxb,
    h.kept.trans (kept3 _ _ _ _ _) (fun i hi e => by have := h.bxb; omega)⟩
theorem Blk.ne {w : World} {g g' : Nat} {t t' : TypeId} {cs cs' : Array Value} (h : Blk w g t cs) (h' : Blk w g' t' cs') (ht : t ≠ t') : g ≠ g' := fun e => by
  subst e
  unfold Blk at h h'
  rw [h] at h'
  injection h' with h'
  injection h' with _ h' _
  exact ht h'
end

set_option maxHeartbeats 16000000 in
theorem wmPlays_any (x : Int) (a : Option Addr) (n c : Nat) (l : List Op5) (w : World) (h : In cO 5 w a n l) (ho : ∀ x ∈ l, (Lit.int .i64 x.2.2).wf = true) (hm : n ≤ maxLen) :
    Calls Try.prog 3 #[.int .i64 x, .slice a n c] w fun e w' => e = .returned (.bool true) ∧ Kept Nil w w' := by
  have H := Lib.hid h
  have HO := Lib.hid ho
  have HA := Lib.hid (fun W => awake_any W)
  unfold maxLen at hm
  clear h ho
  by_cases hbig : 80 < n
  · have hd : decide (80 < (n : Int)) = true := decide_eq_true (by omega)
    go_enter Try.func3, Try.ntmps3
    go_wp2_with fail
    refine (HA.out _).mono ?_
    rintro e w2 ⟨rfl, k2⟩
    have K2 := Lib.hid k2
    clear k2
    go_wp2_with fail
    go_ret
    exact ⟨rfl, K2.out⟩
  have hd : decide (80 < (n : Int)) = false := decide_eq_false (by omega)
  have hn : n ≤ 80 := by omega
  clear hbig hm
  by_cases hx1 : x < 1
  · go_enter Try.func3, Try.ntmps3
    go_wp2_with fail
    refine (new_bad x (.inl hx1) w).mono ?_
    rintro e w1 ⟨rfl, rfl⟩
    go_wp2_with fail
    refine (HA.out _).mono ?_
    rintro e w2 ⟨rfl, k2⟩
    have K2 := Lib.hid k2
    clear k2
    go_wp2_with fail
    go_ret
    exact ⟨rfl, K2.out⟩
  by_cases hx2 : 1024 < x
  · go_enter Try.func3, Try.ntmps3
    go_wp2_with fail
    refine (new_bad x (.inr hx2) w).mono ?_
    rintro e w1 ⟨rfl, rfl⟩
    go_wp2_with fail
    refine (HA.out _).mono ?_
    rintro e w2 ⟨rfl, k2⟩
    have K2 := Lib.hid k2
    clear k2
    go_wp2_with fail
    go_ret
    exact ⟨rfl, K2.out⟩
  obtain ⟨lim, rfl⟩ : ∃ lim : Nat, x = (lim : Int) := ⟨x.toNat, by omega⟩
  have hl1 : 1 ≤ lim := by omega
  have hl2 : lim ≤ 1024 := by omega
  clear hx1 hx2
  go_enter Try.func3, Try.ntmps3
  go_wp2_with fail
  refine (new_good lim hl1 hl2 w).mono ?_
  rintro e w1 ⟨p, bm, rfl, h1, k1⟩
  have kx : Kept Nil w1 (w1.alloc (.cells #[.slice none 0 0, .slice none 0 0, .int .i64 lim] 31)) := (Kept.refl _ _).alloc _
  have HP := Lib.hid (show Play w (w1.alloc (.cells #[.slice none 0 0, .slice none 0 0, .int .i64 lim] 31)) p bm w1.heap.size (inL [] []) 0 lim 0 0 [] [] none none 0 0 from
    ⟨h1.keptN kx, Blk.new _ _ _, ⟨rfl, .inl rfl⟩, ⟨rfl, .inl rfl⟩, fun b e => (by cases e), fun b e => (by cases e), k1.size, k1.trans kx (fun _ _ e => e)⟩)
  clear h1 k1 kx
  go_wp2_with fail
  generalize w1.alloc (.cells #[.slice none 0 0, .slice none 0 0, .int .i64 lim] 31) = w2 at *
  generalize w1.heap.size = bx at *
  go_loopw [60] (fun i wr => ∃ (j n1 n2 : Nat) (all : List F4) (gone : List Int) (a1 a2 : Option Addr) (c1 c2 : Nat), j ≤ n ∧ i = .int .i64 j ∧ n1 ≤ j ∧ n2 ≤ j ∧ (∀ g ∈ gone, g ≤ (n1 : Int)) ∧ Play w wr p bm bx (inL all gone) n1 lim n1 n2 all gone a1 a2 c1 c2) (fun i _ => n - (intOf i).toNat)
  case atStart => exact ⟨0, 0, 0, [], [], none, none, 0, 0, Nat.zero_le _, rfl, Nat.le_refl _, Nat.le_refl _, by simp, HP.out⟩
  case round =>
    clear HP
    obtain ⟨j, n1, n2, all, gone, a1, a2, c1, c2, hj, rfl, hf1, hf2, hold, hP⟩ := hrel
    have HP := Lib.hid hP
    have HOld := Lib.hid hold
    clear hP hold
    by_cases hlt : j < n
    · obtain ⟨⟨g, t, id⟩, ht⟩ : ∃ o, l[j]? = some o := ⟨l[j]'(by have := H.out.1; omega), by simp⟩
      obtain ⟨b, off, rfl, hb, hc⟩ := (H.out.kept HP.out.kept).at_ ht
      have x0 : wr.cell? ⟨b, off + j * 5, none⟩ = some (.bool g) := by have := hc 0 _ rfl; simpa using this
      have x1 : wr.cell? ⟨b, off + j * 5 + 1, none⟩ = some (.int .i64 t.1) := by have := hc 1 _ rfl; simpa using this
      have x2 : wr.cell? ⟨b, off + j * 5 + 2, none⟩ = some (.int .i64 t.2.1) := by have := hc 2 _ rfl; simpa using this
      have x3 : wr.cell? ⟨b, off + j * 5 + 3, none⟩ = some (.int .i64 t.2.2) := by have := hc 3 _ rfl; simpa using this
      have x4 : wr.cell? ⟨b, off + j * 5 + 4, none⟩ = some (.int .i64 id) := by have := hc 4 _ rfl; simpa using this
      have hidw := HO.out _ (List.mem_of_getElem? ht)
      dsimp only at hidw
      have k3 : Kept Nil wr (wr.alloc (.cells #[.bool g, .int .i64 t.1, .int .i64 t.2.1, .int .i64 t.2.2, .int .i64 id] 35)) := (Kept.refl _ _).alloc _
      have HB3 := Lib.hid (Blk.new wr 35 #[.bool g, .int .i64 t.1, .int .i64 t.2.1, .int .i64 t.2.2, .int .i64 id])
      have HP3 := Lib.hid (HP.out.on k3)
      have y1 := HB3.out.cell 1
      have y2 := HB3.out.cell 2
      have y3 := HB3.out.cell 3
      have y4 := HB3.out.cell 4
      have z0 := HP3.out.box.cell 0
      have z1 := HP3.out.box.cell 1
      have z2 := HP3.out.box.cell 2
      clear hc hb ht k3 HP
      cases g with
      | true =>
        go_wp2_with fail
        clear x0 x1 x2 x3 x4 y1 y2 y3 y4 z0 z1 z2
        generalize wr.alloc (.cells #[.bool true, .int .i64 t.1, .int .i64 t.2.1, .int .i64 t.2.2, .int .i64 id] 35) = w3 at *
        generalize wr.heap.size = bo at *
        cases hs : look (inL all gone) id with
        | none =>
          have hget := refGet_any (c1 := c1) (c2 := c2) HP3.out.inA HP3.out.inG (by omega) (by omega) (lim : Int) id
          rw [hs] at hget
          refine hget.mono ?_
          rintro e w4 ⟨rfl, k4⟩
          rw [show ((none : Option T3).getD zeroT) = (0, 0, 0) from rfl, show (none : Option T3).isSome = false from rfl]
          have k5 : Kept Nil w4 (w4.alloc (.cells #[.int .i64 0, .int .i64 0, .int .i64 0] 32)) := (Kept.refl _ _).alloc _
          have HP5 := Lib.hid ((HP3.out.on k4).on k5)
          have B5 := (HB3.out.kept k4 (fun e => e)).kept k5 (fun e => e)
          have HB5 := Lib.hid B5
          have HV5 := Lib.hid (Blk.new w4 32 #[.int .i64 0, .int .i64 0, .int .i64 0])
          have y4 := B5.cell 4
          have z0 := HP5.out.box.cell 0
          have z1 := HP5.out.box.cell 1
          have z2 := HP5.out.box.cell 2
          have HS := Lib.hid hs
          have hbo : bo ≠ bx := HB3.out.ne HP3.out.box (by decide)
          have hbw : w4.heap.size ≠ bx := HV5.out.ne HP5.out.box (by decide)
          clear k4 k5 B5 HP3 HB3 hs hget
          go_wp2_with fail
          clear y4 z0 z1 z2
          generalize w4.alloc (.cells #[.int .i64 0, .int .i64 0, .int .i64 0] 32) = w5 at *
          generalize w4.heap.size = bw at *
          refine (refRemove_miss HP5.out.inA HP5.out.inG (by omega) (by omega) (lim : Int) HS.out).mono ?_
          rintro e w6 ⟨rfl, k6⟩
          have k7 : Kept Nil w6 (w6.alloc (.cells #[.slice a1 n1 c1, .slice a2 (n2) c2, .int .i64 lim] 31)) := (Kept.refl _ _).alloc _
          have HP7 := (HP5.out.on k6).on k7
          have B7 := (HB5.out.kept k6 (fun e => e)).kept k7 (fun e => e)
          have V7 := (HV5.out.kept k6 (fun e => e)).kept k7 (fun e => e)
          have B8 := B7.kept (kept3 (w6.alloc (.cells #[.slice a1 n1 c1, .slice a2 (n2) c2, .int .i64 lim] 31)) bx (.slice a1 n1 c1) (.slice a2 (n2) c2) (.int .i64 lim)) hbo
          have HV8 := Lib.hid (V7.kept (kept3 (w6.alloc (.cells #[.slice a1 n1 c1, .slice a2 (n2) c2, .int .i64 lim] 31)) bx (.slice a1 n1 c1) (.slice a2 (n2) c2) (.int .i64 lim)) hbw)
          have HP8 := Lib.hid (HP7.store (c3 := c1) (c4 := c2) HP7.inA HP7.inG HP7.farA HP7.farG)
          have x0 := HP7.box.cell 0
          have x1 := HP7.box.cell 1
          have x2 := HP7.box.cell 2
          have f0 := HP7.box.frozen 0
          have f1 := HP7.box.frozen 1
          have f2 := HP7.box.frozen 2
          have y4 := B8.cell 4
          have hbl : bx < w6.heap.size := (HP5.out.on k6).box.lt
          have M7 := Blk.new w6 31 #[.slice a1 n1 c1, .slice a2 (n2) c2, .int .i64 lim]
          have m0 := M7.cell 0
          have m1 := M7.cell 1
          have m2 := M7.cell 2
          clear k6 k7 HP7 B7 V7 B8 M7 HP5 HB5 HV5 
          go_upto_region 15 with fail
          generalize (w6.alloc (.cells #[.slice a1 n1 c1, .slice a2 (n2) c2, .int .i64 lim] 31)) = w7 at *
          generalize w6.heap.size = bn at *
          go_wp2_with fail
          clear x0 x1 x2 f0 f1 f2 y4 hbl m0 m1 m2
          generalize (((w7).setCell ⟨bx, 0, none⟩ (.slice a1 n1 c1)).setCell ⟨bx, 1, none⟩ (.slice a2 (n2) c2)).setCell ⟨bx, 2, none⟩ (.int .i64 lim) = w8 at *
          refine (remove_miss HP8.out.mem hidw HS.out).mono ?_
          rintro e w9 ⟨rfl, k9⟩
          have HP9 := HP8.out.on k9
          have V9 := HV8.out.kept k9 (fun e => e)
          have k10 : Kept Nil w9 (w9.alloc (.cells #[.int .i64 0, .int .i64 0, .int .i64 0] 33)) := (Kept.refl _ _).alloc _
          have HP10 := Lib.hid (HP9.on k10)
          have V10 := V9.kept k10 (fun e => e)
          have v0 := V10.cell 0
          have v1 := V10.cell 1
          have v2 := V10.cell 2
          have heq := fun W : World => eqT_at Try.underlying33 (0, 0, 0) (0, 0, 0) W
          simp only [decide_true] at heq
          clear k9 k10 HP9 V9 V10 HP8 HV8
          go_wp2_with fail
          clear v0 v1 v2 heq
          generalize w9.alloc (.cells #[.int .i64 0, .int .i64 0, .int .i64 0] 33) = w10 at *
          have HQ1 := Lib.hid (show n1 ≤ j + 1 from by omega)
          have HQ2 := Lib.hid (show n2 ≤ j + 1 from by omega)
          have HOld2 := Lib.hid (show ∀ g ∈ gone, g ≤ ((n1 : Nat) : Int) from HOld.out)
          have HF := Lib.hid (fun W' (k : Kept Nil w10 W') => facts_any (c1 := c1) (c2 := c2) (HP10.out.inA.kept k) (HP10.out.inG.kept k) (by omega) (by omega) (lim : Int))
          have HLn := Lib.hid (fun W' (k : Kept Nil w10 W') => len_any (HP10.out.mem.keptN k))
          have HLs := Lib.hid (fun W' (k : Kept Nil w10 W') => last_any (HP10.out.mem.keptN k))
          have hqf : (inL (all) (gone)).length ≤ n1 := HP10.out.mem.len_le
          obtain ⟨q, hq⟩ : ∃ q, q = (inL (all) (gone)).length := ⟨_, rfl⟩
          rw [← hq] at HF HLn hqf
          clear hq
          have S0 := Lib.hid (show SeenM w10 bx (.slice a1 (n1) c1) (.slice a2 (n2) c2) (.int .i64 lim) w10.drew from ⟨HP10.out.box.cell 0, HP10.out.box.cell 1, HP10.out.box.cell 2, (Kept.refl _ _).drew⟩)
          go_region_held3 (SeenM w10 bx (.slice a1 (n1) c1) (.slice a2 (n2) c2) (.int .i64 lim))
            (first | (with_reducible assumption) | (with_reducible exact S0.out) | (with_reducible exact seenM_kept k7 (by with_reducible assumption)))
            (first
              | (go_at_call 15; refine (HF.out _ (seenM_k (by with_reducible assumption))).mono ?_; rintro e w7 ⟨a7, c7, rfl, r7, k7⟩)
              | (go_at_call 14; refine (HLn.out _ (seenM_k (by with_reducible assumption))).mono ?_; rintro e w8 ⟨rfl, rfl⟩)
              | (go_at_call 13; refine (HLs.out _ (seenM_k (by with_reducible assumption))).mono ?_; rintro e w9 ⟨rfl, rfl⟩))
          all_goals
            have hk := seenM_k (by with_reducible assumption)
            have HPE := Lib.hid (HP10.out.on hk)
            clear hk
            go_wp2_with fail
            go_roundw
            case rel => exact ⟨j + 1, n1, n2, all, gone, a1, a2, c1, c2, hlt, by go_num, HQ1.out, HQ2.out, HOld2.out, HPE.out⟩
            case measure => simp [intOf]; omega
        | some s =>
          have hget := refGet_any (c1 := c1) (c2 := c2) HP3.out.inA HP3.out.inG (by omega) (by omega) (lim : Int) id
          rw [hs] at hget
          refine hget.mono ?_
          rintro e w4 ⟨rfl, k4⟩
          rw [show ((some s : Option T3).getD zeroT) = s from rfl, show (some s : Option T3).isSome = true from rfl]
          have k5 : Kept Nil w4 (w4.alloc (.cells #[.int .i64 s.1, .int .i64 s.2.1, .int .i64 s.2.2] 32)) := (Kept.refl _ _).alloc _
          have HP5 := Lib.hid ((HP3.out.on k4).on k5)
          have B5 := (HB3.out.kept k4 (fun e => e)).kept k5 (fun e => e)
          have HB5 := Lib.hid B5
          have HV5 := Lib.hid (Blk.new w4 32 #[.int .i64 s.1, .int .i64 s.2.1, .int .i64 s.2.2])
          have y4 := B5.cell 4
          have z0 := HP5.out.box.cell 0
          have z1 := HP5.out.box.cell 1
          have z2 := HP5.out.box.cell 2
          have HS := Lib.hid hs
          have hbo : bo ≠ bx := HB3.out.ne HP3.out.box (by decide)
          have hbw : w4.heap.size ≠ bx := HV5.out.ne HP5.out.box (by decide)
          clear k4 k5 B5 HP3 HB3 hs hget
          go_wp2_with fail
          clear y4 z0 z1 z2
          generalize w4.alloc (.cells #[.int .i64 s.1, .int .i64 s.2.1, .int .i64 s.2.2] 32) = w5 at *
          generalize w4.heap.size = bw at *
          refine (refRemove_hit HP5.out.inA HP5.out.inG (by omega) (by omega) (lim : Int) HS.out).mono ?_
          rintro e w6 ⟨a6, c6, rfl, i6, n6, k6⟩
          have f6 : ∀ b, (Value.slice a6 (n2 + 1) c6).ownBlock = some b → ¬ MFoot p bm b ∧ b ≠ bx := fun b hb => HP5.out.new (n6 b hb)
          have k7 : Kept Nil w6 (w6.alloc (.cells #[.slice a1 n1 c1, .slice a6 (n2 + 1) c6, .int .i64 lim] 31)) := (Kept.refl _ _).alloc _
          have HP7 := (HP5.out.on k6).on k7
          have B7 := (HB5.out.kept k6 (fun e => e)).kept k7 (fun e => e)
          have V7 := (HV5.out.kept k6 (fun e => e)).kept k7 (fun e => e)
          have B8 := B7.kept (kept3 (w6.alloc (.cells #[.slice a1 n1 c1, .slice a6 (n2 + 1) c6, .int .i64 lim] 31)) bx (.slice a1 n1 c1) (.slice a6 (n2 + 1) c6) (.int .i64 lim)) hbo
          have HV8 := Lib.hid (V7.kept (kept3 (w6.alloc (.cells #[.slice a1 n1 c1, .slice a6 (n2 + 1) c6, .int .i64 lim] 31)) bx (.slice a1 n1 c1) (.slice a6 (n2 + 1) c6) (.int .i64 lim)) hbw)
          have HP8 := Lib.hid (HP7.store (c3 := c1) (c4 := c6) (HP7.inA) (i6.kept k7) HP7.farA f6)
          have x0 := HP7.box.cell 0
          have x1 := HP7.box.cell 1
          have x2 := HP7.box.cell 2
          have f0 := HP7.box.frozen 0
          have f1 := HP7.box.frozen 1
          have f2 := HP7.box.frozen 2
          have y4 := B8.cell 4
          have hbl : bx < w6.heap.size := (HP5.out.on k6).box.lt
          have M7 := Blk.new w6 31 #[.slice a1 n1 c1, .slice a6 (n2 + 1) c6, .int .i64 lim]
          have m0 := M7.cell 0
          have m1 := M7.cell 1
          have m2 := M7.cell 2
          clear k6 k7 HP7 B7 V7 B8 M7 HP5 HB5 HV5 i6 n6 f6
          go_upto_region 15 with fail
          generalize (w6.alloc (.cells #[.slice a1 n1 c1, .slice a6 (n2 + 1) c6, .int .i64 lim] 31)) = w7 at *
          generalize w6.heap.size = bn at *
          go_wp2_with fail
          clear x0 x1 x2 f0 f1 f2 y4 hbl m0 m1 m2
          generalize (((w7).setCell ⟨bx, 0, none⟩ (.slice a1 n1 c1)).setCell ⟨bx, 1, none⟩ (.slice a6 (n2 + 1) c6)).setCell ⟨bx, 2, none⟩ (.int .i64 lim) = w8 at *
          have hsi := (HP8.out.mem.ids _ (look_mem HS.out)).2
          dsimp only at hsi
          refine (remove_hit HP8.out.mem hidw HS.out).mono ?_
          rintro e w9 ⟨rfl, h9, k9⟩
          rw [← inL_gone] at h9
          have HP9 := HP8.out.act k9 h9
          have V9 := HP8.out.mem.stays HV8.out (by decide) k9
          have k10 : Kept Nil w9 (w9.alloc (.cells #[.int .i64 s.1, .int .i64 s.2.1, .int .i64 s.2.2] 33)) := (Kept.refl _ _).alloc _
          have HP10 := Lib.hid (HP9.on k10)
          have V10 := V9.kept k10 (fun e => e)
          have v0 := V10.cell 0
          have v1 := V10.cell 1
          have v2 := V10.cell 2
          have heq := fun W : World => eqT_at Try.underlying33 s s W
          simp only [decide_true] at heq
          clear h9 k9 k10 HP9 V9 V10 HP8 HV8
          go_wp2_with fail
          clear v0 v1 v2 heq
          generalize w9.alloc (.cells #[.int .i64 s.1, .int .i64 s.2.1, .int .i64 s.2.2] 33) = w10 at *
          have HQ1 := Lib.hid (show n1 ≤ j + 1 from by omega)
          have HQ2 := Lib.hid (show n2 + 1 ≤ j + 1 from by omega)
          have HOld2 := Lib.hid (show ∀ g ∈ gone ++ [id], g ≤ ((n1 : Nat) : Int) from (fun g hg => by rcases List.mem_append.1 hg with hg | hg; exact HOld.out g hg; rw [List.mem_singleton.1 hg]; exact hsi))
          have HF := Lib.hid (fun W' (k : Kept Nil w10 W') => facts_any (c1 := c1) (c2 := c6) (HP10.out.inA.kept k) (HP10.out.inG.kept k) (by omega) (by omega) (lim : Int))
          have HLn := Lib.hid (fun W' (k : Kept Nil w10 W') => len_any (HP10.out.mem.keptN k))
          have HLs := Lib.hid (fun W' (k : Kept Nil w10 W') => last_any (HP10.out.mem.keptN k))
          have hqf : (inL (all) (gone ++ [id])).length ≤ n1 := HP10.out.mem.len_le
          obtain ⟨q, hq⟩ : ∃ q, q = (inL (all) (gone ++ [id])).length := ⟨_, rfl⟩
          rw [← hq] at HF HLn hqf
          clear hq
          have S0 := Lib.hid (show SeenM w10 bx (.slice a1 (n1) c1) (.slice a6 (n2 + 1) c6) (.int .i64 lim) w10.drew from ⟨HP10.out.box.cell 0, HP10.out.box.cell 1, HP10.out.box.cell 2, (Kept.refl _ _).drew⟩)
          go_region_held3 (SeenM w10 bx (.slice a1 (n1) c1) (.slice a6 (n2 + 1) c6) (.int .i64 lim))
            (first | (with_reducible assumption) | (with_reducible exact S0.out) | (with_reducible exact seenM_kept k7 (by with_reducible assumption)))
            (first
              | (go_at_call 15; refine (HF.out _ (seenM_k (by with_reducible assumption))).mono ?_; rintro e w7 ⟨a7, c7, rfl, r7, k7⟩)
              | (go_at_call 14; refine (HLn.out _ (seenM_k (by with_reducible assumption))).mono ?_; rintro e w8 ⟨rfl, rfl⟩)
              | (go_at_call 13; refine (HLs.out _ (seenM_k (by with_reducible assumption))).mono ?_; rintro e w9 ⟨rfl, rfl⟩))
          all_goals
            have hk := seenM_k (by with_reducible assumption)
            have HPE := Lib.hid (HP10.out.on hk)
            clear hk
            go_wp2_with fail
            go_roundw
            case rel => exact ⟨j + 1, n1, n2 + 1, all, gone ++ [id], a1, a6, c1, c6, hlt, by go_num, HQ1.out, HQ2.out, HOld2.out, HPE.out⟩
            case measure => simp [intOf]; omega
      | false =>
        go_wp2_with fail
        clear x0 x1 x2 x3 x4 y1 y2 y3 y4 z0 z1 z2
        generalize wr.alloc (.cells #[.bool false, .int .i64 t.1, .int .i64 t.2.1, .int .i64 t.2.2, .int .i64 id] 35) = w3 at *
        generalize wr.heap.size = bo at *
        cases hok : okT t with
        | false =>
          have hbo : bo ≠ bx := HB3.out.ne HP3.out.box (by decide)
          refine (refAdd_wrong (lim : Int) hok _).mono ?_
          rintro e w6 ⟨rfl, k6⟩
          have k7 : Kept Nil w6 (w6.alloc (.cells #[.slice a1 (n1) c1, .slice a2 n2 c2, .int .i64 lim] 31)) := (Kept.refl _ _).alloc _
          have HP7 := (HP3.out.on k6).on k7
          have B7 := (HB3.out.kept k6 (fun e => e)).kept k7 (fun e => e)
          have B8 := B7.kept (kept3 (w6.alloc (.cells #[.slice a1 (n1) c1, .slice a2 n2 c2, .int .i64 lim] 31)) bx (.slice a1 (n1) c1) (.slice a2 n2 c2) (.int .i64 lim)) hbo
          have HP8 := Lib.hid (HP7.store (c3 := c1) (c4 := c2) HP7.inA HP7.inG HP7.farA HP7.farG)
          have x0 := HP7.box.cell 0
          have x1 := HP7.box.cell 1
          have x2 := HP7.box.cell 2
          have f0 := HP7.box.frozen 0
          have f1 := HP7.box.frozen 1
          have f2 := HP7.box.frozen 2
          have y1 := B8.cell 1
          have y2 := B8.cell 2
          have y3 := B8.cell 3
          have hbl : bx < w6.heap.size := (HP3.out.on k6).box.lt
          have M7 := Blk.new w6 31 #[.slice a1 (n1) c1, .slice a2 n2 c2, .int .i64 lim]
          have m0 := M7.cell 0
          have m1 := M7.cell 1
          have m2 := M7.cell 2
          clear k6 k7 HP7 B7 B8 M7 HP3 HB3 
          go_upto_region 20 with fail
          generalize (w6.alloc (.cells #[.slice a1 (n1) c1, .slice a2 n2 c2, .int .i64 lim] 31)) = w7 at *
          generalize w6.heap.size = bn at *
          go_wp2_with fail
          clear x0 x1 x2 f0 f1 f2 y1 y2 y3 hbl m0 m1 m2
          generalize (((w7).setCell ⟨bx, 0, none⟩ (.slice a1 (n1) c1)).setCell ⟨bx, 1, none⟩ (.slice a2 n2 c2)).setCell ⟨bx, 2, none⟩ (.int .i64 lim) = w8 at *
          refine (add_wrong hok _ _).mono ?_
          rintro e w9 ⟨rfl, k9⟩
          have HP9 := Lib.hid (HP8.out.on k9)
          clear k9 HP8
          go_wp2_with fail
          have HQ1 := Lib.hid (show n1 ≤ j + 1 from by omega)
          have HQ2 := Lib.hid (show n2 ≤ j + 1 from by omega)
          have HOld2 := Lib.hid (show ∀ g ∈ gone, g ≤ ((n1 : Nat) : Int) from HOld.out)
          have HF := Lib.hid (fun W' (k : Kept Nil w9 W') => facts_any (c1 := c1) (c2 := c2) (HP9.out.inA.kept k) (HP9.out.inG.kept k) (by omega) (by omega) (lim : Int))
          have HLn := Lib.hid (fun W' (k : Kept Nil w9 W') => len_any (HP9.out.mem.keptN k))
          have HLs := Lib.hid (fun W' (k : Kept Nil w9 W') => last_any (HP9.out.mem.keptN k))
          have hqf : (inL (all) (gone)).length ≤ n1 := HP9.out.mem.len_le
          obtain ⟨q, hq⟩ : ∃ q, q = (inL (all) (gone)).length := ⟨_, rfl⟩
          rw [← hq] at HF HLn hqf
          clear hq
          have S0 := Lib.hid (show SeenM w9 bx (.slice a1 (n1) c1) (.slice a2 (n2) c2) (.int .i64 lim) w9.drew from ⟨HP9.out.box.cell 0, HP9.out.box.cell 1, HP9.out.box.cell 2, (Kept.refl _ _).drew⟩)
          go_region_held3 (SeenM w9 bx (.slice a1 (n1) c1) (.slice a2 (n2) c2) (.int .i64 lim))
            (first | (with_reducible assumption) | (with_reducible exact S0.out) | (with_reducible exact seenM_kept k7 (by with_reducible assumption)))
            (first
              | (go_at_call 15; refine (HF.out _ (seenM_k (by with_reducible assumption))).mono ?_; rintro e w7 ⟨a7, c7, rfl, r7, k7⟩)
              | (go_at_call 14; refine (HLn.out _ (seenM_k (by with_reducible assumption))).mono ?_; rintro e w8 ⟨rfl, rfl⟩)
              | (go_at_call 13; refine (HLs.out _ (seenM_k (by with_reducible assumption))).mono ?_; rintro e w9 ⟨rfl, rfl⟩))
          all_goals
            have hk := seenM_k (by with_reducible assumption)
            have HPE := Lib.hid (HP9.out.on hk)
            clear hk
            go_wp2_with fail
            go_roundw
            case rel => exact ⟨j + 1, n1, n2, all, gone, a1, a2, c1, c2, hlt, by go_num, HQ1.out, HQ2.out, HOld2.out, HPE.out⟩
            case measure => simp [intOf]; omega
        | true =>
          by_cases hfull : lim ≤ (inL all gone).length
          · have hbo : bo ≠ bx := HB3.out.ne HP3.out.box (by decide)
            refine (refAdd_full HP3.out.inA HP3.out.inG (by omega) (by omega) (lim := (lim : Int)) (by omega) hok).mono ?_
            rintro e w6 ⟨rfl, k6⟩
            have k7 : Kept Nil w6 (w6.alloc (.cells #[.slice a1 (n1) c1, .slice a2 n2 c2, .int .i64 lim] 31)) := (Kept.refl _ _).alloc _
            have HP7 := (HP3.out.on k6).on k7
            have B7 := (HB3.out.kept k6 (fun e => e)).kept k7 (fun e => e)
            have B8 := B7.kept (kept3 (w6.alloc (.cells #[.slice a1 (n1) c1, .slice a2 n2 c2, .int .i64 lim] 31)) bx (.slice a1 (n1) c1) (.slice a2 n2 c2) (.int .i64 lim)) hbo
            have HP8 := Lib.hid (HP7.store (c3 := c1) (c4 := c2) HP7.inA HP7.inG HP7.farA HP7.farG)
            have x0 := HP7.box.cell 0
            have x1 := HP7.box.cell 1
            have x2 := HP7.box.cell 2
            have f0 := HP7.box.frozen 0
            have f1 := HP7.box.frozen 1
            have f2 := HP7.box.frozen 2
            have y1 := B8.cell 1
            have y2 := B8.cell 2
            have y3 := B8.cell 3
            have hbl : bx < w6.heap.size := (HP3.out.on k6).box.lt
            have M7 := Blk.new w6 31 #[.slice a1 (n1) c1, .slice a2 n2 c2, .int .i64 lim]
            have m0 := M7.cell 0
            have m1 := M7.cell 1
            have m2 := M7.cell 2
            clear k6 k7 HP7 B7 B8 M7 HP3 HB3 
            go_upto_region 20 with fail
            generalize (w6.alloc (.cells #[.slice a1 (n1) c1, .slice a2 n2 c2, .int .i64 lim] 31)) = w7 at *
            generalize w6.heap.size = bn at *
            go_wp2_with fail
            clear x0 x1 x2 f0 f1 f2 y1 y2 y3 hbl m0 m1 m2
            generalize (((w7).setCell ⟨bx, 0, none⟩ (.slice a1 (n1) c1)).setCell ⟨bx, 1, none⟩ (.slice a2 n2 c2)).setCell ⟨bx, 2, none⟩ (.int .i64 lim) = w8 at *
            refine (add_full HP8.out.mem hfull hok).mono ?_
            rintro e w9 ⟨rfl, k9⟩
            have HP9 := Lib.hid (HP8.out.on k9)
            clear k9 HP8
            go_wp2_with fail
            have HQ1 := Lib.hid (show n1 ≤ j + 1 from by omega)
            have HQ2 := Lib.hid (show n2 ≤ j + 1 from by omega)
            have HOld2 := Lib.hid (show ∀ g ∈ gone, g ≤ ((n1 : Nat) : Int) from HOld.out)
            have HF := Lib.hid (fun W' (k : Kept Nil w9 W') => facts_any (c1 := c1) (c2 := c2) (HP9.out.inA.kept k) (HP9.out.inG.kept k) (by omega) (by omega) (lim : Int))
            have HLn := Lib.hid (fun W' (k : Kept Nil w9 W') => len_any (HP9.out.mem.keptN k))
            have HLs := Lib.hid (fun W' (k : Kept Nil w9 W') => last_any (HP9.out.mem.keptN k))
            have hqf : (inL (all) (gone)).length ≤ n1 := HP9.out.mem.len_le
            obtain ⟨q, hq⟩ : ∃ q, q = (inL (all) (gone)).length := ⟨_, rfl⟩
            rw [← hq] at HF HLn hqf
            clear hq
            have S0 := Lib.hid (show SeenM w9 bx (.slice a1 (n1) c1) (.slice a2 (n2) c2) (.int .i64 lim) w9.drew from ⟨HP9.out.box.cell 0, HP9.out.box.cell 1, HP9.out.box.cell 2, (Kept.refl _ _).drew⟩)
            go_region_held3 (SeenM w9 bx (.slice a1 (n1) c1) (.slice a2 (n2) c2) (.int .i64 lim))
              (first | (with_reducible assumption) | (with_reducible exact S0.out) | (with_reducible exact seenM_kept k7 (by with_reducible assumption)))
              (first
                | (go_at_call 15; refine (HF.out _ (seenM_k (by with_reducible assumption))).mono ?_; rintro e w7 ⟨a7, c7, rfl, r7, k7⟩)
                | (go_at_call 14; refine (HLn.out _ (seenM_k (by with_reducible assumption))).mono ?_; rintro e w8 ⟨rfl, rfl⟩)
                | (go_at_call 13; refine (HLs.out _ (seenM_k (by with_reducible assumption))).mono ?_; rintro e w9 ⟨rfl, rfl⟩))
            all_goals
              have hk := seenM_k (by with_reducible assumption)
              have HPE := Lib.hid (HP9.out.on hk)
              clear hk
              go_wp2_with fail
              go_roundw
              case rel => exact ⟨j + 1, n1, n2, all, gone, a1, a2, c1, c2, hlt, by go_num, HQ1.out, HQ2.out, HOld2.out, HPE.out⟩
              case measure => simp [intOf]; omega
          · have hbo : bo ≠ bx := HB3.out.ne HP3.out.box (by decide)
            refine (refAdd_good HP3.out.inA HP3.out.inG (by omega) (by omega) (lim := (lim : Int)) (by omega) hok).mono ?_
            rintro e w6 ⟨a6, c6, rfl, i6, n6, k6⟩
            have f6 : ∀ b, (Value.slice a6 (n1 + 1) c6).ownBlock = some b → ¬ MFoot p bm b ∧ b ≠ bx := fun b hb => HP3.out.new (n6 b hb)
            have k7 : Kept Nil w6 (w6.alloc (.cells #[.slice a6 (n1 + 1) c6, .slice a2 n2 c2, .int .i64 lim] 31)) := (Kept.refl _ _).alloc _
            have HP7 := (HP3.out.on k6).on k7
            have B7 := (HB3.out.kept k6 (fun e => e)).kept k7 (fun e => e)
            have B8 := B7.kept (kept3 (w6.alloc (.cells #[.slice a6 (n1 + 1) c6, .slice a2 n2 c2, .int .i64 lim] 31)) bx (.slice a6 (n1 + 1) c6) (.slice a2 n2 c2) (.int .i64 lim)) hbo
            have HP8 := Lib.hid (HP7.store (c3 := c6) (c4 := c2) (i6.kept k7) HP7.inG f6 HP7.farG)
            have x0 := HP7.box.cell 0
            have x1 := HP7.box.cell 1
            have x2 := HP7.box.cell 2
            have f0 := HP7.box.frozen 0
            have f1 := HP7.box.frozen 1
            have f2 := HP7.box.frozen 2
            have y1 := B8.cell 1
            have y2 := B8.cell 2
            have y3 := B8.cell 3
            have hbl : bx < w6.heap.size := (HP3.out.on k6).box.lt
            have M7 := Blk.new w6 31 #[.slice a6 (n1 + 1) c6, .slice a2 n2 c2, .int .i64 lim]
            have m0 := M7.cell 0
            have m1 := M7.cell 1
            have m2 := M7.cell 2
            clear k6 k7 HP7 B7 B8 M7 HP3 HB3 i6 n6 f6
            go_upto_region 20 with fail
            generalize (w6.alloc (.cells #[.slice a6 (n1 + 1) c6, .slice a2 n2 c2, .int .i64 lim] 31)) = w7 at *
            generalize w6.heap.size = bn at *
            go_wp2_with fail
            clear x0 x1 x2 f0 f1 f2 y1 y2 y3 hbl m0 m1 m2
            generalize (((w7).setCell ⟨bx, 0, none⟩ (.slice a6 (n1 + 1) c6)).setCell ⟨bx, 1, none⟩ (.slice a2 n2 c2)).setCell ⟨bx, 2, none⟩ (.int .i64 lim) = w8 at *
            have hno : ((n1 : Int) + 1, t).1 ∉ gone := fun hm => by have := HOld.out _ hm; dsimp only at this; omega
            refine (add_good HP8.out.mem (by omega) (by omega) hok).mono ?_
            rintro e w9 ⟨rfl, h9, k9⟩
            rw [← inL_snoc _ _ _ hno] at h9
            have HP9 := Lib.hid (HP8.out.act k9 h9)
            clear h9 hno k9 HP8
            go_wp2_with fail
            have HQ1 := Lib.hid (show n1 + 1 ≤ j + 1 from by omega)
            have HQ2 := Lib.hid (show n2 ≤ j + 1 from by omega)
            have HOld2 := Lib.hid (show ∀ g ∈ gone, g ≤ ((n1 + 1 : Nat) : Int) from (fun g hg => by have := HOld.out g hg; omega))
            have HF := Lib.hid (fun W' (k : Kept Nil w9 W') => facts_any (c1 := c6) (c2 := c2) (HP9.out.inA.kept k) (HP9.out.inG.kept k) (by omega) (by omega) (lim : Int))
            have HLn := Lib.hid (fun W' (k : Kept Nil w9 W') => len_any (HP9.out.mem.keptN k))
            have HLs := Lib.hid (fun W' (k : Kept Nil w9 W') => last_any (HP9.out.mem.keptN k))
            have hqf : (inL (all ++ [((n1 : Int) + 1, t)]) (gone)).length ≤ n1 + 1 := HP9.out.mem.len_le
            obtain ⟨q, hq⟩ : ∃ q, q = (inL (all ++ [((n1 : Int) + 1, t)]) (gone)).length := ⟨_, rfl⟩
            rw [← hq] at HF HLn hqf
            clear hq
            have S0 := Lib.hid (show SeenM w9 bx (.slice a6 (n1 + 1) c6) (.slice a2 (n2) c2) (.int .i64 lim) w9.drew from ⟨HP9.out.box.cell 0, HP9.out.box.cell 1, HP9.out.box.cell 2, (Kept.refl _ _).drew⟩)
            go_region_held3 (SeenM w9 bx (.slice a6 (n1 + 1) c6) (.slice a2 (n2) c2) (.int .i64 lim))
              (first | (with_reducible assumption) | (with_reducible exact S0.out) | (with_reducible exact seenM_kept k7 (by with_reducible assumption)))
              (first
                | (go_at_call 15; refine (HF.out _ (seenM_k (by with_reducible assumption))).mono ?_; rintro e w7 ⟨a7, c7, rfl, r7, k7⟩)
                | (go_at_call 14; refine (HLn.out _ (seenM_k (by with_reducible assumption))).mono ?_; rintro e w8 ⟨rfl, rfl⟩)
                | (go_at_call 13; refine (HLs.out _ (seenM_k (by with_reducible assumption))).mono ?_; rintro e w9 ⟨rfl, rfl⟩))
            all_goals
              have hk := seenM_k (by with_reducible assumption)
              have HPE := Lib.hid (HP9.out.on hk)
              clear hk
              go_wp2_with fail
              go_roundw
              case rel => exact ⟨j + 1, n1 + 1, n2, all ++ [((n1 : Int) + 1, t)], gone, a6, a2, c6, c2, hlt, by go_num, HQ1.out, HQ2.out, HOld2.out, HPE.out⟩
              case measure => simp [intOf]; omega
    · have HOld2 := HOld
      have hqf : (inL all gone).length ≤ n1 := HP.out.mem.len_le
      have z0 := HP.out.box.cell 0
      have z1 := HP.out.box.cell 1
      have z2 := HP.out.box.cell 2
      clear HOld HOld2
      go_wp2_with fail
      clear z0 z1 z2
      go_loopw [21] (fun i wr' => ∃ z : Int, -1 ≤ z ∧ z ≤ (n1 : Int) + 2 ∧ i = .int .i64 z ∧ Kept Nil wr wr') (fun i _ => ((n1 : Int) + 2 - intOf i).toNat)
      case atStart => exact ⟨-1, by omega, by omega, rfl, Kept.refl _ _⟩
      case round =>
        obtain ⟨z, hz1, hz2, rfl, hk⟩ := hrel
        rename World => w3
        have HP3 := Lib.hid (HP.out.on hk)
        have HK3 := Lib.hid hk
        have z0 := HP3.out.box.cell 0
        have z1 := HP3.out.box.cell 1
        have z2 := HP3.out.box.cell 2
        have hzw : (Lit.int .i64 z).wf = true := wf_i64 (by omega)
        clear hk
        by_cases hlt2 : z ≤ (n1 : Int) + 1
        · have hg := get_any HP3.out.mem hzw
          have hg2 := fun W (k : Kept Nil w3 W) => refGet_any (c1 := c1) (c2 := c2) (HP3.out.inA.kept k) (HP3.out.inG.kept k) (by omega) (by omega) (lim : Int) z
          unfold GetEnd at hg hg2
          obtain ⟨s, hs⟩ : ∃ s, s = (look (inL all gone) z).getD zeroT := ⟨_, rfl⟩
          obtain ⟨β, hβ⟩ : ∃ β, β = (look (inL all gone) z).isSome := ⟨_, rfl⟩
          rw [← hs, ← hβ] at hg
          simp only [← hs, ← hβ] at hg2
          have HG := Lib.hid hg
          have HG2 := Lib.hid hg2
          clear hs hβ hg hg2
          go_wp2_with fail
          refine HG.out.mono ?_
          rintro e w4 ⟨rfl, k4⟩
          have k5 : Kept Nil w4 (w4.alloc (.cells #[.int .i64 s.1, .int .i64 s.2.1, .int .i64 s.2.2] 33)) := (Kept.refl _ _).alloc _
          have HV5 := Lib.hid (Blk.new w4 33 #[.int .i64 s.1, .int .i64 s.2.1, .int .i64 s.2.2])
          have HK5 := Lib.hid (k4.trans k5 (fun _ _ e => e))
          have b5 := HP3.out.box.kept HK5.out (fun e => e)
          have z0' := b5.cell 0
          have z1' := b5.cell 1
          have z2' := b5.cell 2
          clear k4 k5 b5 HG
          go_wp2_with fail
          clear z0 z1 z2 z0' z1' z2'
          generalize w4.alloc (.cells #[.int .i64 s.1, .int .i64 s.2.1, .int .i64 s.2.2] 33) = w5 at *
          generalize w4.heap.size = bv at *
          refine (HG2.out _ HK5.out).mono ?_
          rintro e w6 ⟨rfl, k6⟩
          have k7 : Kept Nil w6 (w6.alloc (.cells #[.int .i64 s.1, .int .i64 s.2.1, .int .i64 s.2.2] 32)) := (Kept.refl _ _).alloc _
          have V7 := (HV5.out.kept k6 (fun e => e)).kept k7 (fun e => e)
          have HK7 := Lib.hid ((HK3.out.trans HK5.out (fun _ _ e => e)).trans (k6.trans k7 (fun _ _ e => e)) (fun _ _ e => e))
          have v0 := V7.cell 0
          have v1 := V7.cell 1
          have v2 := V7.cell 2
          have heq := fun W : World => eqT_at Try.underlying33 s s W
          simp only [decide_true] at heq
          have hbb : (β != β) = false := bne_self_eq_false β
          clear k6 k7 V7 HG2 HK5 HV5 HP3 HK3
          go_wp2_with fail
          go_roundw
          case rel => exact ⟨z + 1, by omega, by omega, by go_num, HK7.out⟩
          case measure => simp [intOf]; omega
        · clear HP
          obtain ⟨q, hq⟩ : ∃ q, q = (inL all gone).length := ⟨_, rfl⟩
          have hq5 : q ≤ 5000 := by omega
          have HF := Lib.hid (fun W' (k : Kept Nil w3 W') => facts_any (c1 := c1) (c2 := c2) (HP3.out.inA.kept k) (HP3.out.inG.kept k) (by omega) (by omega) (lim : Int))
          have HL := Lib.hid (fun W' (k : Kept Nil w3 W') => all_any (HP3.out.mem.keptN k))
          unfold AllEnd at HL
          rw [← hq] at HF HL hqf
          have HKW := Lib.hid HP3.out.kept
          have S0 := Lib.hid (show SeenM w3 bx (.slice a1 n1 c1) (.slice a2 n2 c2) (.int .i64 lim) w3.drew from ⟨HP3.out.box.cell 0, HP3.out.box.cell 1, HP3.out.box.cell 2, (Kept.refl _ _).drew⟩)
          clear hq
          go_wp2_with fail
          clear z0 z1 z2
          go_region_held3 (SeenM w3 bx (.slice a1 n1 c1) (.slice a2 n2 c2) (.int .i64 lim))
            (first | (with_reducible assumption) | (with_reducible exact S0.out) | (with_reducible exact seenM_kept k10 (by with_reducible assumption)) | (with_reducible exact seenM_kept k9 (by with_reducible assumption)) | (with_reducible exact seenM_kept k8 (by with_reducible assumption)) | (with_reducible exact seenM_kept k7 (by with_reducible assumption)))
            (first
              | (go_at_call 18; refine (HL.out _ (seenM_k (by with_reducible assumption))).mono ?_; rintro e w7 ⟨a7, c7, rfl, h7, k7⟩; first | (have h8' := h8.kept k7) | skip)
              | (go_at_call 15; refine (HF.out _ (seenM_k (by with_reducible assumption))).mono ?_; rintro e w8 ⟨a8, c8, rfl, r8, k8⟩; have h8 := r8.toIn encF_len (by decide); first | (have h7' := h7.kept k8) | skip)
              | (go_at_call 17; (first | (with_reducible refine (same_any h7' h8 hq5).mono ?_) | (with_reducible refine (same_any h7 h8' hq5).mono ?_)); rintro e w9 ⟨rfl, k9⟩)
              | (go_at_call 6; refine (HA.out _).mono ?_; rintro e w10 ⟨rfl, k10⟩))
          all_goals
            have hk := seenM_k (by with_reducible assumption)
            have HKE := Lib.hid (HKW.out.trans hk (fun _ _ e => e))
            clear hk
            go_wp2_with fail
            go_ret
            exact ⟨rfl, HKE.out⟩
end Go.Proofs.Ytgnpclcoinndpaa
