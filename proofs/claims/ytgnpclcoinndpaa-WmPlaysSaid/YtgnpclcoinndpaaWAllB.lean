/- A memory of facts: the walk of All. -/
import Derived.Test.YtgnpclcoinndpaaWAll
import Derived.Sort.OwnSorted
namespace Go.Proofs.Ytgnpclcoinndpaa
open Go.RowKit Go.Maps Go.Shelf Go.Sort
set_option maxRecDepth 100000

theorem Try.infoF : (Try.prog.info? 60).map (fun i => (i.zero, i.size, i.bytes)) = some (some (.agg #[.int .i64 0, .int .i64 0, .int .i64 0, .int .i64 0]), 4, 32) := by kernel_rfl
theorem elsF : Els Try.prog 51 60 4 := Els.of Try.underlying51 Try.infoF rfl (by decide) (by decide)
theorem sortNil (fv : Value) (w : World) : Calls Try.prog 22 #[.slice none 0 0, fv] w fun e w' => e = .returned (.tuple #[]) ∧ w' = w := by
  have h := AnyF.slices_SortFunc_none (P := Try.prog) (ρ := Try.sortF_ren) { Try.sortF with } none 0 fv w
  change Calls Try.prog 22 _ _ _ at h
  exact h

/-- The triple of each id, whatever it is where there is none. -/
def fOf (l : List F4) (k : Int) : T3 := (look l k).getD zeroT
/-- The ids that the walk over the map has come by. -/
def Got (l : List F4) (left : Lit → Bool) (ss : List Int) : Prop := ss.Nodup ∧ ∀ k, k ∈ ss ↔ ((look l k).isSome = true ∧ left (.int .i64 k) = false)
theorem Got.start {D : DataW Unit} {l : List F4} (h : MapL D l) : Got l (Maps.has D) [] := ⟨List.nodup_nil, fun k => by rw [h.has]; cases look l k <;> simp⟩
theorem Got.step {l : List F4} {left : Lit → Bool} {ss : List Int} (h : Got l left ss) {k : Int} (hl : left (.int .i64 k) = true) (hk : (look l k).isSome = true) : Got l (fun z => left z && !z.sameKey (.int .i64 k)) (ss ++ [k]) := by
  have hno : k ∉ ss := fun hm => by have := ((h.2 k).1 hm).2; rw [hl] at this; cases this
  have hs : ∀ j : Int, (Lit.int .i64 j).sameKey (.int .i64 k) = decide (j = k) := fun j => by
    by_cases e : j = k
    · subst e; simp [Lit.sameKey]
    · rw [sameKey_ne (int_ne e)]; simp [e]
  refine ⟨?_, fun j => ?_⟩
  · rw [List.nodup_append]
    refine ⟨h.1, by simp, fun a ha b hb e => ?_⟩
    rw [List.mem_singleton.1 hb] at e
    exact hno (e ▸ ha)
  · rw [List.mem_append, List.mem_singleton, h.2 j]
    simp only [hs]
    by_cases e : j = k
    · subst e; simp [hk]
    · simp [e]
/-- The sorted ids with their triples are the facts. -/
theorem sorted_facts {l : List F4} (hr : Rise l) {left : Lit → Bool} {ss : List Int} (h : Got l left ss) (hl : ∀ k, left k = false) : (ss.mergeSort fun x y => !(ltOf cmp1) y x).map (fun k => (k, fOf l k)) = l := by
  have hperm := List.mergeSort_perm ss (fun x y => !(ltOf cmp1) y x)
  have hsort := List.pairwise_mergeSort (le := fun x y => !(ltOf cmp1) y x) (fun a b c h1 h2 => by
    simp only [Bool.not_eq_true'] at *
    exact swo1.ntrans c b a h2 h1) (fun a b => by
    simp only [ltOf_cmp]
    by_cases e : b < a
    · have : ¬ a < b := by omega
      simp [this]
    · simp [e]) ss
  have hnd : (ss.mergeSort fun x y => !(ltOf cmp1) y x).Nodup := hperm.nodup_iff.2 h.1
  refine rise_eq ?_ hr (fun x => ?_)
  · unfold Rise
    rw [List.pairwise_map]
    refine (hsort.and hnd).imp (fun {a b} h => ?_)
    obtain ⟨ha, hne⟩ := h
    simp only [Bool.not_eq_true', ltOf_cmp, decide_eq_false_iff_not] at ha
    show a < b
    omega
  · rw [List.mem_map]
    constructor
    · rintro ⟨k, hk, rfl⟩
      have h1 := ((h.2 k).1 (hperm.mem_iff.1 hk)).1
      obtain ⟨t, ht⟩ := Option.isSome_iff_exists.1 h1
      unfold fOf
      rw [ht]
      exact look_mem ht
    · intro hx
      have h1 := look_of_mem hr hx
      refine ⟨x.1, hperm.mem_iff.2 ((h.2 x.1).2 ⟨by rw [h1]; rfl, hl _⟩), ?_⟩
      unfold fOf
      rw [h1]; rfl
/-- All's answer: the facts. -/
def AllEnd (l : List F4) (w : World) (e : Ending) (w' : World) : Prop := ∃ a cap, e = .returned (.slice a l.length cap) ∧ In encF 4 w' a l.length l ∧ Kept Nil w w'
theorem in_facts {w : World} {a : Option Addr} {n : Nat} {f : Int → T3} {ss : List Int} {l : List F4} (h : In (encG f) 4 w a n ss) (hl : ss.map (fun k => (k, f k)) = l) : In encF 4 w a n l := by
  subst hl
  refine ⟨by rw [List.length_map]; exact h.1, h.2.imp id fun ⟨b, off, e, hb, hc⟩ => ⟨b, off, e, hb, fun j x i v hj hi => ?_⟩⟩
  rw [List.getElem?_map] at hj
  cases hs : ss[j]? with
  | none => rw [hs] at hj; cases hj
  | some k =>
    rw [hs] at hj
    simp at hj
    subst hj
    exact hc j k i v hs hi

set_option maxHeartbeats 4000000 in
theorem all_any {w : World} {B p bm last limit : Nat} {l : List F4} (h : Mem w B p bm l last limit) :
    Calls Try.prog 18 #[.pointer (some ⟨p, 0, none⟩)] w (AllEnd l w) := by
  have c0 := h.cell0
  have hfew := h.few
  have hrise := Lib.hid h.rise
  obtain ⟨D, ho, hD⟩ := h.mp
  have hsz := ho.size_le
  have HD := Lib.hid hD
  have hbl := ho.lt
  clear h hD
  go_enter Try.func18, Try.ntmps18
  go_wp2_with (at_range; refine wpList_range_own _ rfl _ 58 rfl 3 33 lawK Try.underlying58 _ bm _ _ rfl ho ?_; intro w0 hrg0 hg0 hs0)
  have k0 : Kept Nil w w0 := (Kept.refl _ _).grown hg0 (fun _ e => by cases e)
  clear hg0 hs0 c0
  go_frame
  go_loopw [3] (fun v wr => ∃ (left : Lit → Bool) (c n : Nat) (ss : List Int) (a' : Option Addr) (c' : Nat), v = .slice a' n c' ∧ n = ss.length ∧ wr.ranges Try.prog 3 tripE bm w.heap.size last D left c ∧ ss.length + c ≤ last ∧
    Row (encG (fOf l)) 60 4 wr w.heap.size (.slice a' n c') ss ∧ Got l left ss ∧ Kept Nil w wr) (fun _ wr => wr.rangeLeft bm w.heap.size)
  case atStart => exact ⟨_, _, 0, [], none, 0, rfl, rfl, hrg0, by simpa using hsz, Row.nil _ _, Got.start HD.out, k0⟩
  case round =>
    clear hrg0 k0
    obtain ⟨left, c, n, ss, a', c', rfl, hn, hrg, hcs, hrow, hG, hk⟩ := hrel
    have HRow := Lib.hid hrow
    have HG := Lib.hid hG
    have HK := Lib.hid hk
    have HN := Lib.hid hn
    clear hrow hG hk hn
    go_wp2_with (at_next; refine wpList_next_ranges _ rfl _ rfl 3 lawK tripE (Value.int .i64) arr (fun key kl hk => by obtain ⟨x, hx, _⟩ := Maps.keyOf_int_inv Try.underlying3 hk; exact ⟨x, hx⟩) (fun v y hv => by obtain ⟨t, rfl, _⟩ := tripE_inv hv; exact ⟨t, rfl⟩) bm w.heap.size last _ _ _ rfl hrg ?_ ?_)
    · intro hc0 hl0
      have HF := Lib.hid (sorted_facts hrise.out HG.out hl0)
      have hcap := HRow.out.shape
      have hn2 := HN.out
      clear hrg hl0 hc0
      rcases HRow.out.2 with ⟨e1, e0⟩ | ⟨g, cap, cur, e1, hbase, hbb, _⟩
      · cases e1
        obtain rfl : ss = [] := List.length_eq_zero_iff.1 e0
        have hl : l = [] := by rw [← HF.out]; simp
        subst hl
        clear hcap e0 hn2
        go_wp2_with (go_at_call 22; refine (sortNil _ _).mono ?_; rintro e w1 ⟨rfl, rfl⟩)
        go_ret
        exact ⟨none, 0, rfl, ⟨rfl, .inl rfl⟩, HK.out⟩
      · cases e1
        obtain ⟨_, _, e3⟩ := hcap
        cases e3
        have hgl : g < wr.heap.size := (Array.getElem?_eq_some_iff.1 hbb).1
        have eg : ∀ args w, (callFunc 23 args).run Try.prog w = .ok (.enter 23 args) w := enters_of Try.func23 (by kernel_rfl) rfl
        have hH := HRow.out.holdsK (encG_len _) (by decide)
        have hcon := AnyQ.slices_SortFunc_total Try.sortF 4 Try.isAgg60 Try.sizeOf60 (encG (fOf l)) (fun _ => rfl) (encG_one _) cmp1 swo1 23 #[] g 0 c' ss.toArray wr eg (cmpLays1 (fOf l) g 0 _ wr) hH hgl (by simp; omega) tot1
        change Calls Try.prog 22 _ _ _ at hcon
        rw [show ss.toArray.size = ss.length from by simp] at hcon
        have HS := Lib.hid hcon
        have HH := Lib.hid hH
        have hlen : ss.length = l.length := by
          have := congrArg List.length HF.out
          rw [List.length_map, (List.mergeSort_perm ss _).length_eq] at this
          exact this
        have HL := Lib.hid hlen
        have HGL := Lib.hid hgl
        have HB := Lib.hid hbase
        clear hcon eg hH hbb hgl hlen hbase hn2
        go_wp2_with (go_at_call 22; refine HS.out.mono ?_; rintro e w1 ⟨rfl, nn, os, rfl⟩)
        go_ret
        have hd := holdsK_sortWorldK_c (encG (fOf l)) 4 wr g 0 ss.toArray (ss.mergeSort fun x y => !(ltOf cmp1) y x).toArray nn os HH.out HGL.out (by simp)
        have hk3 := kept_sortWorld (cells := encG (fOf l)) (size := 4) wr g nn (ss.mergeSort fun x y => !(ltOf cmp1) y x).toArray os
        have hin := in_facts (in_of_holdsK hd (Nat.lt_of_lt_of_le HGL.out hk3.size) (encG_len _)) HF.out
        rw [show (ss.mergeSort fun x y => !(ltOf cmp1) y x).toArray.size = l.length from by simp [HL.out]] at hin
        refine ⟨some ⟨g, 0, none⟩, c', by rw [← HL.out]; rfl, hin, HK.out.trans hk3 (fun i hi e => ?_)⟩
        have := HB.out
        omega
    · intro x t1 t2 t3 kl y ps w2 cnt2 hkey hlk hv hat hrg2 hlt hg2 hs2 hen
      obtain ⟨x', ex, rfl, hwx⟩ := Maps.keyOf_int_inv Try.underlying3 hkey
      cases ex
      obtain ⟨t', et, ey⟩ := tripE_inv hv
      obtain rfl : (t1, t2, t3) = t' := by
        have := tripE_mk (t1, t2, t3)
        rw [hv] at this
        injection this with this
        rw [ey] at this
        exact d3_inj (congrArg Prod.fst this).symm
      obtain rfl : y = d3 (t1, t2, t3) := congrArg Prod.fst ey
      have hfo : look l x = some (t1, t2, t3) := by
        cases hx : look l x with
        | none =>
          have h1 := HD.out.has x
          rw [has_true_of_atKey hat, hx] at h1
          cases h1
        | some s =>
          have h1 := HD.out.get x s hx .nil
          rw [hat] at h1
          rw [d3_inj h1]
      have hft : encG (fOf l) x = [.int .i64 x, .int .i64 t1, .int .i64 t2, .int .i64 t3] := by unfold encG fOf; rw [hfo]; rfl
      have HStep := Lib.hid (HG.out.step hlk (by rw [hfo]; rfl))
      have k2 : Kept Nil w w2 := HK.out.grown hg2 (fun j e => .inr (by cases e; exact Nat.le_refl _))
      have row2 : Row (encG (fOf l)) 60 4 w2 w.heap.size (.slice a' n c') ss := World.ownsRow.kept HRow.out hg2 (Or.inr (row_ne_iter HRow.out hrg).symm)
      have k3 : Kept Nil w2 (w2.alloc (.cells #[.int .i64 t1, .int .i64 t2, .int .i64 t3] 33)) := (Kept.refl _ _).alloc _
      have hsz3 : (w2.alloc (.cells #[.int .i64 t1, .int .i64 t2, .int .i64 t3] 33)).heap.size = w2.heap.size + 1 := by simp
      have hsl : ss.length ≤ 5000 := by omega
      obtain ⟨a4, c4, w4, r4, o4, k4, f4⟩ := Row.push (w := w) elsF (encG_len (fOf l)) (encG_one (fOf l)) 51 (k2.trans k3 (fun _ _ e => e)) (row2.keptN k3) HN.out hsl x #[.int .i64 x, .int .i64 t1, .int .i64 t2, .int .i64 t3] (by rw [hft])
      rw [hsz3] at r4
      have hrg4 := ((hrg2.alloc (.cells #[.int .i64 t1, .int .i64 t2, .int .i64 t3] 33))).kept (w' := w4) (row := (Value.slice a' n c').ownBlock) ⟨f4.os, f4.tape, f4.output, f4.size, fun i hi e => f4.block i hi (fun e2 => e e2.symm)⟩ (row_ne_low row2 hbl) (row_ne_iter row2 hrg2)
      have HR4 := Lib.hid hrg4
      have R4 := Lib.hid r4
      have O4 := Lib.hid o4
      have K4 := Lib.hid k4
      have HN4 := Lib.hid (show n + 1 = (ss ++ [x]).length from by rw [List.length_append, HN.out]; rfl)
      have HCS := Lib.hid (show (ss ++ [x]).length + cnt2 ≤ last from by rw [List.length_append]; show ss.length + 1 + cnt2 ≤ last; omega)
      have HM := Lib.hid (show w4.rangeLeft bm w.heap.size < wr.rangeLeft bm w.heap.size from by rw [hrg4.left_eq, hrg.left_eq]; exact hlt)
      clear hv hkey et hs2 hg2 ey hrg4 r4 o4 k4 f4 k2 k3 row2 hrg hft hfo hsz3 hsl
      unfold arr at hen ⊢
      dsimp only at hen ⊢
      go_wp2_with (at_builtin; refine wpList_append_run rfl (.tmp 16) (.tmp 20) 51 rfl _ _ rfl rfl R4.out ?_)
      go_roundw
      case rel => exact ⟨_, cnt2, n + 1, ss ++ [x], a4, c4, rfl, HN4.out, HR4.out, HCS.out, O4.out, HStep.out, K4.out⟩
      case measure => exact HM.out
#print axioms all_any
end Go.Proofs.Ytgnpclcoinndpaa
