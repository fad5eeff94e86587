/- Keys of a tally of strings: what is wanted, each once, rising by bytes. -/
import Derived.Test.YtjnknbegapofiaaNsB
import Derived.Test.YtjnknbegapofiaaNRef
import Derived.Test.YtjnknbegapofiaaNShelf
import Derived.Maps.RangeWalk
import Derived.Sort.KeysCollected
import Derived.Sort.OwnSorted
namespace Go.Proofs.Ytjnknbegapofiaa
open Go.RowKit Go.Maps Go.WideMaps Go.Shelf Go.Sort
set_option maxRecDepth 100000

theorem Cnt.has_iff {P : Program} {κ : Type} [DecidableEq κ] {K : KT P κ} {D : DataW Unit} {l : List κ} (h : Cnt K D l) {k : κ} (hk : K.ok k) : Maps.has D (K.lit k) = true ↔ k ∈ l := by
  rw [h.has k hk]; simp

/-! ### compare -/
def cmpB (x y : List UInt8) : Int := if Op.bytesLess x y = true then -1 else if x = y then 0 else 1
theorem mk_toList (x : List UInt8) : (ByteArray.mk x.toArray).toList = x := by rw [ByteArray.toList_eq]
theorem compare_any (x y : List UInt8) (w : World) : Calls Try.prog 14 #[encStr x, encStr y] w fun e w' => e = .returned (.int .i64 (cmpB x y)) ∧ w' = w := by
  have ex := mk_toList x
  have ey := mk_toList y
  cases h : Op.bytesLess x y with
  | true =>
    have hc : cmpB x y = -1 := by unfold cmpB; rw [if_pos h]
    rw [hc]
    clear hc
    go_enter Try.func14, Try.ntmps14
    go_wp2
    go_ret
    exact ⟨rfl, rfl⟩
  | false =>
    by_cases e : x = y
    · have hc : cmpB x y = 0 := by unfold cmpB; rw [if_neg (by rw [h]; simp), if_pos e]
      rw [hc]
      subst e
      clear hc
      go_enter Try.func14, Try.ntmps14
      go_wp2
      go_ret
      exact ⟨rfl, rfl⟩
    · have hc : cmpB x y = 1 := by unfold cmpB; rw [if_neg (by rw [h]; simp), if_neg e]
      rw [hc]
      have he : (x == y) = false := by rw [beq_eq_false_iff_ne]; exact e
      clear hc e
      go_enter Try.func14, Try.ntmps14
      go_wp2
      go_ret
      exact ⟨rfl, rfl⟩
theorem ltOf_cmp (x y : List UInt8) : ltOf cmpB x y = Op.bytesLess x y := by
  unfold ltOf cmpB
  cases h : Op.bytesLess x y with
  | true => simp
  | false =>
    rw [if_neg (by simp)]
    split <;> simp
theorem swoB : SWO (ltOf cmpB) where
  irrefl x := by rw [ltOf_cmp]; exact bytes_irrefl x
  trans x y z h1 h2 := by rw [ltOf_cmp] at *; exact bytes_trans _ _ _ h1 h2
  ntrans x y z h1 h2 := by
    rw [ltOf_cmp] at *
    cases h : Op.bytesLess x z with
    | false => rfl
    | true =>
      have e1 : x ≠ y := fun e => by subst e; rw [h] at h2; cases h2
      have l1 := (bytes_total x y e1).resolve_left (by rw [h1]; simp)
      have := bytes_trans _ _ _ l1 h
      rw [this] at h2; cases h2
theorem totB (x y : List UInt8) (h1 : ltOf cmpB x y = false) (h2 : ltOf cmpB y x = false) : x = y := by
  rw [ltOf_cmp] at h1 h2
  refine Classical.byContradiction fun e => ?_
  rcases bytes_total x y e with h | h
  · rw [h] at h1; cases h1
  · rw [h] at h2; cases h2
theorem cmpLays (blk off size : Nat) (w : World) : CmpLays1 Try.prog 14 #[] encStr cmpB blk off size w := fun m os dk _ x y => by
  refine (compare_any x y _).mono ?_
  rintro e w' ⟨he, rfl⟩
  exact ⟨he, 0, #[], by rw [grow_empty]; rfl⟩

/-- The deferred closure of a frame that returns: recover finds nothing. -/
theorem keysD_s (w : World) :
    CallsD Try.prog 33 #[] .returning w fun e u' w' => e = .returned (.tuple #[]) ∧ u' = .returning ∧ w' = w := by
  refine callsD_of_wpS Try.func33 rfl fun c₀ cs hu => ?_
  apply wpS_region
  simp [wpOpsS, go_sem, recoverD, hu, Try.ntmps33]
  cases c₀
  simp_all [bodyPostS, results, Try.results33]

theorem sortNil_s (fv : Value) (w : World) : Calls Try.prog 34 #[.slice none 0 0, fv] w fun e w' => e = .returned (.tuple #[]) ∧ w' = w := by
  have h := AnyF.slices_SortFunc_none (P := Try.prog) (ρ := Try.sortS_ren) { Try.sortS with } none 0 fv w
  change Calls Try.prog 34 _ _ _ at h
  exact h

def mkB (x : List UInt8) : ByteArray := ⟨x.toArray⟩
/-- Keys' answer: the names, rising. -/
def KeysEnd (l : List ByteArray) (w : World) (e : Ending) (w' : World) : Prop := ∃ v ss, e = .returned v ∧ Row w' w.heap.size v ss ∧ ss.Pairwise bl ∧ (∀ x, x ∈ ss ↔ x ∈ l) ∧ Kept Nil w w'

/-- Behind the sort: the row has the sorted names. -/
theorem sorted_end {w wr : World} {g cap nn : Nat} {os : Array Obj} {ss : List (List UInt8)} {l : List ByteArray} (hk : Kept Nil w wr) (hrow : wr.ownsRow w.heap.size 9 1 (.slice (some ⟨g, 0, none⟩) ss.length cap) ss.length (ss.map encStr))
    (hnd : ss.Nodup) (hm : ∀ x, mkB x ∈ l ↔ x ∈ ss) : KeysEnd l w (.returned (.slice (some ⟨g, 0, none⟩) ss.length cap)) (sortWorld encStr wr g 0 nn (ss.mergeSort fun x y => !(ltOf cmpB) y x).toArray os) := by
  rcases hrow.2 with ⟨e, _⟩ | ⟨g', cap', cur, e, hbase, hb, h1, h2, h3, h4⟩
  · cases e
  cases e
  have hperm := List.mergeSort_perm ss (fun x y => !(ltOf cmpB) y x)
  have hlen : (ss.mergeSort fun x y => !(ltOf cmpB) y x).length = ss.length := hperm.length_eq
  have hsort := List.pairwise_mergeSort (le := fun x y => !(ltOf cmpB) y x) (fun a b c h1 h2 => by
    simp only [Bool.not_eq_true'] at *
    exact swoB.ntrans c b a h2 h1) (fun a b => by
    simp only [ltOf_cmp]
    cases h : Op.bytesLess b a with
    | false => rfl
    | true => rw [bytes_asymm h]; rfl) ss
  have hnd2 : (ss.mergeSort fun x y => !(ltOf cmpB) y x).Nodup := hperm.nodup_iff.2 hnd
  have hrise : ((ss.mergeSort fun x y => !(ltOf cmpB) y x).map mkB).Pairwise bl := by
    rw [List.pairwise_map]
    refine (hsort.and hnd2).imp (fun {a b} h => ?_)
    obtain ⟨ha, hne⟩ := h
    simp only [Bool.not_eq_true', ltOf_cmp] at ha
    show Op.bytesLess (mkB a).toList (mkB b).toList = true
    unfold mkB
    rw [mk_toList, mk_toList]
    exact (bytes_total a b hne).resolve_right (by rw [ha]; simp)
  refine ⟨_, (ss.mergeSort fun x y => !(ltOf cmpB) y x).map mkB, rfl, ?_, hrise, fun x => ?_, hk.grown (grownBy_sorted _) (fun k e => .inr (by cases e; exact hbase))⟩
  · have := ownsRow_sorted (w := wr) (base := w.heap.size) (g := g) (cap := cap) (n := nn) (os := os) (ss := ss) hlen hbase hb h1 h2 h3
    unfold Row
    rw [List.length_map, hlen, List.map_map]
    exact this
  · rw [List.mem_map]
    refine ⟨fun ⟨a, ha, e⟩ => by rw [← e, hm]; exact hperm.mem_iff.1 ha, fun hx => ?_⟩
    obtain ⟨a, rfl⟩ : ∃ a, mkB a = x := ⟨x.toList, by apply toList_inj; unfold mkB; rw [mk_toList]⟩
    exact ⟨a, hperm.mem_iff.2 ((hm a).1 hx), rfl⟩

theorem okB (x : List UInt8) : KS.ok (mkB x) ↔ x.length ≤ maxLen := Iff.rfl
theorem litB (x : List UInt8) : KS.lit (mkB x) = .string x := rfl

set_option maxHeartbeats 4000000 in
theorem keys_s {w : World} {B p : Nat} {m : Value} {l : List ByteArray} (h : Tals w B p m l) :
    Calls Try.prog 13 #[.pointer (some ⟨p, 0, none⟩), .func (.func 14) #[] #[]] w (KeysEnd l w) := by
  have c0 := h.cell0
  have hlen := h.len
  have HOk := Lib.hid h.ok
  rcases h.mp with ⟨rfl, rfl⟩ | ⟨bm, D, rfl, hb, ho, hc⟩
  · clear h
    have hrg := run_range_nilMap (P := Try.prog) w 56 9 3 Try.underlying56
    have hnx : ∀ ty, (Instr.next (.pointer (some ⟨w.heap.size, 0, none⟩)) false ty).run Try.prog (w.alloc (.mapIter none 0 #[] 0)) = _ := fun ty => run_next_nilMap w ty 0 0 #[]
    go_enter_defers Try.func13, Try.ntmps13
    go_wp2
    refine wp_loop_rounds 1 ?_
    rw [rounds_succ]
    go_wp2_with (go_at_call 34; refine (sortNil_s _ _).mono ?_; rintro e w1 ⟨rfl, rfl⟩)
    refine leaves_cons (f := 33) (args := #[]) (by simp) (by simp [go_sem]) ?_
    refine (keysD_s _).mono ?_
    rintro e u' w'' ⟨rfl, rfl, rfl⟩
    simp [Leaves, settle, results, Try.results13, go_sem]
    exact ⟨_, [], rfl, Row.nil _ _, List.Pairwise.nil, fun _ => Iff.rfl, (Kept.refl _ _).alloc _⟩
  · obtain ⟨i0, hi, hz0, hz1, hz2⟩ := info_parts Try.infoStr
    have hsz := hc.size_le
    have HC := Lib.hid hc
    have hbl := ho.lt
    clear h hc
    go_enter_defers Try.func13, Try.ntmps13
    go_wp2_with (at_range; refine wpList_range_own _ rfl _ 56 rfl 9 3 KS.keyed Try.underlying56 _ bm _ _ rfl ho ?_; intro w0 hrg0 hg0 hs0)
    have k0 : Kept Nil w w0 := (Kept.refl _ _).grown hg0 (fun _ e => by cases e)
    clear hg0 hs0
    go_frame
    go_loopw [5] (fun v wr => ∃ (left : Lit → Bool) (c : Nat) (ss : List (List UInt8)), wr.ranges Try.prog 9 (plainElem Try.prog 3) bm w.heap.size l.length D left c ∧ ss.length + c ≤ l.length ∧
      wr.ownsRow w.heap.size 9 1 v ss.length (ss.map encStr) ∧ Collected D left ss ∧ Kept Nil w wr) (fun _ wr => wr.rangeLeft bm w.heap.size)
    case atStart => exact ⟨_, _, [], hrg0, by simpa using hsz, World.ownsRow_nil _ _ _ _, Collected.start D, k0⟩
    case round =>
      clear hrg0 k0
      obtain ⟨left, c, ss, hrg, hcs, hrow, hC, hk⟩ := hrel
      go_wp2_with (at_next; refine wpList_next_ranges _ rfl _ rfl 9 KS.keyed (plainElem Try.prog 3) encStr (Value.int .i64) (fun key kl hk => by obtain ⟨x, hx, _⟩ := Maps.keyOf_str Try.underlying9 hk; exact ⟨x, hx⟩) (fun v y hv => by obtain ⟨c, rfl, _⟩ := plainElem_int_inv Try.underlying3 hv; exact ⟨c, rfl⟩) bm w.heap.size l.length _ _ _ rfl hrg ?_ ?_)
      · intro hc0 hl0
        have hmem : Hid (∀ x, mkB x ∈ l ↔ x ∈ ss) := fun x => by
          rw [hC.2 x, hl0]
          by_cases hx : x.length ≤ maxLen
          · have e : Maps.has D (.string x) = true ↔ mkB x ∈ l := HC.out.has_iff (k := mkB x) hx
            exact ⟨fun hm => ⟨e.2 hm, rfl⟩, fun hm => e.1 hm.1⟩
          · refine ⟨fun hm => absurd (HOk.out _ hm) hx, fun hm => ?_⟩
            exfalso
            have hin := (hC.2 x).2 ⟨hm.1, hl0 _⟩
            have h2 := hC.perm ho KS.keyed Try.underlying9 hl0
            exact hx (strKeys_le ho Try.underlying9 x (h2.mem_iff.1 hin))
        have HND := Lib.hid hC.1
        have HRow := Lib.hid hrow
        have HK := Lib.hid hk
        rcases hrow.2 with ⟨rfl, h0⟩ | ⟨g, cap, cur, rfl, hbase, hbb, h1, h2, h3, h4⟩
        · obtain rfl : ss = [] := List.length_eq_zero_iff.1 h0
          clear hrow hC hcs hrg hk
          go_wp2_with (go_at_call 34; refine (sortNil_s _ _).mono ?_; rintro e w1 ⟨rfl, rfl⟩)
          refine leaves_cons (f := 33) (args := #[]) (by simp) (by simp [go_sem]) ?_
          refine (keysD_s _).mono ?_
          rintro e u' w'' ⟨rfl, rfl, rfl⟩
          simp [Leaves, settle, results, Try.results13, go_sem]
          refine ⟨_, [], rfl, Row.nil _ _, List.Pairwise.nil, fun x => ?_, HK.out⟩
          obtain ⟨a, rfl⟩ : ∃ a, mkB a = x := ⟨x.toList, by apply toList_inj; unfold mkB; rw [mk_toList]⟩
          rw [hmem.out a]
          simp
        · have hH : Holds encStr wr g 0 ss.toArray := holds_of_block hbb (by simpa using h4)
          have hgl : g < wr.heap.size := (Array.getElem?_eq_some_iff.1 hbb).1
          have eg : ∀ args w, (callFunc 14 args).run Try.prog w = .ok (.enter 14 args) w := enters_of Try.func14 (by kernel_rfl) rfl
          have hcon := Any.slices_SortFunc_total Try.sortS encStr (fun _ => rfl) cmpB swoB 14 #[] g 0 cap ss.toArray wr eg (cmpLays g 0 _ wr) hH hgl (by simp; omega) totB
          change Calls Try.prog 34 _ _ _ at hcon
          have HS := Lib.hid hcon
          clear hcon eg hH hbb h4 hrow hC hk
          go_wp2_with (go_at_call 34; refine HS.out.mono ?_; rintro e w1 ⟨rfl, nn, os, rfl⟩)
          refine leaves_cons (f := 33) (args := #[]) (by simp) (by simp [go_sem]) ?_
          refine (keysD_s _).mono ?_
          rintro e u' w'' ⟨rfl, rfl, rfl⟩
          simp [Leaves, settle, results, Try.results13, go_sem]
          exact sorted_end HK.out HRow.out HND.out hmem.out
      · intro x c2 kl yd yp w2 cnt2 hkey hlk hv hat hrg2 hlt hg2 hs2 hen
        obtain ⟨x', ex, rfl, _⟩ := Maps.keyOf_str Try.underlying9 hkey
        obtain rfl : x = x' := encStr_inj ex
        have hrow2 := hrow.kept hg2 (Or.inr (row_ne_iter hrow hrg).symm)
        have hw2 : w.heap.size ≤ w2.heap.size := Nat.le_trans hk.size hg2.size
        clear hs2
        go_wp2_with (at_builtin; refine wpList_append_own _ rfl _ _ 26 rfl w.heap.size 9 i0 (.string .empty) 1 16 Try.underlying26 hi hz0 hz1 hz2 rfl (by decide) _ _ _ rfl (hrow2.alloc _) ⟨w2.heap.size, 0, none⟩ 1 1 [encStr x] rfl rfl (cell_one_new _ _ _) (by simp [Value.oneCell', encStr]) (by unfold maxLen; omega) (by omega) (by simp; omega) ?_; intro v' w3 hown' hg3 hnil3; go_frame)
        have hrg3 := (hrg2.alloc _).kept hg3 (row_ne_low hrow2 hbl) (row_ne_iter hrow2 hrg2)
        go_roundw
        case rel =>
          refine ⟨_, cnt2, ss ++ [x], hrg3, by simp; omega, by simpa using hown', hC.step hlk hat, ?_⟩
          exact ((hk.grown hg2 (fun j e => .inr (by cases e; exact Nat.le_refl _))).alloc _).grown hg3 (fun j e => .inr (hrow2.lt j e).1)
        case measure => rw [hrg3.left_eq, hrg.left_eq]; exact hlt
end Go.Proofs.Ytjnknbegapofiaa
