/- The law's small; its own example. -/
import Derived.Test.YtkffcpjaciomjaaDoorXRSort
import Derived.Test.YtkffcpjaciomjaaDoorXDiff
import Derived.Test.YtkffcpjaciomjaaDoorXRefT
namespace Go.Proofs.YtkffcpjaciomjaaDoor
open Go.RowKit Go.Shelf Go.Sort
set_option maxRecDepth 100000

/-- Few ids, a short name. -/
def smM (m : MC) : Bool := decide (m.n ≤ 20) && decide (m.r.size ≤ 60)
def smL (l : List MC) : Bool := l.all smM && decide (l.length ≤ 40)
/-- What lies at a slice of matches, before anything is known of how much there is. -/
theorem smallL_any {w : World} {a : Option Addr} {n c : Nat} {l : List MC} (h : In cM 2 w a n l) (hmax : ∀ m ∈ l, m.r.size ≤ maxLen ∧ m.n ≤ maxLen) (hn : n ≤ maxLen) :
    Calls Tryd.prog 9 #[.slice a n c] w fun e w' => e = .returned (.bool (smL l)) ∧ Kept Nil w w' := by
  have HH := Lib.hid h
  have HL := Lib.hid h.1
  have HM := Lib.hid hmax
  unfold maxLen at hn
  clear h hmax
  go_enter Tryd.func9, Tryd.ntmps9
  go_wp2_with fail
  go_loopw [4, 7] (fun _ i wr => ∃ j : Nat, j ≤ n ∧ i = .int .i64 j ∧ Hid ((l.take j).all smM = true) ∧ Hid (Kept Nil w wr)) (fun _ i _ => n - (intOf i).toNat)
  case atStart => exact ⟨0, Nat.zero_le _, rfl, rfl, Kept.refl _ _⟩
  case round =>
    obtain ⟨j, hj, rfl, HT, HK⟩ := hrel
    by_cases hlt : j < n
    · obtain ⟨m, hm⟩ : ∃ m, l[j]? = some m := ⟨_, List.getElem?_eq_getElem (by have := HL.out; omega)⟩
      obtain ⟨b0, o0, rfl, hb0, hc0⟩ := (HH.out.kept HK.out).at_ hm
      have q0 := hc0 0 _ rfl
      have q1 := hc0 1 _ rfl
      rw [Nat.add_zero] at q0
      have hml := List.mem_of_getElem? hm
      have hmx := HM.out m hml
      have htk := take_succ' hm
      have HTK := Lib.hid htk
      have HML := Lib.hid hml
      obtain ⟨r, ids, mn, ma, mc⟩ := m
      have hs1 := hmx.1
      have hs2 := hmx.2
      unfold maxLen at hs1 hs2
      simp only at hs1 hs2 q0 q1
      have KA := Lib.hid (HK.out.alloc (.cells #[.string r, .slice ma mn mc] 37))
      clear hc0 hm htk hml hmx
      have bad : smM ⟨r, ids, mn, ma, mc⟩ = false → smL l = false := fun hb => by
        unfold smL
        rw [show l.all smM = false from List.all_eq_false.2 ⟨_, HML.out, by rw [hb]; simp⟩]; rfl
      have HBAD := Lib.hid bad
      clear bad
      by_cases h1 : 20 < mn
      · have HE := Lib.hid (HBAD.out (by unfold smM; rw [decide_eq_false (by show ¬ mn ≤ 20; omega)]; rfl))
        go_wp2_with fail
        go_ret
        exact ⟨ret_bool HE.out.symm, KA.out⟩
      · by_cases h2 : 60 < r.size
        · have HE := Lib.hid (HBAD.out (by unfold smM; rw [decide_eq_false (p := r.size ≤ 60) (by omega)]; simp))
          go_wp2_with fail
          go_ret
          exact ⟨ret_bool HE.out.symm, KA.out⟩
        · have HT2 : Hid ((l.take (j + 1)).all smM = true) := Lib.hid (by
            rw [HTK.out, List.all_append, HT.out]
            show (true && (smM _ && true)) = true
            unfold smM
            rw [decide_eq_true (by show mn ≤ 20; omega), decide_eq_true (p := r.size ≤ 60) (by omega)]; rfl)
          go_wp2_with fail
          go_roundw
          case rel => exact ⟨j + 1, hlt, by go_num, HT2, KA⟩
          case measure => simp [intOf]; omega
    · have e : j = n := by omega
      subst e
      have HE : Hid (smL l = decide (j ≤ 40)) := Lib.hid (by
        have := HT.out
        rw [List.take_of_length_le (by have := HL.out; omega)] at this
        unfold smL
        rw [this, HL.out]; rfl)
      go_wp2_with fail
      go_ret
      refine ⟨ret_bool ?_, HK.out⟩
      rw [HE.out]
      first | rfl | (simp; done) | (rw [Bool.eq_iff_iff]; simp; omega)
theorem smL_iff {l : List MC} (h : smL l = true) : l.length ≤ 40 ∧ ∀ m ∈ l, m.n ≤ 20 ∧ m.r.size ≤ 60 := by
  unfold smL at h
  rw [Bool.and_eq_true, decide_eq_true_eq] at h
  refine ⟨h.2, fun m hm => ?_⟩
  have := List.all_eq_true.1 h.1 m hm
  unfold smM at this
  rw [Bool.and_eq_true, decide_eq_true_eq, decide_eq_true_eq] at this
  exact this

/-! ### The example -/
def nA : ByteArray := ⟨#[97]⟩
def nB : ByteArray := ⟨#[98]⟩
/-- What lies in a literal's block. -/
theorem litIn {α : Type} {cells : α → List Value} {size : Nat} (hsz : ∀ x, (cells x).length = size) {W : World} {g : Nat} {T : TypeId} {cs : Array Value} (hb : Blk W g T cs) (l : List α) (hcs : cs.toList = l.flatMap cells) : In cells size W (some ⟨g, 0, none⟩) l.length l := by
  refine ⟨rfl, .inr ⟨_, _, rfl, hb.lt, fun j x i v hj hi => ?_⟩⟩
  have hi0 : i < size := by rw [← hsz x]; exact (List.getElem?_eq_some_iff.1 hi).1
  rw [hb.cell, Nat.zero_add]
  have h2 := flat_get hsz l j i x hj hi0
  rw [hi, ← hcs] at h2
  simpa using h2
theorem exTxt : textE (nB, [1, 2]) = (⟨#[98, 32, 49, 32, 50]⟩, 0) := by
  have h1 : okName nB = true := by decide
  have h2 : okIds [1, 2] = true := by decide
  have e1 : Lib.itoa 1 = [49] := by rw [itoa_dec (by decide)]; show Lib.decDigits 1 = _; rw [dec_small (u := 1) (by decide)]; rfl
  have e2 : Lib.itoa 2 = [50] := by rw [itoa_dec (by decide)]; show Lib.decDigits 2 = _; rw [dec_small (u := 2) (by decide)]; rfl
  unfold textE
  rw [if_pos h1, if_pos h2]
  unfold mtxt mtxtL idsL
  simp only [List.flatMap_cons, List.flatMap_nil, e1, e2]
  rfl
theorem exLess : ltM (nA, [9]) (nB, [1]) = true := by
  unfold ltM
  rw [if_neg (by decide)]
  show Op.bytesLess nA.toList nB.toList = true
  rw [ByteArray.toList_eq, ByteArray.toList_eq]
  decide
theorem exLess2 : ltM (nB, [1]) (nB, [1, 2]) = true := by
  unfold ltM
  rw [if_pos rfl]
  decide
theorem exSort : sortM [(nB, [1, 2]), (nA, [9]), (nB, [1])] = [(nA, [9]), (nB, [1]), (nB, [1, 2])] := by
  refine (sortM_of_srt ?_ ?_).symm
  · refine List.pairwise_cons.2 ⟨fun z hz => ?_, List.pairwise_cons.2 ⟨fun z hz => ?_, by simp⟩⟩
    · simp only [List.mem_cons, List.not_mem_nil, or_false] at hz
      rcases hz with rfl | rfl
      · exact exLess
      · exact ltM_trans _ _ _ exLess exLess2
    · simp only [List.mem_cons, List.not_mem_nil, or_false] at hz
      rw [hz]; exact exLess2
  · intro z
    simp only [List.mem_cons, List.not_mem_nil, or_false]
    constructor
    · rintro (h | h | h) <;> simp [h]
    · rintro (h | h | h) <;> simp [h]
/-- Three matches, their ids in blocks behind each other. -/
def exL (x y z : MC) (h1 h2 h3 : Nat) : List MC := [⟨x.r, x.ids, x.ids.length, some ⟨h1, 0, none⟩, x.ids.length⟩, ⟨y.r, y.ids, y.ids.length, some ⟨h2, 0, none⟩, y.ids.length⟩, ⟨z.r, z.ids, z.ids.length, some ⟨h3, 0, none⟩, z.ids.length⟩]
set_option maxHeartbeats 4000000 in
theorem awake_any (w : World) (E : TabW w) :
    Calls Tryd.prog 10 #[] w fun e w' => e = .returned (.bool true) ∧ Kept Nil w w' := by
  have HE := Lib.hid E
  clear E
  obtain ⟨M1, hM1⟩ : ∃ m : MC, m = ⟨nB, [1, 2], 2, some ⟨w.heap.size, 0, none⟩, 2⟩ := ⟨_, rfl⟩
  have S1 : Hid (∀ (h : Nat) (W : World), Blk W h 3 #[.int .i64 1, .int .i64 2] → Mok W ⟨nB, [1, 2], 2, some ⟨h, 0, none⟩, 2⟩) := Lib.hid fun h W hb => ⟨litIn cN_len hb [1, 2] rfl, Nat.le_refl _, by show (2 : Nat) ≤ 1000; decide, by show nB.size ≤ 1000; decide⟩
  have S2 : Hid (∀ (h : Nat) (W : World), Blk W h 3 #[.int .i64 9] → Mok W ⟨nA, [9], 1, some ⟨h, 0, none⟩, 1⟩) := Lib.hid fun h W hb => ⟨litIn cN_len hb [9] rfl, Nat.le_refl _, by show (1 : Nat) ≤ 1000; decide, by show nA.size ≤ 1000; decide⟩
  have S3 : Hid (∀ (h : Nat) (W : World), Blk W h 3 #[.int .i64 1] → Mok W ⟨nB, [1], 1, some ⟨h, 0, none⟩, 1⟩) := Lib.hid fun h W hb => ⟨litIn cN_len hb [1] rfl, Nat.le_refl _, by show (1 : Nat) ≤ 1000; decide, by show nB.size ≤ 1000; decide⟩
  have HSZ : Hid (∀ (W : World) (o : Obj), (W.alloc o).heap.size = W.heap.size + 1) := Lib.hid fun W o => by simp
  have CS : Hid (Calls Tryd.prog 12 #[.slice (some ⟨w.heap.size + 1 + 1 + 1, 0, none⟩) 3 3] ((((w.alloc (.cells #[.int .i64 1, .int .i64 2] 3)).alloc (.cells #[.int .i64 9] 3)).alloc (.cells #[.int .i64 1] 3)).alloc (.cells #[.string ⟨#[98]⟩, .slice (some ⟨w.heap.size, 0, none⟩) 2 2, .string ⟨#[97]⟩, .slice (some ⟨w.heap.size + 1, 0, none⟩) 1 1, .string ⟨#[98]⟩, .slice (some ⟨w.heap.size + 1 + 1, 0, none⟩) 1 1] 37))
      (fun e w' => ∃ a n c l, e = .returned (.slice a n c) ∧ Ms w' a n l ∧ l.map MC.val = [(nA, [9]), (nB, [1]), (nB, [1, 2])] ∧ n ≤ 4000 ∧ Kept Nil w w')) := Lib.hid (by
    have hA := Blk.new w 3 #[.int .i64 1, .int .i64 2]
    have hB := Blk.new (w.alloc (.cells #[.int .i64 1, .int .i64 2] 3)) 3 #[.int .i64 9]
    have hC := Blk.new ((w.alloc (.cells #[.int .i64 1, .int .i64 2] 3)).alloc (.cells #[.int .i64 9] 3)) 3 #[.int .i64 1]
    have hD := Blk.new (((w.alloc (.cells #[.int .i64 1, .int .i64 2] 3)).alloc (.cells #[.int .i64 9] 3)).alloc (.cells #[.int .i64 1] 3)) 37 #[.string ⟨#[98]⟩, .slice (some ⟨w.heap.size, 0, none⟩) 2 2, .string ⟨#[97]⟩, .slice (some ⟨w.heap.size + 1, 0, none⟩) 1 1, .string ⟨#[98]⟩, .slice (some ⟨w.heap.size + 1 + 1, 0, none⟩) 1 1]
    simp only [HSZ.out] at hB hC hD
    have hA' := ((hA.alloc (.cells #[.int .i64 9] 3)).alloc (.cells #[.int .i64 1] 3)).alloc (.cells #[.string ⟨#[98]⟩, .slice (some ⟨w.heap.size, 0, none⟩) 2 2, .string ⟨#[97]⟩, .slice (some ⟨w.heap.size + 1, 0, none⟩) 1 1, .string ⟨#[98]⟩, .slice (some ⟨w.heap.size + 1 + 1, 0, none⟩) 1 1] 37)
    have hB' := (hB.alloc (.cells #[.int .i64 1] 3)).alloc (.cells #[.string ⟨#[98]⟩, .slice (some ⟨w.heap.size, 0, none⟩) 2 2, .string ⟨#[97]⟩, .slice (some ⟨w.heap.size + 1, 0, none⟩) 1 1, .string ⟨#[98]⟩, .slice (some ⟨w.heap.size + 1 + 1, 0, none⟩) 1 1] 37)
    have hC' := hC.alloc (.cells #[.string ⟨#[98]⟩, .slice (some ⟨w.heap.size, 0, none⟩) 2 2, .string ⟨#[97]⟩, .slice (some ⟨w.heap.size + 1, 0, none⟩) 1 1, .string ⟨#[98]⟩, .slice (some ⟨w.heap.size + 1 + 1, 0, none⟩) 1 1] 37)
    have kk := ((((Kept.refl Nil w).alloc (.cells #[.int .i64 1, .int .i64 2] 3)).alloc (.cells #[.int .i64 9] 3)).alloc (.cells #[.int .i64 1] 3)).alloc (.cells #[.string ⟨#[98]⟩, .slice (some ⟨w.heap.size, 0, none⟩) 2 2, .string ⟨#[97]⟩, .slice (some ⟨w.heap.size + 1, 0, none⟩) 1 1, .string ⟨#[98]⟩, .slice (some ⟨w.heap.size + 1 + 1, 0, none⟩) 1 1] 37)
    have hms : Ms _ (some ⟨w.heap.size + 1 + 1 + 1, 0, none⟩) 3 [⟨nB, [1, 2], 2, some ⟨w.heap.size, 0, none⟩, 2⟩, ⟨nA, [9], 1, some ⟨w.heap.size + 1, 0, none⟩, 1⟩, ⟨nB, [1], 1, some ⟨w.heap.size + 1 + 1, 0, none⟩, 1⟩] := ⟨litIn cM_len hD _ rfl, fun m hm => by
      simp only [List.mem_cons, List.not_mem_nil, or_false] at hm
      rcases hm with rfl | rfl | rfl
      · exact S1.out _ _ hA'
      · exact S2.out _ _ hB'
      · exact S3.out _ _ hC'⟩
    refine (sortP_any (c := 3) hms (by decide)).mono ?_
    rintro e w' ⟨a, n, c, l, rfl, hn, hr, hv, ho, hk⟩
    have hv2 : l.map MC.val = [(nA, [9]), (nB, [1]), (nB, [1, 2])] := hv.trans exSort
    refine ⟨a, n, c, l, rfl, ⟨hr.toIn cM_len (by decide), fun m hm => (ho m hm).1⟩, hv2, ?_, kk.trans hk (fun _ _ e => e)⟩
    rw [hn, ← hv, hv2]; decide)
  clear hM1
  go_enter Tryd.func10, Tryd.ntmps10
  go_wp2_with fail
  refine CS.out.mono ?_
  rintro e w1 ⟨a, n, c, l, rfl, hms, hv, hn, k1⟩
  have HMS := Lib.hid hms
  have HV := Lib.hid hv
  have K1 := Lib.hid k1
  have CT : Hid (Calls Tryd.prog 21 #[.agg #[.string ⟨#[98]⟩, .slice (some ⟨w1.heap.size, 0, none⟩) 2 2]] (w1.alloc (.cells #[.int .i64 1, .int .i64 2] 3)) fun e w' => e = .returned (.tuple #[.string ⟨#[98, 32, 49, 32, 50]⟩, .int .i64 0]) ∧ Kept Nil w1 w') := Lib.hid (by
    have hk := (Kept.refl Nil w1).alloc (.cells #[.int .i64 1, .int .i64 2] 3)
    have h := text_any (S1.out w1.heap.size _ (Blk.new w1 3 #[.int .i64 1, .int .i64 2])) (HE.out.kept (k1.trans hk (fun _ _ e => e)))
    have e1 : textE (MC.val ⟨nB, [1, 2], 2, some ⟨w1.heap.size, 0, none⟩, 2⟩) = (⟨#[98, 32, 49, 32, 50]⟩, 0) := exTxt
    rw [e1] at h
    exact h.mono fun e w' ⟨he, hk2⟩ => ⟨he, hk.trans hk2 (fun _ _ e => e)⟩)
  clear hms hv k1 CS
  go_wp2_with fail
  refine CT.out.mono ?_
  rintro e w2 ⟨rfl, k2⟩
  have HMS2 := Lib.hid (HMS.out.kept k2)
  have K2 := Lib.hid (K1.out.trans k2 (fun _ _ e => e))
  clear k2 CT HMS
  have CL : Hid (Calls Tryd.prog 14 #[.slice a n c, .slice (some ⟨w2.heap.size + 1 + 1 + 1, 0, none⟩) 3 3] ((((w2.alloc (.cells #[.int .i64 9] 3)).alloc (.cells #[.int .i64 1] 3)).alloc (.cells #[.int .i64 1, .int .i64 2] 3)).alloc (.cells #[.string ⟨#[97]⟩, .slice (some ⟨w2.heap.size, 0, none⟩) 1 1, .string ⟨#[98]⟩, .slice (some ⟨w2.heap.size + 1, 0, none⟩) 1 1, .string ⟨#[98]⟩, .slice (some ⟨w2.heap.size + 1 + 1, 0, none⟩) 2 2] 39))
      (fun e w' => e = .returned (.bool true) ∧ Kept Nil w w')) := Lib.hid (by
    have hA := Blk.new w2 3 #[.int .i64 9]
    have hB := Blk.new (w2.alloc (.cells #[.int .i64 9] 3)) 3 #[.int .i64 1]
    have hC := Blk.new ((w2.alloc (.cells #[.int .i64 9] 3)).alloc (.cells #[.int .i64 1] 3)) 3 #[.int .i64 1, .int .i64 2]
    have hD := Blk.new (((w2.alloc (.cells #[.int .i64 9] 3)).alloc (.cells #[.int .i64 1] 3)).alloc (.cells #[.int .i64 1, .int .i64 2] 3)) 39 #[.string ⟨#[97]⟩, .slice (some ⟨w2.heap.size, 0, none⟩) 1 1, .string ⟨#[98]⟩, .slice (some ⟨w2.heap.size + 1, 0, none⟩) 1 1, .string ⟨#[98]⟩, .slice (some ⟨w2.heap.size + 1 + 1, 0, none⟩) 2 2]
    simp only [HSZ.out] at hB hC hD
    have hA' := ((hA.alloc (.cells #[.int .i64 1] 3)).alloc (.cells #[.int .i64 1, .int .i64 2] 3)).alloc (.cells #[.string ⟨#[97]⟩, .slice (some ⟨w2.heap.size, 0, none⟩) 1 1, .string ⟨#[98]⟩, .slice (some ⟨w2.heap.size + 1, 0, none⟩) 1 1, .string ⟨#[98]⟩, .slice (some ⟨w2.heap.size + 1 + 1, 0, none⟩) 2 2] 39)
    have hB' := (hB.alloc (.cells #[.int .i64 1, .int .i64 2] 3)).alloc (.cells #[.string ⟨#[97]⟩, .slice (some ⟨w2.heap.size, 0, none⟩) 1 1, .string ⟨#[98]⟩, .slice (some ⟨w2.heap.size + 1, 0, none⟩) 1 1, .string ⟨#[98]⟩, .slice (some ⟨w2.heap.size + 1 + 1, 0, none⟩) 2 2] 39)
    have hC' := hC.alloc (.cells #[.string ⟨#[97]⟩, .slice (some ⟨w2.heap.size, 0, none⟩) 1 1, .string ⟨#[98]⟩, .slice (some ⟨w2.heap.size + 1, 0, none⟩) 1 1, .string ⟨#[98]⟩, .slice (some ⟨w2.heap.size + 1 + 1, 0, none⟩) 2 2] 39)
    have kk := ((((Kept.refl Nil w2).alloc (.cells #[.int .i64 9] 3)).alloc (.cells #[.int .i64 1] 3)).alloc (.cells #[.int .i64 1, .int .i64 2] 3)).alloc (.cells #[.string ⟨#[97]⟩, .slice (some ⟨w2.heap.size, 0, none⟩) 1 1, .string ⟨#[98]⟩, .slice (some ⟨w2.heap.size + 1, 0, none⟩) 1 1, .string ⟨#[98]⟩, .slice (some ⟨w2.heap.size + 1 + 1, 0, none⟩) 2 2] 39)
    have hms : Ms _ (some ⟨w2.heap.size + 1 + 1 + 1, 0, none⟩) 3 [⟨nA, [9], 1, some ⟨w2.heap.size, 0, none⟩, 1⟩, ⟨nB, [1], 1, some ⟨w2.heap.size + 1, 0, none⟩, 1⟩, ⟨nB, [1, 2], 2, some ⟨w2.heap.size + 1 + 1, 0, none⟩, 2⟩] := ⟨litIn cM_len hD _ rfl, fun m hm => by
      simp only [List.mem_cons, List.not_mem_nil, or_false] at hm
      rcases hm with rfl | rfl | rfl
      · exact S2.out _ _ hA'
      · exact S3.out _ _ hB'
      · exact S1.out _ _ hC'⟩
    refine (lawSame_any (c := c) (d := 3) (HMS2.out.kept kk) hms hn).mono ?_
    rintro e w' ⟨rfl, hk⟩
    refine ⟨?_, (K2.out.trans kk (fun _ _ e => e)).trans hk (fun _ _ e => e)⟩
    rw [HV.out]
    rfl)
  go_wp2_with fail
  refine CL.out.mono ?_
  rintro e w3 ⟨rfl, k3⟩
  go_wp2_with fail
  go_ret
  exact ⟨rfl, k3⟩
end Go.Proofs.YtkffcpjaciomjaaDoor
