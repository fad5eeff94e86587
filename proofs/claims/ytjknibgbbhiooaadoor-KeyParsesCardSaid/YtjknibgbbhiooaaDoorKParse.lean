/- Layer key: the contract of Parse. -/
import Derived.Test.YtjknibgbbhiooaaDoorKText
import Derived.Test.YtjknibgbbhiooaaDoorParts
namespace Go.Proofs.YtjknibgbbhiooaaDoor
open Go.RowKit

def kgood (s : ByteArray) : Bool := kgoodL s.data.toList
theorem ktxt_eq {t : T3} {s : ByteArray} : ktxtL t = s.data.toList ↔ ktxt t = s := by
  rw [← ktxt_list]
  constructor
  · intro h; exact ByteArray.ext (Array.toList_inj.1 h)
  · intro h; rw [h]
theorem kgood_yes {s : ByteArray} (h : kgood s = true) : okKT (raw s) = true ∧ ktxt (raw s) = s := by
  obtain ⟨a, b⟩ := kgood_out h
  rw [raw_list] at a b
  exact ⟨a, ktxt_eq.1 b⟩
theorem kgood_no {s : ByteArray} (h : kgood s = false) : okKT (raw s) = false ∨ (okKT (raw s) = true ∧ ktxt (raw s) ≠ s) := by
  unfold kgood kgoodL at h
  rw [raw_list] at h
  cases ho : okKT (raw s) with
  | false => exact .inl rfl
  | true =>
    refine .inr ⟨rfl, fun e => ?_⟩
    rw [ho, ktxt_eq.2 e] at h
    simp at h

/-- What Parse answers. -/
def kparsed (s : ByteArray) : T3 := if kgood s then raw s else (0, 0, 0)
def kparsedE (s : ByteArray) : Int := if kgood s then 0 else 14
theorem kparsed_yes {s : ByteArray} (h : kgood s = true) : kparsed s = raw s ∧ kparsedE s = 0 := by unfold kparsed kparsedE; rw [if_pos h, if_pos h]; exact ⟨rfl, rfl⟩
theorem kparsed_no {s : ByteArray} (h : kgood s = false) : kparsed s = (0, 0, 0) ∧ kparsedE s = 14 := by unfold kparsed kparsedE; rw [h]; exact ⟨rfl, rfl⟩

set_option maxHeartbeats 2000000 in
theorem kparse_any (s : ByteArray) (hs : s.size ≤ 100000) (w : World) (E : Env w) :
    Calls Tryd.prog 20 #[.string s] w fun e w' => e = .returned (.tuple #[arr (kparsed s), .int .i64 (kparsedE s)]) ∧ Kept Nil w w' := by
  have HE := Lib.hid E
  have CS : Hid (∀ W : World, Env W → Calls Tryd.prog 27 #[.string s, .string ⟨#[32]⟩, .int .i64 3] W (SplitEnd s W)) := Lib.hid fun W h => split_any s hs W h
  have L3 := parts_len s
  clear E
  go_enter Tryd.func20, Tryd.ntmps20
  go_wp2_with fail
  refine (CS.out _ (HE.out.kept (((Kept.refl _ _).alloc _).alloc _))).mono ?_
  rintro e w1 ⟨cap, rfl, hk, hz, hp⟩
  obtain ⟨L, hL⟩ : ∃ L, L = (parts s).length := ⟨_, rfl⟩
  rw [← hL]
  have HL := Lib.hid hL
  rw [← hL] at L3
  clear hL
  have P0 : Hid (PSt w s 0 w1) := by
    have hb : ∀ b, b < w.heap.size + 2 → w1.heap[b]? = _ := fun b h => hk.block b (by simpa using h) id
    refine ⟨(((Kept.refl _ _).alloc _).alloc _).trans hk (fun _ _ g => g), ?_, ?_, fun i p h => ?_⟩
    · rw [hb _ (by omega), Below.heap_alloc _ _ _ (by simp)]; exact heap_alloc_new w _
    · rw [hb _ (by omega), fv_not (Nat.zero_le _), fv_not (Nat.zero_le _), fv_not (Nat.zero_le _)]
      have := heap_alloc_new (w.alloc (.cells #[.int .i64 0, .int .i64 0, .int .i64 0] 23)) (.cells #[.int .i64 0, .int .i64 0, .int .i64 0] 23)
      simpa using this
    · have := hp i p h
      simpa using this
  clear hk hz hp
  go_wp2_with fail
  go_loopw [12] (fun i W => ∃ k : Nat, k ≤ L ∧ i = .int .i64 k ∧ Hid (PSt w s k W)) (fun i _ => L - (intOf i).toNat)
  case atStart => exact ⟨0, Nat.zero_le _, rfl, P0⟩
  case round =>
    clear P0
    obtain ⟨k, hk, rfl, HP⟩ := hrel
    by_cases hlt : k < L
    · obtain ⟨p, hpp⟩ : ∃ p, (parts s)[k]? = some p := ⟨_, List.getElem?_eq_getElem (by rw [← HL.out]; exact hlt)⟩
      have hcell := HP.out.part k p hpp
      have hps : p.size ≤ 100000 := Nat.le_trans (parts_size hpp) hs
      have CA : Hid (∀ W : World, Env W → Calls Tryd.prog 28 #[.string p] W (AtoiEnd p W)) := Lib.hid fun W h => atoi_any p hps W h
      have HPP := Lib.hid hpp
      clear hpp
      go_wp2_with fail
      refine (CA.out _ (HE.out.kept HP.out.kept)).mono ?_
      rintro e W' ⟨v, rfl, hk'⟩
      have HP' := Lib.hid (HP.out.call hk')
      obtain ⟨hc, hf⟩ := HP'.out.facts (by rw [← HL.out]; exact hlt)
      have hk3 : (k : Int) < 3 := by omega
      go_wp2_with fail
      go_roundw
      case rel => exact ⟨k + 1, hlt, by go_num, Lib.hid (HP'.out.put HPP.out)⟩
      case measure => simp [intOf]; omega
    · have he : k = L := by omega
      have HP2 : Hid (PSt w s (parts s).length wr) := by rw [← HL.out, ← he]; exact HP
      clear HP he HL
      have hr := HP2.out.vals
      generalize hx : fldP s 0 = x at hr
      generalize hy : fldP s 1 = y at hr
      generalize hz : fldP s 2 = z at hr
      have HR := Lib.hid (show raw s = (x, y, z) by unfold raw; rw [hx, hy, hz])
      clear hx hy hz
      obtain ⟨r0, r1, r2, v0, v1, v2, f0, f1, f2⟩ := hr
      cases hg : kgood s with
      | true =>
        obtain ⟨ho, ht⟩ := kgood_yes hg
        have CT : Hid (∀ W : World, Env W → Calls Tryd.prog 18 #[.agg #[.int .i64 x, .int .i64 y, .int .i64 z]] W fun e w' => e = .returned (.tuple #[.string s, .int .i64 0]) ∧ Kept Nil W w') := Lib.hid fun W h => by
          have := ktext_good (raw s) W h.tabW ho
          rw [ht, HR.out] at this
          exact this
        have HG := Lib.hid hg
        clear hg ho ht
        go_wp2_with fail
        refine (CT.out _ (HE.out.kept HP2.out.kept)).mono ?_
        rintro e W2 ⟨rfl, hk2⟩
        have HP3 := Lib.hid (HP2.out.call hk2)
        clear r0 r1 r2 v0 v1 v2 f0 f1 f2
        have hr := HP3.out.vals3 HR.out
        obtain ⟨r0, r1, r2, v0, v1, v2, f0, f1, f2⟩ := hr
        go_wp2_with fail
        refine bodyPost_ret (v := .tuple #[.agg #[.int .i64 x, .int .i64 y, .int .i64 z], .int .i64 0]) (by simp [results, Tryd.results20, go_sem, r0, r1, r2]) rfl ⟨?_, ?_⟩
        · rw [(kparsed_yes HG.out).1, (kparsed_yes HG.out).2, HR.out]; rfl
        · exact ((HP3.out.kept.setCell _ (.inr (Nat.le_refl _)) _).setCell _ (.inr (Nat.le_refl _)) _).setCell _ (.inr (Nat.le_refl _)) _
      | false =>
        have HG := Lib.hid hg
        rcases kgood_no hg with ho | ⟨ho, ht⟩
        · have CT : Hid (∀ W : World, Env W → Calls Tryd.prog 18 #[.agg #[.int .i64 x, .int .i64 y, .int .i64 z]] W fun e w' => e = .returned (.tuple #[.string .empty, .int .i64 13]) ∧ Kept Nil W w') := Lib.hid fun W _ => by
            have := ktext_bad (raw s) W ho
            rw [HR.out] at this
            exact this
          clear hg ho
          go_wp2_with fail
          refine (CT.out _ (HE.out.kept HP2.out.kept)).mono ?_
          rintro e W2 ⟨rfl, hk2⟩
          have HP3 := Lib.hid (HP2.out.call hk2)
          clear r0 r1 r2 v0 v1 v2 f0 f1 f2
          have hr := HP3.out.vals3 HR.out
          obtain ⟨r0, r1, r2, v0, v1, v2, f0, f1, f2⟩ := hr
          go_wp2_with fail
          refine bodyPost_ret (v := .tuple #[.agg #[.int .i64 0, .int .i64 0, .int .i64 0], .int .i64 14]) (by simp [results, Tryd.results20, go_sem, r0, r1, r2]) rfl ⟨?_, ?_⟩
          · rw [(kparsed_no HG.out).1, (kparsed_no HG.out).2]; rfl
          · exact ((HP3.out.kept.setCell _ (.inr (Nat.le_refl _)) _).setCell _ (.inr (Nat.le_refl _)) _).setCell _ (.inr (Nat.le_refl _)) _
        · obtain ⟨u, hu⟩ : ∃ u, u = ktxt (raw s) := ⟨_, rfl⟩
          have CT : Hid (∀ W : World, Env W → Calls Tryd.prog 18 #[.agg #[.int .i64 x, .int .i64 y, .int .i64 z]] W fun e w' => e = .returned (.tuple #[.string u, .int .i64 0]) ∧ Kept Nil W w') := Lib.hid fun W h => by
            have := ktext_good (raw s) W h.tabW ho
            rw [← hu, HR.out] at this
            exact this
          rw [← hu] at ht
          have hne : (!u.toList == s.toList) = true := by rw [str_ne ht]; rfl
          clear hg ho hu ht
          go_wp2_with fail
          refine (CT.out _ (HE.out.kept HP2.out.kept)).mono ?_
          rintro e W2 ⟨rfl, hk2⟩
          have HP3 := Lib.hid (HP2.out.call hk2)
          clear r0 r1 r2 v0 v1 v2 f0 f1 f2
          have hr := HP3.out.vals3 HR.out
          obtain ⟨r0, r1, r2, v0, v1, v2, f0, f1, f2⟩ := hr
          go_wp2_with fail
          refine bodyPost_ret (v := .tuple #[.agg #[.int .i64 0, .int .i64 0, .int .i64 0], .int .i64 14]) (by simp [results, Tryd.results20, go_sem, r0, r1, r2]) rfl ⟨?_, ?_⟩
          · rw [(kparsed_no HG.out).1, (kparsed_no HG.out).2]; rfl
          · exact ((HP3.out.kept.setCell _ (.inr (Nat.le_refl _)) _).setCell _ (.inr (Nat.le_refl _)) _).setCell _ (.inr (Nat.le_refl _)) _
end Go.Proofs.YtjknibgbbhiooaaDoor
