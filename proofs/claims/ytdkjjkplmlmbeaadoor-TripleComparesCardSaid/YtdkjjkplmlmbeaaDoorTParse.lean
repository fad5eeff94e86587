/- Layer triple: the contract of Parse. -/
import Derived.Test.YtdkjjkplmlmbeaaDoorTText
import Derived.OneCell
namespace Go.Proofs.YtdkjjkplmlmbeaaDoor
open Go.RowKit

theorem str_eq {x s : ByteArray} (h : x = s) : (x.toList == s.toList) = true := by rw [h]; exact beq_self_eq_true _
theorem str_ne {x s : ByteArray} (h : x ≠ s) : (x.toList == s.toList) = false := by
  rw [beq_eq_false_iff_ne, ByteArray.toList_eq, ByteArray.toList_eq]
  exact fun e => h (ByteArray.ext (Array.toList_inj.1 e))

/-- The number of a text's part. -/
def fldP (s : ByteArray) (j : Nat) : Int := match (parts s)[j]? with
  | some p => fld p.data.toList
  | none => 0
/-- .. as far as k parts are read. -/
def fv (s : ByteArray) (j k : Nat) : Int := if j < k then fldP s j else 0
theorem splitK_size : ∀ (k : Nat) (l x : List UInt8), x ∈ Lib.splitK [32] 0 k l → x.length ≤ l.length
  | 0, l, x, h => by unfold Lib.splitK at h; rw [List.mem_singleton] at h; rw [h]; exact Nat.le_refl _
  | k + 1, l, x, h => by
    unfold Lib.splitK at h
    split at h
    · rw [List.mem_singleton] at h; rw [h]; exact Nat.le_refl _
    · rw [List.mem_cons] at h
      rcases h with h | h
      · rw [h]; exact List.length_take_le' ..
      · exact Nat.le_trans (splitK_size k _ x h) (by simp)
theorem parts_size {s p : ByteArray} {k : Nat} (h : (parts s)[k]? = some p) : p.size ≤ s.size := by
  have hm : p.data.toList ∈ (parts s).map (·.data.toList) := List.mem_map_of_mem (List.mem_of_getElem? h)
  rw [parts_list] at hm
  have := splitK_size _ _ _ hm
  rw [Array.length_toList, Array.length_toList] at this
  exact this
theorem fv_not {s : ByteArray} {j k : Nat} (h : k ≤ j) : fv s j k = 0 := by unfold fv; rw [if_neg (by omega)]
theorem fv_new {s : ByteArray} {k : Nat} {p : ByteArray} (h : (parts s)[k]? = some p) : fv s k (k + 1) = fld p.data.toList := by unfold fv fldP; rw [if_pos (by omega), h]
theorem fv_old {s : ByteArray} {j k : Nat} (h : j ≠ k) : fv s j (k + 1) = fv s j k := by
  unfold fv
  by_cases e : j < k
  · rw [if_pos e, if_pos (by omega)]
  · rw [if_neg e, if_neg (by omega)]
theorem fv_all {s : ByteArray} {j : Nat} : fv s j (parts s).length = fldP s j := by
  unfold fv fldP
  by_cases e : j < (parts s).length
  · rw [if_pos e]
  · rw [if_neg e, List.getElem?_eq_none (by omega)]
/-- The triple that is read. -/
def raw (s : ByteArray) : T3 := (fldP s 0, fldP s 1, fldP s 2)
theorem raw_list (s : ByteArray) : rawL (partsL s.data.toList) = raw s := by
  rw [← parts_list]
  unfold rawL raw fldP
  simp only [List.getElem?_map]
  cases (parts s)[0]? <;> cases (parts s)[1]? <;> cases (parts s)[2]? <;> rfl
def good (s : ByteArray) : Bool := goodL s.data.toList
theorem txt_eq {t : T3} {s : ByteArray} : txtL t = s.data.toList ↔ txt t = s := by
  rw [← txt_list]
  constructor
  · intro h; exact ByteArray.ext (Array.toList_inj.1 h)
  · intro h; rw [h]
theorem good_yes {s : ByteArray} (h : good s = true) : okT (raw s) = true ∧ txt (raw s) = s := by
  obtain ⟨a, b⟩ := good_out h
  rw [raw_list] at a b
  exact ⟨a, txt_eq.1 b⟩
theorem good_no {s : ByteArray} (h : good s = false) : okT (raw s) = false ∨ (okT (raw s) = true ∧ txt (raw s) ≠ s) := by
  unfold good goodL at h
  rw [raw_list] at h
  cases ho : okT (raw s) with
  | false => exact .inl rfl
  | true =>
    refine .inr ⟨rfl, fun e => ?_⟩
    rw [ho, txt_eq.2 e] at h
    simp at h

structure PSt (w : World) (s : ByteArray) (k : Nat) (W : World) : Prop where
  kept : Kept Nil w W
  res : W.heap[w.heap.size]? = some (.cells #[.int .i64 0, .int .i64 0, .int .i64 0] 23 (0, 0))
  var : W.heap[w.heap.size + 1]? = some (.cells #[.int .i64 (fv s 0 k), .int .i64 (fv s 1 k), .int .i64 (fv s 2 k)] 23 (0, 0))
  part : ∀ i p, (parts s)[i]? = some p → W.cell? ⟨w.heap.size + 2, i, none⟩ = some (.string p)

theorem PSt.call {w W W' : World} {s : ByteArray} {k : Nat} (h : PSt w s k W) (hk : Kept Nil W W') : PSt w s k W' :=
  ⟨h.kept.trans hk (fun _ _ g => g), by rw [hk.block _ (lt_of_block h.res) id]; exact h.res, by rw [hk.block _ (lt_of_block h.var) id]; exact h.var,
    fun i p hp => by rw [hk.cell (World.block_lt_of_cell? W _ (h.part i p hp)) id]; exact h.part i p hp⟩
theorem PSt.put {w W : World} {s : ByteArray} {k : Nat} (h : PSt w s k W) {p : ByteArray} (hp : (parts s)[k]? = some p) :
    PSt w s (k + 1) (W.setCell ⟨w.heap.size + 1, k, none⟩ (.int .i64 (fld p.data.toList))) := by
  have hl := (List.getElem?_eq_some_iff.1 hp).1
  have h3 := parts_len s
  refine ⟨h.kept.setCell _ (.inr (Nat.le_succ _)) _, ?_, ?_, fun i q hq => ?_⟩
  · rw [Below.heap_setCell _ _ _ _ (by simp)]; exact h.res
  · have hb := lt_of_block h.var
    have h' := h.var
    rw [Array.getElem?_eq_getElem hb] at h'
    show (W.heap.modify (w.heap.size + 1) _)[w.heap.size + 1]? = _
    rw [Array.getElem?_eq_getElem (by simpa using hb), Array.getElem_modify_self, Option.some.inj h']
    have e : k = 0 ∨ k = 1 ∨ k = 2 := by omega
    rcases e with rfl | rfl | rfl
    · have q0 : fv s 0 (0 + 1) = fld p.data.toList := fv_new hp
      have q1 : fv s 1 (0 + 1) = fv s 1 0 := fv_old (by omega)
      have q2 : fv s 2 (0 + 1) = fv s 2 0 := fv_old (by omega)
      rw [q0, q1, q2]; rfl
    · have q0 : fv s 0 (1 + 1) = fv s 0 1 := fv_old (by omega)
      have q1 : fv s 1 (1 + 1) = fld p.data.toList := fv_new hp
      have q2 : fv s 2 (1 + 1) = fv s 2 1 := fv_old (by omega)
      rw [q0, q1, q2]; rfl
    · have q0 : fv s 0 (2 + 1) = fv s 0 2 := fv_old (by omega)
      have q1 : fv s 1 (2 + 1) = fv s 1 2 := fv_old (by omega)
      have q2 : fv s 2 (2 + 1) = fld p.data.toList := fv_new hp
      rw [q0, q1, q2]; rfl
  · rw [World.cell?_of_block (Below.heap_setCell _ _ _ _ (by simp))]; exact h.part i q hq
theorem PSt.facts {w W : World} {s : ByteArray} {k : Nat} (h : PSt w s k W) (hk : k < (parts s).length) :
    W.cell? ⟨w.heap.size + 1, k, none⟩ = some (.int .i64 0) ∧ W.frozen? ⟨w.heap.size + 1, k, none⟩ = false := by
  have h3 := parts_len s
  have e : k = 0 ∨ k = 1 ∨ k = 2 := by omega
  have hv := h.var
  rcases e with rfl | rfl | rfl
  all_goals
    rw [fv_not (j := 2) (by omega)] at hv
    try rw [fv_not (j := 1) (by omega)] at hv
    try rw [fv_not (j := 0) (by omega)] at hv
    exact ⟨by simp [World.cell?, hv], by simp [World.frozen?, hv]⟩

/-- The cells of the result and of the variable, and that the result's may be written. -/
def PCells (w : World) (x y z : Int) (W : World) : Prop :=
  W.cell? ⟨w.heap.size, 0, none⟩ = some (.int .i64 0) ∧ W.cell? ⟨w.heap.size, 1, none⟩ = some (.int .i64 0) ∧ W.cell? ⟨w.heap.size, 2, none⟩ = some (.int .i64 0) ∧
  W.cell? ⟨w.heap.size + 1, 0, none⟩ = some (.int .i64 x) ∧ W.cell? ⟨w.heap.size + 1, 1, none⟩ = some (.int .i64 y) ∧ W.cell? ⟨w.heap.size + 1, 2, none⟩ = some (.int .i64 z) ∧
  W.frozen? ⟨w.heap.size, 0, none⟩ = false ∧ W.frozen? ⟨w.heap.size, 1, none⟩ = false ∧ W.frozen? ⟨w.heap.size, 2, none⟩ = false
theorem PSt.vals {w W : World} {s : ByteArray} (h : PSt w s (parts s).length W) : PCells w (fldP s 0) (fldP s 1) (fldP s 2) W := by
  have hv := h.var
  have hr := h.res
  rw [fv_all, fv_all, fv_all] at hv
  refine ⟨?_, ?_, ?_, ?_, ?_, ?_, ?_, ?_, ?_⟩
  all_goals first | (simp [World.cell?, hr]; done) | (simp [World.cell?, hv]; done) | (simp [World.frozen?, hr]; done)
theorem PSt.vals3 {w W : World} {s : ByteArray} {x y z : Int} (h : PSt w s (parts s).length W) (e : raw s = (x, y, z)) : PCells w x y z W := by
  have := h.vals
  have e' : (fldP s 0, fldP s 1, fldP s 2) = (x, y, z) := e
  simp only [Prod.mk.injEq] at e'
  obtain ⟨e1, e2, e3⟩ := e'
  rw [e1, e2, e3] at this
  exact this

/-- What Parse answers. -/
def parsed (s : ByteArray) : T3 := if good s then raw s else (0, 0, 0)
def parsedE (s : ByteArray) : Int := if good s then 0 else 14
theorem parsed_yes {s : ByteArray} (h : good s = true) : parsed s = raw s ∧ parsedE s = 0 := by unfold parsed parsedE; rw [if_pos h, if_pos h]; exact ⟨rfl, rfl⟩
theorem parsed_no {s : ByteArray} (h : good s = false) : parsed s = (0, 0, 0) ∧ parsedE s = 14 := by unfold parsed parsedE; rw [h]; exact ⟨rfl, rfl⟩

set_option maxHeartbeats 2000000 in
theorem parse_any (s : ByteArray) (hs : s.size ≤ 100000) (w : World) (E : Env w) :
    Calls Tryd.prog 13 #[.string s] w fun e w' => e = .returned (.tuple #[arr (parsed s), .int .i64 (parsedE s)]) ∧ Kept Nil w w' := by
  have HE := Lib.hid E
  have CS : Hid (∀ W : World, Env W → Calls Tryd.prog 20 #[.string s, .string ⟨#[32]⟩, .int .i64 3] W (SplitEnd s W)) := Lib.hid fun W h => split_any s hs W h
  have L3 := parts_len s
  clear E
  go_enter Tryd.func13, Tryd.ntmps13
  go_wp2_with fail
  refine (CS.out _ (HE.out.kept (((Kept.refl _ _).alloc _).alloc _))).mono ?_
  rintro e w1 ⟨cap, rfl, hk, hz, hp⟩
  obtain ⟨L, hL⟩ : ∃ L, L = (parts s).length := ⟨_, rfl⟩
  rw [← hL]
  have HL := Lib.hid hL
  rw [← hL] at L3
  clear hL
  have P0 : Hid (PSt w s 0 w1) := by
    have hb : ∀ b, b < w.heap.size + 2 → w1.heap[b]? = _ := fun b h => hk.block b (by simpa using h) id
    refine ⟨(((Kept.refl _ _).alloc _).alloc _).trans hk (fun _ _ g => g), ?_, ?_, fun i p h => ?_⟩
    · rw [hb _ (by omega), Below.heap_alloc _ _ _ (by simp)]; exact heap_alloc_new w _
    · rw [hb _ (by omega), fv_not (Nat.zero_le _), fv_not (Nat.zero_le _), fv_not (Nat.zero_le _)]
      have := heap_alloc_new (w.alloc (.cells #[.int .i64 0, .int .i64 0, .int .i64 0] 23)) (.cells #[.int .i64 0, .int .i64 0, .int .i64 0] 23)
      simpa using this
    · have := hp i p h
      simpa using this
  clear hk hz hp
  go_wp2_with fail
  go_loopw [12] (fun i W => ∃ k : Nat, k ≤ L ∧ i = .int .i64 k ∧ Hid (PSt w s k W)) (fun i _ => L - (intOf i).toNat)
  case atStart => exact ⟨0, Nat.zero_le _, rfl, P0⟩
  case round =>
    clear P0
    obtain ⟨k, hk, rfl, HP⟩ := hrel
    by_cases hlt : k < L
    · obtain ⟨p, hpp⟩ : ∃ p, (parts s)[k]? = some p := ⟨_, List.getElem?_eq_getElem (by rw [← HL.out]; exact hlt)⟩
      have hcell := HP.out.part k p hpp
      have hps : p.size ≤ 100000 := Nat.le_trans (parts_size hpp) hs
      have CA : Hid (∀ W : World, Env W → Calls Tryd.prog 21 #[.string p] W (AtoiEnd p W)) := Lib.hid fun W h => atoi_any p hps W h
      have HPP := Lib.hid hpp
      clear hpp
      go_wp2_with fail
      refine (CA.out _ (HE.out.kept HP.out.kept)).mono ?_
      rintro e W' ⟨v, rfl, hk'⟩
      have HP' := Lib.hid (HP.out.call hk')
      obtain ⟨hc, hf⟩ := HP'.out.facts (by rw [← HL.out]; exact hlt)
      have hk3 : (k : Int) < 3 := by omega
      go_wp2_with fail
      go_roundw
      case rel => exact ⟨k + 1, hlt, by go_num, Lib.hid (HP'.out.put HPP.out)⟩
      case measure => simp [intOf]; omega
    · have he : k = L := by omega
      have HP2 : Hid (PSt w s (parts s).length wr) := by rw [← HL.out, ← he]; exact HP
      clear HP he HL
      have hr := HP2.out.vals
      generalize hx : fldP s 0 = x at hr
      generalize hy : fldP s 1 = y at hr
      generalize hz : fldP s 2 = z at hr
      have HR := Lib.hid (show raw s = (x, y, z) by unfold raw; rw [hx, hy, hz])
      clear hx hy hz
      obtain ⟨r0, r1, r2, v0, v1, v2, f0, f1, f2⟩ := hr
      cases hg : good s with
      | true =>
        obtain ⟨ho, ht⟩ := good_yes hg
        have CT : Hid (∀ W : World, Env W → Calls Tryd.prog 8 #[.agg #[.int .i64 x, .int .i64 y, .int .i64 z]] W fun e w' => e = .returned (.tuple #[.string s, .int .i64 0]) ∧ Kept Nil W w') := Lib.hid fun W h => by
          have := text_good (raw s) W h ho
          rw [ht, HR.out] at this
          exact this
        have HG := Lib.hid hg
        clear hg ho ht
        go_wp2_with fail
        refine (CT.out _ (HE.out.kept HP2.out.kept)).mono ?_
        rintro e W2 ⟨rfl, hk2⟩
        have HP3 := Lib.hid (HP2.out.call hk2)
        clear r0 r1 r2 v0 v1 v2 f0 f1 f2
        have hr := HP3.out.vals3 HR.out
        obtain ⟨r0, r1, r2, v0, v1, v2, f0, f1, f2⟩ := hr
        go_wp2_with fail
        refine bodyPost_ret (v := .tuple #[.agg #[.int .i64 x, .int .i64 y, .int .i64 z], .int .i64 0]) (by simp [results, Tryd.results13, go_sem, r0, r1, r2]) rfl ⟨?_, ?_⟩
        · rw [(parsed_yes HG.out).1, (parsed_yes HG.out).2, HR.out]; rfl
        · exact ((HP3.out.kept.setCell _ (.inr (Nat.le_refl _)) _).setCell _ (.inr (Nat.le_refl _)) _).setCell _ (.inr (Nat.le_refl _)) _
      | false =>
        have HG := Lib.hid hg
        rcases good_no hg with ho | ⟨ho, ht⟩
        · have CT : Hid (∀ W : World, Env W → Calls Tryd.prog 8 #[.agg #[.int .i64 x, .int .i64 y, .int .i64 z]] W fun e w' => e = .returned (.tuple #[.string .empty, .int .i64 13]) ∧ Kept Nil W w') := Lib.hid fun W _ => by
            have := text_bad (raw s) W ho
            rw [HR.out] at this
            exact this
          clear hg ho
          go_wp2_with fail
          refine (CT.out _ (HE.out.kept HP2.out.kept)).mono ?_
          rintro e W2 ⟨rfl, hk2⟩
          have HP3 := Lib.hid (HP2.out.call hk2)
          clear r0 r1 r2 v0 v1 v2 f0 f1 f2
          have hr := HP3.out.vals3 HR.out
          obtain ⟨r0, r1, r2, v0, v1, v2, f0, f1, f2⟩ := hr
          go_wp2_with fail
          refine bodyPost_ret (v := .tuple #[.agg #[.int .i64 0, .int .i64 0, .int .i64 0], .int .i64 14]) (by simp [results, Tryd.results13, go_sem, r0, r1, r2]) rfl ⟨?_, ?_⟩
          · rw [(parsed_no HG.out).1, (parsed_no HG.out).2]; rfl
          · exact ((HP3.out.kept.setCell _ (.inr (Nat.le_refl _)) _).setCell _ (.inr (Nat.le_refl _)) _).setCell _ (.inr (Nat.le_refl _)) _
        · obtain ⟨u, hu⟩ : ∃ u, u = txt (raw s) := ⟨_, rfl⟩
          have CT : Hid (∀ W : World, Env W → Calls Tryd.prog 8 #[.agg #[.int .i64 x, .int .i64 y, .int .i64 z]] W fun e w' => e = .returned (.tuple #[.string u, .int .i64 0]) ∧ Kept Nil W w') := Lib.hid fun W h => by
            have := text_good (raw s) W h ho
            rw [← hu, HR.out] at this
            exact this
          rw [← hu] at ht
          have hne : (!u.toList == s.toList) = true := by rw [str_ne ht]; rfl
          clear hg ho hu ht
          go_wp2_with fail
          refine (CT.out _ (HE.out.kept HP2.out.kept)).mono ?_
          rintro e W2 ⟨rfl, hk2⟩
          have HP3 := Lib.hid (HP2.out.call hk2)
          clear r0 r1 r2 v0 v1 v2 f0 f1 f2
          have hr := HP3.out.vals3 HR.out
          obtain ⟨r0, r1, r2, v0, v1, v2, f0, f1, f2⟩ := hr
          go_wp2_with fail
          refine bodyPost_ret (v := .tuple #[.agg #[.int .i64 0, .int .i64 0, .int .i64 0], .int .i64 14]) (by simp [results, Tryd.results13, go_sem, r0, r1, r2]) rfl ⟨?_, ?_⟩
          · rw [(parsed_no HG.out).1, (parsed_no HG.out).2]; rfl
          · exact ((HP3.out.kept.setCell _ (.inr (Nat.le_refl _)) _).setCell _ (.inr (Nat.le_refl _)) _).setCell _ (.inr (Nat.le_refl _)) _
end Go.Proofs.YtdkjjkplmlmbeaaDoor
