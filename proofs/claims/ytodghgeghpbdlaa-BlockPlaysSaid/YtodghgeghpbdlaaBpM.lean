/- Blocks (block.Blocks[string,int]): all owners of a list that stays, told. -/
import Derived.Test.YtodghgeghpbdlaaBpL
import Derived.Test.YtodghgeghpbdlaaLTold
import Derived.Shelf.Abstract
import Derived.Shelf.RegionOpen
import Derived.WalkKit
import Derived.OwnWalkIn
import Derived.TacticsInMore
import Derived.LoopNIn
import Derived.LoopIn
namespace Go.Proofs.Ytodghgeghpbdlaa
open Go.RowKit Go.Maps Go.Shelf
attribute [local go_sem] Oper.semAt_some
set_option maxRecDepth 100000

theorem all_p {w : World} (p : Nat) :
    Calls Try.prog 114 #[.pointer (some ⟨p, 0, none⟩)] w fun e w' => e = .returned (.func (.func 132) #[] #[.pointer (some ⟨w.heap.size, 0, none⟩)]) ∧ w' = w.alloc (.cells #[.pointer (some ⟨p, 0, none⟩)] 132) := by
  go_enter Try.func114, Try.ntmps114
  go_wp2
  go_ret
  exact ⟨rfl, rfl⟩
/-- The handle that stands at a place; 0 behind the last. -/
def hAt (row : List Nat) (j : Nat) : Nat := row[j]?.getD 0
theorem hAt_zero {row : List Nat} (h0 : 0 ∉ row) {j : Nat} : hAt row j = 0 ↔ row.length ≤ j := by
  unfold hAt
  constructor
  · intro e
    rcases Nat.lt_or_ge j row.length with h | h
    · rw [List.getElem?_eq_getElem h] at e
      exact absurd (List.getElem_mem h) (by simp at e; rw [e]; exact h0)
    · exact h
  · intro h; rw [List.getElem?_eq_none h]; rfl
theorem hAt_next {row : List Nat} (hn : row.Nodup) (h0 : 0 ∉ row) {j : Nat} (hj : j < row.length) : nxI row (hAt row j : Int) = hAt row (j + 1) := by
  unfold nxI hAt
  rw [if_neg (by omega)]
  have e : row[j]? = some row[j] := List.getElem?_eq_getElem hj
  rw [e]
  exact nx0_at hn h0 (by simp)
theorem hAt_first {row : List Nat} : nxI row 0 = hAt row 0 := by
  unfold nxI hAt
  cases row <;> simp [nx]
theorem hAt_mem {row : List Nat} {j : Nat} (hj : j < row.length) : hAt row j ∈ row := by
  unfold hAt
  rw [List.getElem?_eq_getElem hj]
  exact List.getElem_mem hj
theorem hAt_rise {row : List Nat} (hr : row.Pairwise (fun a b => a < b)) {j : Nat} (hj : j + 1 < row.length) : hAt row j < hAt row (j + 1) := by
  unfold hAt
  rw [List.getElem?_eq_getElem (by omega), List.getElem?_eq_getElem hj]
  exact List.pairwise_iff_getElem.1 hr j (j + 1) (by omega) hj (by omega)
def encO (x : Nat × (ByteArray × Option Nat)) : Array Value := #[.int .i64 (x.1 : Int), .agg #[.string x.2.1, .map x.2.2]]
section
variable (B p bc : Nat) (m : Value) (g : Nat → Nat) (row : List Nat) (vals : List (ByteArray × Option Nat))
def KnO (_ : List (Nat × (ByteArray × Option Nat))) (V : World) : Prop := LstP V B p m g row vals ∧ Blk V bc 132 #[.pointer (some ⟨p, 0, none⟩)]
def OkO (pre : List (Nat × (ByteArray × Option Nat))) (x : Nat × (ByteArray × Option Nat)) : Prop := row[pre.length]? = some x.1 ∧ vals[x.1 - 1]? = some x.2
def EndO (xs : List (Nat × (ByteArray × Option Nat))) : Prop := xs.length = row.length

set_option maxHeartbeats 4000000 in
theorem all_told_p (hrise : row.Pairwise (fun a b => a < b)) (hb : vals.length ≤ 5000) (n : Nat) (w : World) :
    SeqTold Fence.wide n Try.prog 132 #[.pointer (some ⟨bc, 0, none⟩)] encO (KnO B p bc m g row vals) (OkO row vals) (EndO row) w := by
  intro l J Jx W hW hJ hJx hKn hY h0
  have step : ∀ {pre V V'}, J pre V → Kept Nil V V' → J pre V' := fun {pre V V'} h k => hJ pre V V' none h (k.toGrown none) (fun r e => by cases e)
  refine callsIn_of_wp Try.func132 rfl trivial ?_ rfl
  obtain ⟨hl, hbc⟩ := hKn _ _ h0
  have q0 := hbc.cell 0
  have HNo := Lib.hid hl.nodup
  have HZe := Lib.hid hl.zero
  have HRg := Lib.hid hl.range
  simp only [List.getElem?_toArray, List.getElem?_cons_zero] at q0
  simp only [Try.ntmps132, List.size_toArray, List.length_cons, List.length_nil, Nat.reduceAdd, Nat.reduceSub, Array.replicate_succ, Array.replicate_zero, List.push_toArray, List.append_toArray, List.nil_append, List.cons_append]
  have CN := Lib.hid (fun V (hl : LstP V B p m g row vals) (k : Int) (hk : (Lit.int .i64 k).wf = true) => next_p hl (by omega) hk)
  have HRise := Lib.hid hrise
  clear hrise
  gi_wp2
  refine ⟨trivial, fun h => (by cases h), (callsIn_wide.2 (CN.out _ hl 0 (by decide))).mono ?_⟩
  rintro e V1 ⟨rfl, k1⟩
  rw [hAt_first]
  have H1 := Lib.hid (step h0 k1)
  clear k1 hl hbc q0
  gi_wp2
  gi_loopw [3] (fun hv wr => ∃ pre : List (Nat × (ByteArray × Option Nat)), pre.length ≤ row.length ∧ hv = .int .i64 (hAt row pre.length : Nat) ∧ J pre wr) (fun hv _ => if intOf hv = 0 then 0 else 10000 - (intOf hv).toNat)
  case atStart => exact ⟨[], Nat.zero_le _, rfl, H1.out⟩
  case round =>
    obtain ⟨pre, hple, rfl, hj⟩ := hrel
    have HJ := Lib.hid hj
    have HPL := Lib.hid hple
    obtain ⟨hl, hbc⟩ := hKn _ _ hj
    have HL := Lib.hid hl
    have q0 := hbc.cell 0
    simp only [List.getElem?_toArray, List.getElem?_cons_zero] at q0
    clear hj hl hbc hple
    by_cases hN : hAt row pre.length = 0
    · have HE := Lib.hid (show pre.length = row.length from Nat.le_antisymm HPL.out ((hAt_zero HZe.out).1 hN))
      rw [hN]
      clear hN
      gi_wp2
      go_end0
      exact ⟨⟨_, rfl⟩, .inl ⟨pre, HE.out, HJ.out⟩⟩
    · have hlt : pre.length < row.length := Nat.lt_of_not_le (fun h => hN ((hAt_zero HZe.out).2 h))
      have hmem := hAt_mem hlt
      have hx0 : row[pre.length]? = some (hAt row pre.length) := by unfold hAt; rw [List.getElem?_eq_getElem hlt]; rfl
      have hnx := hAt_next HNo.out HZe.out hlt
      have HLT := Lib.hid hlt
      have HMS := Lib.hid (fun h => hAt_rise HRise.out (j := pre.length) h)
      obtain ⟨x, hx⟩ : ∃ x, x = hAt row pre.length := ⟨_, rfl⟩
      rw [← hx] at hmem hN hx0 hnx HMS ⊢
      have hr := HRg.out x hmem
      obtain ⟨v, hv, _⟩ := HL.out.cell x hmem
      have hne : ((x : Int) != 0) = true := by simp [hN]
      have HV := Lib.hid hv
      have HM := Lib.hid hmem
      have HN := Lib.hid hN
      have HX0 := Lib.hid hx0
      have HNX := Lib.hid hnx
      clear hx hv hmem hN hlt hx0 hnx
      gi_wp2
      refine ⟨trivial, fun h => (by cases h), (callsIn_wide.2 (getH_p HL.out (by omega) HM.out HV.out)).mono ?_⟩
      rintro e V2 ⟨rfl, k2⟩
      obtain ⟨V2', hV2'⟩ : ∃ V2', V2' = V2.alloc (.cells #[.string v.1, .map v.2] 136) := ⟨_, rfl⟩
      have HJ2 := Lib.hid (step (step HJ.out k2) (hV2' ▸ (Kept.refl Nil V2).alloc _))
      obtain ⟨fn, tmps, assign, body, hy, hR⟩ := hY pre (x, v) V2' HJ2.out ⟨HX0.out, HV.out⟩
      dsimp only [encO] at hy
      rw [hV2'] at hy hR
      have HR := Lib.hid hR
      clear k2 hR hV2'
      gi_wp2
      refine ⟨fun h => (by cases h), HR.out.mono ?_⟩
      rintro e V3 (⟨rfl, hj3⟩ | ⟨rfl, hx3⟩)
      · have HJ3 := Lib.hid hj3
        obtain ⟨hl3, hbc3⟩ := hKn _ _ hj3
        have q3 := hbc3.cell 0
        simp only [List.getElem?_toArray, List.getElem?_cons_zero] at q3
        have HL3 := Lib.hid hl3
        clear hj3 hl3 hbc3 q0
        gi_wp2
        refine ⟨trivial, fun h => (by cases h), (callsIn_wide.2 (CN.out _ HL3.out (x : Int) (WalkArith.wf_i64 (by omega)))).mono ?_⟩
        rintro e V4 ⟨rfl, k4⟩
        have HJ4 := Lib.hid (step HJ3.out k4)
        rw [HNX.out]
        clear k4
        gi_wp2
        go_roundw
        case rel => exact ⟨pre ++ [(x, v)], by have := HLT.out; simp; omega, by simp, HJ4.out⟩
        case measure =>
          have hn0 := HN.out
          by_cases h : pre.length + 1 < row.length
          · have := HMS.out h
            have h2 : hAt row (pre.length + 1) ≠ 0 := by omega
            simp [intOf, hn0, h2]; omega
          · have h2 : hAt row (pre.length + 1) = 0 := (hAt_zero HZe.out).2 (by omega)
            simp [intOf, hn0, h2]; omega
      · have HX3 := Lib.hid hx3
        clear hx3
        gi_wp2
        refine bodyPost_ret (results_none rfl _ _ _) rfl ?_
        exact ⟨⟨_, rfl⟩, .inr ⟨_, HX3.out⟩⟩
end
end Go.Proofs.Ytodghgeghpbdlaa
