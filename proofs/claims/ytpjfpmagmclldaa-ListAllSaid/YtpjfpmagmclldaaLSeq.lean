/- All of a list of numbers: the iterator, whatever becomes of the list between two rounds. -/
import Derived.Test.YtpjfpmagmclldaaLTold
import Derived.Test.YtpjfpmagmclldaaLiE
import Derived.Shelf.Abstract
import Derived.Shelf.RegionOpen
import Derived.WalkKit
import Derived.OwnWalkIn
import Derived.TacticsInMore
import Derived.LoopNIn
import Derived.LoopIn
namespace Go.Proofs.Ytpjfpmagmclldaa
open Go.RowKit Go.Maps Go.Shelf
attribute [local go_sem] Oper.semAt_some
set_option maxRecDepth 100000

/-- What stands behind rises. -/
theorem nx_rise {h : Nat} : ∀ {r : List Nat}, r.Pairwise (· < ·) → nx r h = 0 ∨ h < nx r h
  | [], _ => .inl rfl
  | x :: r, hp => by
    have h1 := List.pairwise_cons.1 hp
    unfold nx
    split
    · rename_i e
      subst e
      cases r with
      | nil => exact .inl rfl
      | cons y r => exact .inr (h1.1 y (by simp))
    · exact nx_rise h1.2

theorem all_i {w : World} (p : Nat) :
    Calls Try.prog 23 #[.pointer (some ⟨p, 0, none⟩)] w fun e w' => e = .returned (.func (.func 39) #[] #[.pointer (some ⟨w.heap.size, 0, none⟩)]) ∧ w' = w.alloc (.cells #[.pointer (some ⟨p, 0, none⟩)] 47) := by
  go_enter Try.func23, Try.ntmps23
  go_wp2
  go_ret
  exact ⟨rfl, rfl⟩

def lastH (pre : List (Nat × Int)) : Nat := (pre.getLast?.map (·.1)).getD 0
theorem lastH_nil : lastH [] = 0 := rfl
theorem lastH_snoc (pre : List (Nat × Int)) (x : Nat × Int) : lastH (pre ++ [x]) = x.1 := by simp [lastH]
def encX (x : Nat × Int) : Array Value := #[.int .i64 (x.1 : Int), .int .i64 x.2]
section
variable (St : List (Nat × Int) → List Nat × List Int) (B p bc : Nat)
/-- What the rounds so far have made of the list. -/
def KnL (pre : List (Nat × Int)) (V : World) : Prop := ∃ m g, LstI V B p m g (St pre).1 (St pre).2 ∧ Blk V bc 47 #[.pointer (some ⟨p, 0, none⟩)]
def OkL (pre : List (Nat × Int)) (x : Nat × Int) : Prop := x.1 ≠ 0 ∧ nxI (St pre).1 (lastH pre : Int) = x.1 ∧ (St pre).2[x.1 - 1]? = some x.2
def EndL (xs : List (Nat × Int)) : Prop := nxI (St xs).1 (lastH xs : Int) = 0

theorem nxI_mem {row : List Nat} {k : Int} : nxI row k = 0 ∨ nxI row k ∈ row := by
  unfold nxI
  split
  · exact .inl rfl
  · exact nx_mem0
theorem nxI_rise {row : List Nat} {k : Nat} (h : (0 :: row).Pairwise (· < ·)) : nxI row (k : Int) = 0 ∨ k < nxI row (k : Int) := by
  unfold nxI
  rw [if_neg (by omega)]
  exact nx_rise h

set_option maxHeartbeats 4000000 in
theorem all_told (hrise : ∀ pre, (0 :: (St pre).1).Pairwise (· < ·)) (hb : ∀ pre, (St pre).2.length ≤ 100) (n : Nat) (w : World) :
    SeqTold Fence.wide n Try.prog 39 #[.pointer (some ⟨bc, 0, none⟩)] encX (KnL St B p bc) (OkL St) (EndL St) w := by
  intro l J Jx W hW hJ hJx hKn hY h0
  have step : ∀ {pre V V'}, J pre V → Kept Nil V V' → J pre V' := fun {pre V V'} h k => hJ pre V V' none h (k.toGrown none) (fun r e => by cases e)
  refine callsIn_of_wp Try.func39 rfl trivial ?_ rfl
  obtain ⟨m, g, hl, hbc⟩ := hKn _ _ h0
  have q0 := hbc.cell 0
  simp only [Try.ntmps39, List.size_toArray, List.length_cons, List.length_nil, Nat.reduceAdd, Nat.reduceSub, Array.replicate_succ, Array.replicate_zero, List.push_toArray, List.append_toArray, List.nil_append, List.cons_append]
  gi_wp2
  refine ⟨trivial, fun h => (by cases h), (callsIn_wide.2 (next_i hl (by have := hb []; omega) (k := 0) (by decide))).mono ?_⟩
  rintro e V1 ⟨rfl, k1⟩
  have H1 := Lib.hid (step h0 k1)
  clear k1 hl hbc q0
  gi_wp2
  gi_loopw [3] (fun hv wr => ∃ pre : List (Nat × Int), hv = .int .i64 (nxI (St pre).1 (lastH pre : Int) : Nat) ∧ J pre wr) (fun hv _ => if intOf hv = 0 then 0 else 1000 - (intOf hv).toNat)
  case atStart => exact ⟨[], rfl, H1.out⟩
  case round =>
    obtain ⟨pre, rfl, hj⟩ := hrel
    have HJ := Lib.hid hj
    obtain ⟨m, g, hl, hbc⟩ := hKn _ _ hj
    have HL := Lib.hid hl
    have q0 := hbc.cell 0
    clear hj hl hbc
    by_cases hN : nxI (St pre).1 (lastH pre : Int) = 0
    · have HE := Lib.hid hN
      rw [hN]
      clear hN
      gi_wp2
      go_end0
      exact ⟨⟨_, rfl⟩, .inl ⟨pre, HE.out, HJ.out⟩⟩
    · have hmem := nxI_mem.resolve_left hN
      obtain ⟨x, hx⟩ : ∃ x, x = nxI (St pre).1 (lastH pre : Int) := ⟨_, rfl⟩
      rw [← hx] at hmem hN ⊢
      have hr := HL.out.range x hmem
      obtain ⟨v, hv, _⟩ := HL.out.cell x hmem
      have hbn := hb pre
      have hne : ((x : Int) != 0) = true := by simp [hN]
      have HX := Lib.hid hx
      have HV := Lib.hid hv
      have HM := Lib.hid hmem
      have HN := Lib.hid hN
      clear hx hv hmem hN
      gi_wp2
      refine ⟨trivial, fun h => (by cases h), (callsIn_wide.2 (getH_i HL.out (by omega) HM.out HV.out)).mono ?_⟩
      rintro e V2 ⟨rfl, k2⟩
      have HJ2 := Lib.hid (step HJ.out k2)
      obtain ⟨fn, tmps, assign, body, hy, hR⟩ := hY pre (x, v) V2 HJ2.out ⟨HN.out, HX.out.symm, HV.out⟩
      dsimp only [encX] at hy
      have HR := Lib.hid hR
      clear k2 hR
      gi_wp2
      refine ⟨fun h => (by cases h), HR.out.mono ?_⟩
      rintro e V3 (⟨rfl, hj3⟩ | ⟨rfl, hx3⟩)
      · have HJ3 := Lib.hid hj3
        obtain ⟨m3, g3, hl3, hbc3⟩ := hKn _ _ hj3
        have q3 := hbc3.cell 0
        have hb3 := hb (pre ++ [(x, v)])
        have HL3 := Lib.hid hl3
        clear hj3 hl3 hbc3 q0
        gi_wp2
        refine ⟨trivial, fun h => (by cases h), (callsIn_wide.2 (next_i HL3.out (by omega) (k := (x : Int)) (WalkArith.wf_i64 (by omega)))).mono ?_⟩
        rintro e V4 ⟨rfl, k4⟩
        have HJ4 := Lib.hid (step HJ3.out k4)
        have hrs := nxI_rise (k := x) (hrise (pre ++ [(x, v)]))
        have hlast : (lastH (pre ++ [(x, v)]) : Int) = (x : Int) := by rw [lastH_snoc]
        have HLa := Lib.hid hlast
        have HR2 := Lib.hid hrs
        clear k4 hlast hrs
        gi_wp2
        go_roundw
        case rel => exact ⟨pre ++ [(x, v)], by rw [HLa.out], HJ4.out⟩
        case measure =>
          have hn0 := HN.out
          rcases HR2.out with h | h
          · rw [h]; simp [intOf, hn0]; omega
          · have h1 : nxI (St (pre ++ [(x, v)])).1 (x : Int) ≠ 0 := by omega
            simp [intOf, hn0, h1]; omega
      · have HX3 := Lib.hid hx3
        clear hx3
        gi_wp2
        refine bodyPost_ret (results_none rfl _ _ _) rfl ?_
        exact ⟨⟨_, rfl⟩, .inr ⟨_, HX3.out⟩⟩
end
end Go.Proofs.Ytpjfpmagmclldaa
