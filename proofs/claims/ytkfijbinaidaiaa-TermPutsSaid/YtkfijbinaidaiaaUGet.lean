/- Layer term: the law's Pairs, the reference's Get. -/
import Derived.Test.YtkfijbinaidaiaaUPairs
import Derived.Test.YtkfijbinaidaiaaUPairM
namespace Go.Proofs.Ytkfijbinaidaiaa
open Go.RowKit

theorem idxB (b : Bd) {j : Nat} (hj : j < 33) (w : World) : (Instr.index 37 (.agg (cellsB b)) (.int .i64 j)).run Try.prog w = .ok (.int .i64 (b j)) w := by
  have h1 : Try.prog.underlying 37 = some (.array 33 3) := Try.underlying37
  have hs : ∀ w, (sizeOf 3).run Try.prog w = .ok 1 w := Try.sizeOf3
  have hp : ∀ w, (part 3 (cellsB b) j).run Try.prog w = .ok (.int .i64 (b j)) w := fun w => by
    simp [part, isAgg, run_underlying Try.underlying3, cellsB_get b hj]
  have hc : (0 : Int) ≤ (j : Int) ∧ (j : Int) < 33 := by omega
  simp [Instr.index, asIntOf, run_underlying h1, hs, hp, hc, hj]

def PairsEnd (b : Bd) (w : World) (e : Ending) (w' : World) : Prop := ∃ v, e = .returned v ∧ PRow w' w.heap.size v (pairsTo 33 b) ∧ Kept Nil w w'
set_option maxHeartbeats 1000000 in
theorem pairs_any (b : Bd) (w : World) : Calls Try.prog 19 #[.agg (cellsB b)] w (PairsEnd b w) := by
  have B0 := Lib.hid (Blk.new w 37 (cellsB b))
  have K0 := Lib.hid ((Kept.refl Nil w).alloc (.cells (cellsB b) 37))
  go_enter Try.func19, Try.ntmps19
  go_wp2_with ((with_reducible refine wpList_load_bind rfl (.tmp 1) rfl _ rfl b ?_ ?_)
               · exact B0.out)
  go_loopw [3, 7] (fun v i wr => ∃ j : Nat, j ≤ 33 ∧ i = .int .i64 j ∧ PRow wr w.heap.size v (pairsTo j b) ∧ Kept Nil w wr) (fun _ i _ => 33 - (intOf i).toNat)
  case atStart => exact ⟨0, by omega, rfl, PRow.nil _ _, K0.out⟩
  case round =>
    obtain ⟨j, hj, rfl, hR, hK⟩ := hrel
    have HR := Lib.hid hR
    have HK := Lib.hid hK
    clear hR hK B0 K0
    by_cases hlt : j < 33
    · have hidx := idxB b hlt
      by_cases h0 : 0 < j
      · by_cases h1 : 0 < b j
        · have HM := Lib.hid (pairsTo_more h0 h1)
          generalize hq : b j = q at hidx h1 HM
          have R1 := Lib.hid (appendP_one wr HR.out HK.out.size (by have := pairsTo_len j b; omega) j q)
          clear hq
          obtain ⟨v', w', r1, o1, g1⟩ := R1.out
          have RR := Lib.hid r1
          have O1 := Lib.hid o1
          have G1 := Lib.hid g1
          clear r1 o1 g1 R1
          go_wp2_with (at_builtin; refine wpList_append_run rfl (.tmp 17) (.tmp 21) 43 rfl _ _ rfl rfl RR.out ?_)
          go_roundw
          case rel => exact ⟨j + 1, by omega, by go_num, by rw [HM.out]; exact O1.out, (HK.out.alloc _).grown G1.out (fun k hk => .inr (HR.out.own k hk))⟩
          case measure => simp [intOf]; omega
        · have HM := Lib.hid (pairsTo_skip (b := b) (j := j) (by simp [h1]))
          generalize b j = q at hidx h1 HM
          go_wp2_with fail
          go_roundw
          case rel => exact ⟨j + 1, by omega, by go_num, by rw [HM.out]; exact HR.out, HK.out⟩
          case measure => simp [intOf]; omega
      · have HM := Lib.hid (pairsTo_skip (b := b) (j := j) (by simp [h0]))
        generalize b j = q at hidx
        have hd : decide (0 < j) = false := decide_eq_false h0
        go_wp2_with fail
        go_roundw
        case rel => exact ⟨j + 1, by omega, by go_num, by rw [HM.out]; exact HR.out, HK.out⟩
        case measure => simp [intOf]; omega
    · obtain rfl : j = 33 := by omega
      go_wp2_with fail
      go_ret
      exact ⟨_, rfl, HR.out, HK.out⟩

set_option maxHeartbeats 1000000 in
theorem get_any {w : World} {B : Nat} {v : Value} {ps : List P2} (h : PRow w B v ps) (hl : ps.length ≤ 5000) (x : Int) :
    Calls Try.prog 20 #[v, .int .i64 x] w fun e w' => e = .returned (.int .i64 (getP ps x)) ∧ Kept Nil w w' := by
  have H := Lib.hid h
  obtain ⟨a, cap, rfl, hcap⟩ := h.shape
  clear h hcap
  generalize hn : ps.length = len at hl
  have HN := Lib.hid hn
  clear hn
  go_enter Try.func20, Try.ntmps20
  go_wp2_with fail
  go_loopw [9] (fun i wr => ∃ j : Nat, j ≤ len ∧ i = .int .i64 j ∧ getP (ps.drop j) x = getP ps x ∧ Kept Nil w wr) (fun i _ => len - (intOf i).toNat)
  case atStart => exact ⟨0, by omega, rfl, rfl, Kept.refl _ _⟩
  case round =>
    obtain ⟨j, hj, rfl, hg, hK⟩ := hrel
    have HG := Lib.hid hg
    have HK := Lib.hid hK
    clear hg
    by_cases hlt : j < len
    · obtain ⟨p, hp⟩ : ∃ p, ps[j]? = some p := ⟨_, List.getElem?_eq_getElem (by have := HN.out; omega)⟩
      have HD : Hid (ps.drop j = p :: ps.drop (j + 1)) := by
        obtain ⟨hl', e⟩ := List.getElem?_eq_some_iff.1 hp
        show _ = _
        rw [← e]
        exact List.drop_eq_getElem_cons hl'
      obtain ⟨g, cap', e, c0, c1, hb⟩ := (H.out.kept hK).at_ hp
      obtain ⟨rfl, _, rfl⟩ : a = some ⟨g, 0, none⟩ ∧ len = ps.length ∧ cap = cap' := by
        have := HN.out
        simp at e
        exact ⟨e.1, by omega, e.2⟩
      obtain ⟨n, s⟩ := p
      clear hK hp e
      by_cases en : n = x
      · obtain rfl := en
        have HS : Hid (s = getP ps n) := by
          have h1 := HG.out
          rw [HD.out] at h1
          have h2 : getP ((n, s) :: ps.drop (j + 1)) n = s := by simp [getP]
          exact h2.symm.trans h1
        go_wp2_with fail
        go_ret
        exact ⟨ret_int HS.out, HK.out.alloc _⟩
      · have hn : (n == x) = false := by simpa using en
        have HS : Hid (getP (ps.drop (j + 1)) x = getP ps x) := by
          have h1 := HG.out
          rw [HD.out] at h1
          have h2 : getP ((n, s) :: ps.drop (j + 1)) x = getP (ps.drop (j + 1)) x := by simp [getP, en]
          exact h2.symm.trans h1
        clear en
        go_wp2_with fail
        go_roundw
        case rel => exact ⟨j + 1, by omega, by go_num, HS.out, HK.out.alloc _⟩
        case measure => simp [intOf]; omega
    · have HS : Hid (getP ps x = 0) := by
        have h1 := HG.out
        rw [List.drop_eq_nil_of_le (by have := HN.out; omega)] at h1
        exact h1.symm
      obtain rfl : j = len := by omega
      clear hK
      go_wp2_with fail
      go_ret
      exact ⟨ret_int HS.out.symm, HK.out⟩
end Go.Proofs.Ytkfijbinaidaiaa
