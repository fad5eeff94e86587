/- Layer term: the law's Pairs, the reference's Get. -/
import Derived.Test.YtefojaeinhgeiaaUPairs
import Derived.Test.YtefojaeinhgeiaaUPairM
namespace Go.Proofs.Ytefojaeinhgeiaa
open Go.RowKit

def PairsEnd (b : Bd) (w : World) (e : Ending) (w' : World) : Prop := ∃ v, e = .returned v ∧ QRow w' w.heap.size v (pairsTo 33 b) ∧ Kept Nil w w'
set_option maxHeartbeats 1000000 in
theorem get_any {w : World} {B : Nat} {v : Value} {ps : List P2} (h : QRow w B v ps) (hl : ps.length ≤ 5000) (x : Int) :
    Calls Try.prog 21 #[v, .int .i64 x] w fun e w' => e = .returned (.int .i64 (getP ps x)) ∧ Kept Nil w w' := by
  have H := Lib.hid h
  obtain ⟨a, cap, rfl, hcap⟩ := h.shape
  clear h hcap
  generalize hn : ps.length = len at hl
  have HN := Lib.hid hn
  clear hn
  go_enter Try.func21, Try.ntmps21
  go_wp2_with fail
  go_loopw [9] (fun i wr => ∃ j : Nat, j ≤ len ∧ i = .int .i64 j ∧ getP (ps.drop j) x = getP ps x ∧ Kept Nil w wr) (fun i _ => len - (intOf i).toNat)
  case atStart => exact ⟨0, by omega, rfl, rfl, Kept.refl _ _⟩
  case round =>
    obtain ⟨j, hj, rfl, hg, hK⟩ := hrel
    have HG := Lib.hid hg
    have HK := Lib.hid hK
    clear hg
    by_cases hlt : j < len
    · obtain ⟨p, hp⟩ : ∃ p, ps[j]? = some p := ⟨_, List.getElem?_eq_getElem (by have := HN.out; omega)⟩
      have HD : Hid (ps.drop j = p :: ps.drop (j + 1)) := by
        obtain ⟨hl', e⟩ := List.getElem?_eq_some_iff.1 hp
        show _ = _
        rw [← e]
        exact List.drop_eq_getElem_cons hl'
      obtain ⟨g, cap', e, c0, c1, hb⟩ := (H.out.kept hK).at_ hp
      obtain ⟨rfl, _, rfl⟩ : a = some ⟨g, 0, none⟩ ∧ len = ps.length ∧ cap = cap' := by
        have := HN.out
        simp at e
        exact ⟨e.1, by omega, e.2⟩
      obtain ⟨n, s⟩ := p
      clear hK hp e
      by_cases en : n = x
      · obtain rfl := en
        have HS : Hid (s = getP ps n) := by
          have h1 := HG.out
          rw [HD.out] at h1
          have h2 : getP ((n, s) :: ps.drop (j + 1)) n = s := by simp [getP]
          exact h2.symm.trans h1
        go_wp2_with fail
        go_ret
        exact ⟨ret_int HS.out, HK.out.alloc _⟩
      · have hn : (n == x) = false := by simpa using en
        have HS : Hid (getP (ps.drop (j + 1)) x = getP ps x) := by
          have h1 := HG.out
          rw [HD.out] at h1
          have h2 : getP ((n, s) :: ps.drop (j + 1)) x = getP (ps.drop (j + 1)) x := by simp [getP, en]
          exact h2.symm.trans h1
        clear en
        go_wp2_with fail
        go_roundw
        case rel => exact ⟨j + 1, by omega, by go_num, HS.out, HK.out.alloc _⟩
        case measure => simp [intOf]; omega
    · have HS : Hid (getP ps x = 0) := by
        have h1 := HG.out
        rw [List.drop_eq_nil_of_le (by have := HN.out; omega)] at h1
        exact h1.symm
      obtain rfl : j = len := by omega
      clear hK
      go_wp2_with fail
      go_ret
      exact ⟨ret_int HS.out.symm, HK.out⟩
end Go.Proofs.Ytefojaeinhgeiaa
