/- Layer key: the contract of Of: the key of terms. -/
import Derived.Test.YtjknibgbbhiooaaDoorKKey
import Derived.Test.YtjknibgbbhiooaaDoorKTerm
namespace Go.Proofs.YtjknibgbbhiooaaDoor
open Go.RowKit
set_option maxRecDepth 100000

set_option maxHeartbeats 1000000 in
theorem of_any (x0 x1 x2 : Bool) (n0 n1 n2 : Int) (w : World) :
    Calls Tryd.prog 17 #[valL x0 x1 x2 n0 n1 n2] w fun e w' => e = .returned (.agg #[.int .i64 (ofF x0 n0), .int .i64 (ofF x1 n1), .int .i64 (ofF x2 n2)]) ∧ Kept Nil w w' := by
  obtain ⟨i0, i1, i2⟩ := idxL3 x0 x1 x2 n0 n1 n2
  have A0 := Lib.hid (Acc.start 34 23 w #[.bool x0, .int .i64 n0, .bool x1, .int .i64 n1, .bool x2, .int .i64 n2] (c3 0 0 0) (c3 0 0 0))
  go_enter Tryd.func17, Tryd.ntmps17
  go_wp2_with fail
  go_loopw [7] (fun i wr => (i = .int .i64 0 ∧ Acc 34 23 w #[.bool x0, .int .i64 n0, .bool x1, .int .i64 n1, .bool x2, .int .i64 n2] (c3 0 0 0) (c3 0 0 0) wr)
    ∨ (i = .int .i64 1 ∧ Acc 34 23 w #[.bool x0, .int .i64 n0, .bool x1, .int .i64 n1, .bool x2, .int .i64 n2] (c3 0 0 0) (c3 (ofF x0 n0) 0 0) wr)
    ∨ (i = .int .i64 2 ∧ Acc 34 23 w #[.bool x0, .int .i64 n0, .bool x1, .int .i64 n1, .bool x2, .int .i64 n2] (c3 0 0 0) (c3 (ofF x0 n0) (ofF x1 n1) 0) wr)
    ∨ (i = .int .i64 3 ∧ Acc 34 23 w #[.bool x0, .int .i64 n0, .bool x1, .int .i64 n1, .bool x2, .int .i64 n2] (c3 0 0 0) (c3 (ofF x0 n0) (ofF x1 n1) (ofF x2 n2)) wr)) (fun i _ => (3 - intOf i).toNat)
  case atStart => exact .inl ⟨rfl, A0.out⟩
  case round =>
    rcases hrel with ⟨rfl, h⟩ | ⟨rfl, h⟩ | ⟨rfl, h⟩ | ⟨rfl, h⟩
    · have H := Lib.hid h
      obtain ⟨_, _, ⟨q0, q1, q2⟩, f0, f1, f2⟩ := h.facts
      have hl : w.heap.size + 1 + 1 < wr.heap.size := h.b2.lt
      clear h A0
      cases x0
      · go_wp2_with fail
        go_roundw
        case rel => exact .inr (.inl ⟨rfl, (H.out.set_ 0 (.int .i64 n0)).alloc _⟩)
        case measure => decide
      · go_wp2_with fail
        go_roundw
        case rel => exact .inr (.inl ⟨rfl, H.out.alloc _⟩)
        case measure => decide
    · have H := Lib.hid h
      obtain ⟨_, _, ⟨q0, q1, q2⟩, f0, f1, f2⟩ := h.facts
      have hl : w.heap.size + 1 + 1 < wr.heap.size := h.b2.lt
      clear h A0
      cases x1
      · go_wp2_with fail
        go_roundw
        case rel => exact .inr (.inr (.inl ⟨rfl, (H.out.set_ 1 (.int .i64 n1)).alloc _⟩))
        case measure => decide
      · go_wp2_with fail
        go_roundw
        case rel => exact .inr (.inr (.inl ⟨rfl, H.out.alloc _⟩))
        case measure => decide
    · have H := Lib.hid h
      obtain ⟨_, _, ⟨q0, q1, q2⟩, f0, f1, f2⟩ := h.facts
      have hl : w.heap.size + 1 + 1 < wr.heap.size := h.b2.lt
      clear h A0
      cases x2
      · go_wp2_with fail
        go_roundw
        case rel => exact .inr (.inr (.inr (⟨rfl, (H.out.set_ 2 (.int .i64 n2)).alloc _⟩)))
        case measure => decide
      · go_wp2_with fail
        go_roundw
        case rel => exact .inr (.inr (.inr (⟨rfl, H.out.alloc _⟩)))
        case measure => decide
    · have H := Lib.hid h
      obtain ⟨⟨q0, q1, q2⟩, ⟨f0, f1, f2⟩, ⟨v0, v1, v2⟩, _, _, _⟩ := h.facts
      have hl : w.heap.size + 1 + 1 < wr.heap.size := h.b2.lt
      clear h A0
      go_wp2_with fail
      refine bodyPost_ret (v := .agg #[.int .i64 (ofF x0 n0), .int .i64 (ofF x1 n1), .int .i64 (ofF x2 n2)]) (by simp [results, Tryd.results17, go_sem, q0, q1, q2]) rfl ⟨rfl, H.out.done _ _ _⟩
end Go.Proofs.YtjknibgbbhiooaaDoor
