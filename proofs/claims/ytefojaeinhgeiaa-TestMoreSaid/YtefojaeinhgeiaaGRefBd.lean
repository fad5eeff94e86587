/- Layer comp: the reference's Bound (of layer 6). -/
import Derived.Test.YtefojaeinhgeiaaGF
namespace Go.Proofs.Ytefojaeinhgeiaa
open Go.RowKit
set_option maxRecDepth 100000

theorem hitF_0 {h : Hd} {v : Int} (e0 : decide (true = h.x0 ∧ v = h.n0) = true) : hitF h v = 0 := by unfold hitF first3; rw [e0]; rfl
theorem hitF_1 {h : Hd} {v : Int} (e0 : decide (true = h.x0 ∧ v = h.n0) = false) (e1 : decide (true = h.x1 ∧ v = h.n1) = true) : hitF h v = 1 := by unfold hitF first3; rw [e0, e1]; rfl
theorem hitF_2 {h : Hd} {v : Int} (e0 : decide (true = h.x0 ∧ v = h.n0) = false) (e1 : decide (true = h.x1 ∧ v = h.n1) = false) (e2 : decide (true = h.x2 ∧ v = h.n2) = true) : hitF h v = 2 := by unfold hitF first3; rw [e0, e1, e2]; rfl
theorem hitF_no {h : Hd} {v : Int} (e0 : decide (true = h.x0 ∧ v = h.n0) = false) (e1 : decide (true = h.x1 ∧ v = h.n1) = false) (e2 : decide (true = h.x2 ∧ v = h.n2) = false) : hitF h v = -1 := by unfold hitF first3; rw [e0, e1, e2]; rfl
set_option maxHeartbeats 8000000 in
theorem refBound_any (l : List Sh) (hc : l.length ≤ 100) (v : Int) (ok : Nat → Nat → Prop) (a : Option Addr) (cap : Nat) (w : World) (h : Holds cR w ok (.slice a l.length cap) l) :
    Calls Try.prog 27 #[.slice a l.length cap, .int .i64 v] w (FpEnd l v w) := by
  obtain ⟨len, hlen⟩ : ∃ n, l.length = n := ⟨_, rfl⟩
  have HH := Lib.hid h
  rw [hlen] at HH hc ⊢
  have HL := Lib.hid hlen
  have P0 := Lib.hid (Blk.new w 81 zP)
  have K0 := Lib.hid ((Kept.refl Nil w).alloc (.cells zP 81))
  clear h hlen
  go_enter Try.func27, Try.ntmps27
  go_wp2_with fail
  go_loopw [6, 12] (fun bk i wr => ∃ j m : Nat, j ≤ len ∧ m ≤ j ∧ i = .int .i64 j ∧ bk = .int .i64 m ∧ fpL l v 0 = fpL (l.drop j) v m ∧ Blk wr w.heap.size 81 zP ∧ Kept Nil w wr) (fun _ i _ => len - (intOf i).toNat)
  case atStart => exact ⟨0, 0, by omega, by omega, rfl, rfl, rfl, P0.out, K0.out⟩
  case round =>
    rename World => wo
    obtain ⟨j, m, hj, hm, rfl, rfl, hf, hP, hK⟩ := hrel
    have HF := Lib.hid hf
    have HP := Lib.hid hP
    have HK := Lib.hid hK
    clear hf hP hK P0 K0
    by_cases hlt : j < len
    · obtain ⟨⟨⟨k', x0', x1', x2', n0', n1', n2'⟩, sb⟩, hx⟩ : ∃ x, l[j]? = some x := ⟨_, List.getElem?_eq_getElem (by have := HL.out; omega)⟩
      obtain ⟨b, o, a', cap', rfl, hok, hr, hs⟩ := (HH.out.keptN HK.out).at_ hx
      have HRng := Lib.hid hr
      have HD : Hid (fpL (l.drop j) v m = if k' = 1 then (if 0 ≤ hitF ⟨k', x0', x1', x2', n0', n1', n2'⟩ v then some (m, hitF ⟨k', x0', x1', x2', n0', n1', n2'⟩ v) else fpL (l.drop (j + 1)) v (m + 1)) else fpL (l.drop (j + 1)) v m) := Lib.hid (fpL_drop hx v m)
      generalize sb.length = len' at HRng
      clear hx hr hs hok
      by_cases hk1 : k' = 1
      · subst hk1
        have BY := Lib.hid (Blk.new wo 45 (arrR ⟨1, x0', x1', x2', n0', n1', n2'⟩ (.slice a' len' cap')))
        have KY := Lib.hid (HK.out.alloc (.cells (arrR ⟨1, x0', x1', x2', n0', n1', n2'⟩ (.slice a' len' cap')) 45))
        have PY := Lib.hid (HP.out.alloc (.cells (arrR ⟨1, x0', x1', x2', n0', n1', n2'⟩ (.slice a' len' cap')) 45))
        go_wp2_with ((with_reducible refine wpList_load_R rfl (.tmp 14) rfl _ _ rfl ⟨1, x0', x1', x2', n0', n1', n2'⟩ (.slice a' len' cap') ?_ ?_)
                     · exact HRng.out)
        go_loopw [9] (fun i wr => Blk wr wo.heap.size 45 (arrR ⟨1, x0', x1', x2', n0', n1', n2'⟩ (.slice a' len' cap')) ∧ Blk wr w.heap.size 81 zP ∧ Kept Nil w wr ∧ (i = .int .i64 0 ∨ (i = .int .i64 1 ∧ Hid (decide (true = x0' ∧ v = n0') = false)) ∨ (i = .int .i64 2 ∧ Hid (decide (true = x0' ∧ v = n0') = false) ∧ Hid (decide (true = x1' ∧ v = n1') = false)) ∨ (i = .int .i64 3 ∧ Hid (decide (true = x0' ∧ v = n0') = false) ∧ Hid (decide (true = x1' ∧ v = n1') = false) ∧ Hid (decide (true = x2' ∧ v = n2') = false)))) (fun i _ => (3 - intOf i).toNat)
        case atStart => exact ⟨BY.out, PY.out, KY.out, .inl rfl⟩
        case round =>
          obtain ⟨hb, hp, hkk, hi⟩ := hrel
          have HBk := Lib.hid hb
          have HPk := Lib.hid hp
          have HKk := Lib.hid hkk
          clear hb hp hkk BY KY PY HP
          rcases hi with rfl | ⟨rfl, g0⟩ | ⟨rfl, g0, g1⟩ | ⟨rfl, g0, g1, g2⟩
          · have e1 := HBk.out.cell 1
            have e2 := HBk.out.cell 2
            simp [isV] at e1 e2
            cases x0'
            · have G : Hid (decide (true = false ∧ v = n0') = false) := Lib.hid (by simp)
              simp at e1
              go_wp2_with fail
              go_roundw
              case rel => exact ⟨HBk.out, HPk.out, HKk.out, .inr (.inl ⟨rfl, G⟩)⟩
              case measure => decide
            · simp at e1
              by_cases hv : n0' = v
              · have hvb : (n0' == v) = true := by simpa using hv
                have HE : Hid (fpL l v 0 = some (m, 0)) := Lib.hid (by
                  rw [HF.out, HD.out, if_pos trivial, hitF_0 (h := ⟨1, _, _, _, _, _, _⟩)  (by simp [hv])]; rfl)
                have p0 := HPk.out.cell 0
                have p1 := HPk.out.cell 1
                have p2 := HPk.out.cell 2
                have f0 := HPk.out.frozen 0
                have f1 := HPk.out.frozen 1
                have f2 := HPk.out.frozen 2
                simp at p0 p1 p2
                go_wp2_with fail
                have BF : Blk (((wr.setCell ⟨w.heap.size, 0, none⟩ (.int .i64 v)).setCell ⟨w.heap.size, 1, none⟩ (.int .i64 (m : Int))).setCell ⟨w.heap.size, 2, none⟩ (.int .i64 0)) w.heap.size 81 #[.int .i64 v, .int .i64 (m : Int), .int .i64 0] := by
                  simpa using ((HPk.out.set_ 0 (.int .i64 v)).set_ 1 (.int .i64 (m : Int))).set_ 2 (.int .i64 0)
                refine bodyPost_ret (results_pair Try.results27 _ _ _ (.bool true) rfl rfl BF Try.underlying81 (by kernel_rfl)) rfl ⟨by rw [HE.out]; rfl, ?_⟩
                refine Kept.setCell (Kept.setCell (Kept.setCell HKk.out _ (.inr (Nat.le_refl _)) _) _ (.inr (Nat.le_refl _)) _) _ (.inr (Nat.le_refl _)) _
              · have hvb : (n0' == v) = false := by simpa using hv
                have G : Hid (decide (True ∧ v = n0') = false) := Lib.hid (by simp; exact fun e => hv e.symm)
                go_wp2_with fail
                go_roundw
                case rel => exact ⟨HBk.out, HPk.out, HKk.out, .inr (.inl ⟨rfl, G⟩)⟩
                case measure => decide
          · have e1 := HBk.out.cell 3
            have e2 := HBk.out.cell 4
            simp [isV] at e1 e2
            cases x1'
            · have G : Hid (decide (true = false ∧ v = n1') = false) := Lib.hid (by simp)
              simp at e1
              go_wp2_with fail
              go_roundw
              case rel => exact ⟨HBk.out, HPk.out, HKk.out, .inr (.inr (.inl ⟨rfl, g0, G⟩))⟩
              case measure => decide
            · simp at e1
              by_cases hv : n1' = v
              · have hvb : (n1' == v) = true := by simpa using hv
                have HE : Hid (fpL l v 0 = some (m, 1)) := Lib.hid (by
                  rw [HF.out, HD.out, if_pos trivial, hitF_1 (h := ⟨1, _, _, _, _, _, _⟩) g0.out (by simp [hv])]; rfl)
                have p0 := HPk.out.cell 0
                have p1 := HPk.out.cell 1
                have p2 := HPk.out.cell 2
                have f0 := HPk.out.frozen 0
                have f1 := HPk.out.frozen 1
                have f2 := HPk.out.frozen 2
                simp at p0 p1 p2
                go_wp2_with fail
                have BF : Blk (((wr.setCell ⟨w.heap.size, 0, none⟩ (.int .i64 v)).setCell ⟨w.heap.size, 1, none⟩ (.int .i64 (m : Int))).setCell ⟨w.heap.size, 2, none⟩ (.int .i64 1)) w.heap.size 81 #[.int .i64 v, .int .i64 (m : Int), .int .i64 1] := by
                  simpa using ((HPk.out.set_ 0 (.int .i64 v)).set_ 1 (.int .i64 (m : Int))).set_ 2 (.int .i64 1)
                refine bodyPost_ret (results_pair Try.results27 _ _ _ (.bool true) rfl rfl BF Try.underlying81 (by kernel_rfl)) rfl ⟨by rw [HE.out]; rfl, ?_⟩
                refine Kept.setCell (Kept.setCell (Kept.setCell HKk.out _ (.inr (Nat.le_refl _)) _) _ (.inr (Nat.le_refl _)) _) _ (.inr (Nat.le_refl _)) _
              · have hvb : (n1' == v) = false := by simpa using hv
                have G : Hid (decide (True ∧ v = n1') = false) := Lib.hid (by simp; exact fun e => hv e.symm)
                go_wp2_with fail
                go_roundw
                case rel => exact ⟨HBk.out, HPk.out, HKk.out, .inr (.inr (.inl ⟨rfl, g0, G⟩))⟩
                case measure => decide
          · have e1 := HBk.out.cell 5
            have e2 := HBk.out.cell 6
            simp [isV] at e1 e2
            cases x2'
            · have G : Hid (decide (true = false ∧ v = n2') = false) := Lib.hid (by simp)
              simp at e1
              go_wp2_with fail
              go_roundw
              case rel => exact ⟨HBk.out, HPk.out, HKk.out, .inr (.inr (.inr ⟨rfl, g0, g1, G⟩))⟩
              case measure => decide
            · simp at e1
              by_cases hv : n2' = v
              · have hvb : (n2' == v) = true := by simpa using hv
                have HE : Hid (fpL l v 0 = some (m, 2)) := Lib.hid (by
                  rw [HF.out, HD.out, if_pos trivial, hitF_2 (h := ⟨1, _, _, _, _, _, _⟩) g0.out g1.out (by simp [hv])]; rfl)
                have p0 := HPk.out.cell 0
                have p1 := HPk.out.cell 1
                have p2 := HPk.out.cell 2
                have f0 := HPk.out.frozen 0
                have f1 := HPk.out.frozen 1
                have f2 := HPk.out.frozen 2
                simp at p0 p1 p2
                go_wp2_with fail
                have BF : Blk (((wr.setCell ⟨w.heap.size, 0, none⟩ (.int .i64 v)).setCell ⟨w.heap.size, 1, none⟩ (.int .i64 (m : Int))).setCell ⟨w.heap.size, 2, none⟩ (.int .i64 2)) w.heap.size 81 #[.int .i64 v, .int .i64 (m : Int), .int .i64 2] := by
                  simpa using ((HPk.out.set_ 0 (.int .i64 v)).set_ 1 (.int .i64 (m : Int))).set_ 2 (.int .i64 2)
                refine bodyPost_ret (results_pair Try.results27 _ _ _ (.bool true) rfl rfl BF Try.underlying81 (by kernel_rfl)) rfl ⟨by rw [HE.out]; rfl, ?_⟩
                refine Kept.setCell (Kept.setCell (Kept.setCell HKk.out _ (.inr (Nat.le_refl _)) _) _ (.inr (Nat.le_refl _)) _) _ (.inr (Nat.le_refl _)) _
              · have hvb : (n2' == v) = false := by simpa using hv
                have G : Hid (decide (True ∧ v = n2') = false) := Lib.hid (by simp; exact fun e => hv e.symm)
                go_wp2_with fail
                go_roundw
                case rel => exact ⟨HBk.out, HPk.out, HKk.out, .inr (.inr (.inr ⟨rfl, g0, g1, G⟩))⟩
                case measure => decide
          · have HE : Hid (fpL l v 0 = fpL (l.drop (j + 1)) v (m + 1)) := Lib.hid (by
              rw [HF.out, HD.out, if_pos trivial, hitF_no (h := ⟨1, _, _, _, _, _, _⟩) g0.out g1.out g2.out, if_neg (by decide)])
            go_wp2_with fail
            go_roundw
            case rel => exact ⟨j + 1, m + 1, by omega, by omega, by go_num, by go_num, HE.out, HPk.out, HKk.out⟩
            case measure => simp [intOf]; omega
      · have hk1' : (k' != 1) = true := by simpa using hk1
        have HE : Hid (fpL l v 0 = fpL (l.drop (j + 1)) v m) := Lib.hid (by rw [HF.out, HD.out, if_neg hk1])
        go_wp2_with ((with_reducible refine wpList_load_R rfl (.tmp 14) rfl _ _ rfl ⟨k', x0', x1', x2', n0', n1', n2'⟩ (.slice a' len' cap') ?_ ?_)
                     · exact HRng.out)
        go_roundw
        case rel => exact ⟨j + 1, m, by omega, by omega, by go_num, by go_num, HE.out, HP.out.alloc _, HK.out.alloc _⟩
        case measure => simp [intOf]; omega
    · obtain rfl : j = len := by omega
      have HE : Hid (fpL l v 0 = none) := Lib.hid (by rw [HF.out, List.drop_eq_nil_of_le (by have := HL.out; omega)]; rfl)
      have p0 := HP.out.cell 0
      have p1 := HP.out.cell 1
      have p2 := HP.out.cell 2
      have f0 := HP.out.frozen 0
      have f1 := HP.out.frozen 1
      have f2 := HP.out.frozen 2
      simp at p0 p1 p2
      go_wp2_with fail
      have BF : Blk (((wo.setCell ⟨w.heap.size, 0, none⟩ (.int .i64 0)).setCell ⟨w.heap.size, 1, none⟩ (.int .i64 0)).setCell ⟨w.heap.size, 2, none⟩ (.int .i64 0)) w.heap.size 81 #[.int .i64 0, .int .i64 0, .int .i64 0] := by
        simpa using ((HP.out.set_ 0 (.int .i64 0)).set_ 1 (.int .i64 0)).set_ 2 (.int .i64 0)
      refine bodyPost_ret (results_pair Try.results27 _ _ _ (.bool false) rfl rfl BF Try.underlying81 (by kernel_rfl)) rfl ⟨by rw [HE.out]; rfl, ?_⟩
      refine Kept.setCell (Kept.setCell (Kept.setCell HK.out _ (.inr (Nat.le_refl _)) _) _ (.inr (Nat.le_refl _)) _) _ (.inr (Nat.le_refl _)) _
end Go.Proofs.Ytefojaeinhgeiaa
