/- The document's own memory: Get. -/
import Derived.Test.YtgnpclcoinndpaaWRef
namespace Go.Proofs.Ytgnpclcoinndpaa
open Go.RowKit Go.Maps
set_option maxRecDepth 100000

theorem look_drop {l : List F4} {j : Nat} {x : F4} (hx : l[j]? = some x) (k : Int) : look (l.drop j) k = if x.1 = k then some x.2 else look (l.drop (j + 1)) k := by
  rw [List.drop_eq_getElem_cons (List.getElem?_eq_some_iff.1 hx).1, (List.getElem?_eq_some_iff.1 hx).2, look]
/-- What Get answers. -/
def GetEnd (o : Option T3) (w : World) (e : Ending) (w' : World) : Prop := e = .returned (.tuple #[.agg #[.int .i64 (o.getD zeroT).1, .int .i64 (o.getD zeroT).2.1, .int .i64 (o.getD zeroT).2.2], .bool o.isSome]) ∧ Kept Nil w w'

set_option maxHeartbeats 2000000 in
theorem refGet_any {w : World} {a1 a2 : Option Addr} {n1 c1 n2 c2 : Nat} {all : List F4} {gone : List Int} (h1 : In encF 4 w a1 n1 all) (h2 : In cN 1 w a2 n2 gone) (hn1 : n1 ≤ 4000) (hn2 : n2 ≤ 4000) (lim k : Int) :
    Calls Try.prog 8 #[.agg #[.slice a1 n1 c1, .slice a2 n2 c2, .int .i64 lim], .int .i64 k] w (GetEnd (look (inL all gone) k) w) := by
  obtain ⟨l, hl⟩ : ∃ l, l = inL all gone := ⟨_, rfl⟩
  have hfacts := fun W (hkw : Kept Nil w W) => facts_any (c1 := c1) (c2 := c2) (h1.kept hkw) (h2.kept hkw) hn1 hn2 lim
  have hle : l.length ≤ 4000 := by rw [hl]; exact Nat.le_trans (inL_le _ _) (by rw [h1.1]; exact hn1)
  rw [← hl] at hfacts ⊢
  have HF := Lib.hid hfacts
  clear hfacts hl h1 h2 hn1 hn2
  have k2 : Kept Nil w ((w.alloc (.cells #[.slice a1 n1 c1, .slice a2 n2 c2, .int .i64 lim] 31)).alloc (.cells #[.int .i64 0, .int .i64 0, .int .i64 0] 32)) := ((Kept.refl _ _).alloc _).alloc _
  have K2 := Lib.hid k2
  have B4 : Blk ((w.alloc (.cells #[.slice a1 n1 c1, .slice a2 n2 c2, .int .i64 lim] 31)).alloc (.cells #[.int .i64 0, .int .i64 0, .int .i64 0] 32)) (w.heap.size + 1) 32 #[.int .i64 0, .int .i64 0, .int .i64 0] := by
    have := Blk.new (w.alloc (.cells #[.slice a1 n1 c1, .slice a2 n2 c2, .int .i64 lim] 31)) 32 #[.int .i64 0, .int .i64 0, .int .i64 0]
    simpa using this
  have HB4 := Lib.hid B4
  clear k2 B4
  go_enter Try.func8, Try.ntmps8
  go_wp2_with fail
  refine (HF.out _ K2.out).mono ?_
  rintro e w3 ⟨a, c, rfl, row, k3⟩
  have HI := Lib.hid (row.toIn encF_len (by decide))
  have K3 := Lib.hid (K2.out.trans k3 (fun _ _ e => e))
  have HB5 := Lib.hid (HB4.out.kept k3 (fun e => e))
  have hn := HI.out.1
  obtain ⟨n, hn⟩ : ∃ n, n = l.length := ⟨_, rfl⟩
  have HN := Lib.hid hn
  rw [← hn] at HI hle ⊢
  clear k3 row HF K2 HB4 hn
  go_wp2_with fail
  go_loopw [11] (fun i wr => ∃ j : Nat, j ≤ n ∧ i = .int .i64 j ∧ look l k = look (l.drop j) k ∧ Kept Nil w3 wr) (fun i _ => n - (intOf i).toNat)
  case atStart => exact ⟨0, Nat.zero_le _, rfl, rfl, Kept.refl _ _⟩
  case round =>
    obtain ⟨j, hj, rfl, hlk, hk⟩ := hrel
    have HLk := Lib.hid hlk
    have HK := Lib.hid hk
    clear hlk hk
    by_cases hlt : j < n
    · obtain ⟨x, hx⟩ : ∃ x, l[j]? = some x := ⟨l[j]'(by have := HN.out; omega), by simp⟩
      obtain ⟨b, off, rfl, hb, hc⟩ := (HI.out.kept HK.out).at_ hx
      have x0 : wr.cell? ⟨b, off + j * 4, none⟩ = some (.int .i64 x.1) := by have := hc 0 _ rfl; simpa using this
      have x1 : wr.cell? ⟨b, off + j * 4 + 1, none⟩ = some (.int .i64 x.2.1) := by have := hc 1 _ rfl; simpa using this
      have x2 : wr.cell? ⟨b, off + j * 4 + 2, none⟩ = some (.int .i64 x.2.2.1) := by have := hc 2 _ rfl; simpa using this
      have x3 : wr.cell? ⟨b, off + j * 4 + 3, none⟩ = some (.int .i64 x.2.2.2) := by have := hc 3 _ rfl; simpa using this
      have hld := look_drop hx k
      have k4 : Kept Nil wr (wr.alloc (.cells #[.int .i64 x.1, .int .i64 x.2.1, .int .i64 x.2.2.1, .int .i64 x.2.2.2] 65)) := (Kept.refl _ _).alloc _
      have K4 := Lib.hid (HK.out.trans k4 (fun _ _ e => e))
      have B6 := HB5.out.kept K4.out (fun e => e)
      have HB6 := Lib.hid B6
      clear hc hb hx k4
      by_cases e : x.1 = k
      · rw [if_pos e] at hld
        have HE : Hid (look l k = some x.2) := HLk.out.trans hld
        have hxk : (x.1 == k) = true := beq_iff_eq.2 e
        have y0 := B6.cell 0
        have y1 := B6.cell 1
        have y2 := B6.cell 2
        have f0 := B6.frozen 0
        have f1 := B6.frozen 1
        have f2 := B6.frozen 2
        clear e hld B6
        go_wp2
        refine bodyPost_ret (results_rowtmp Try.results8 _ _ _ _ _ _ _ rfl (((HB6.out.set_ 0 _).set_ 1 _).set_ 2 _) Try.underlying32 rfl (by kernel_rfl)) rfl ?_
        refine ⟨by rw [HE.out]; rfl, ?_⟩
        exact (((K3.out.trans K4.out (fun _ _ e => e)).setCell ⟨w.heap.size + 1, 0, none⟩ (.inr (Nat.le_succ _)) _).setCell ⟨w.heap.size + 1, 1, none⟩ (.inr (Nat.le_succ _)) _).setCell ⟨w.heap.size + 1, 2, none⟩ (.inr (Nat.le_succ _)) _
      · rw [if_neg e] at hld
        have HE : Hid (look l k = look (l.drop (j + 1)) k) := HLk.out.trans hld
        have hxk : (x.1 == k) = false := beq_eq_false_iff_ne.2 e
        clear e hld B6
        go_wp2_with fail
        go_roundw
        case rel => exact ⟨j + 1, hlt, by go_num, HE.out, K4.out⟩
        case measure => simp [intOf]; omega
    · have HE : Hid (look l k = none) := by
        show _ = none
        rw [HLk.out, List.drop_of_length_le (by have := HN.out; omega)]; rfl
      have B6 := HB5.out.kept HK.out (fun e => e)
      have HB6 := Lib.hid B6
      have y0 := B6.cell 0
      have y1 := B6.cell 1
      have y2 := B6.cell 2
      have f0 := B6.frozen 0
      have f1 := B6.frozen 1
      have f2 := B6.frozen 2
      clear B6
      go_wp2
      refine bodyPost_ret (results_rowtmp Try.results8 _ _ _ _ _ _ _ rfl (((HB6.out.set_ 0 _).set_ 1 _).set_ 2 _) Try.underlying32 rfl (by kernel_rfl)) rfl ?_
      refine ⟨by rw [HE.out]; rfl, ?_⟩
      exact (((K3.out.trans HK.out (fun _ _ e => e)).setCell ⟨w.heap.size + 1, 0, none⟩ (.inr (Nat.le_succ _)) _).setCell ⟨w.heap.size + 1, 1, none⟩ (.inr (Nat.le_succ _)) _).setCell ⟨w.heap.size + 1, 2, none⟩ (.inr (Nat.le_succ _)) _
end Go.Proofs.Ytgnpclcoinndpaa
