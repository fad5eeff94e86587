/- The document's own memory: out, Facts, Get. -/
import Derived.Test.YtgnpclcoinndpaaWMemB
import Derived.Test.YtgnpclcoinndpaaWIn
namespace Go.Proofs.Ytgnpclcoinndpaa
open Go.RowKit Go.Maps
set_option maxRecDepth 100000

theorem Try.infoR : (Try.prog.info? 65).map (fun i => (i.zero, i.size, i.bytes)) = some (some (.agg #[.int .i64 0, .int .i64 0, .int .i64 0, .int .i64 0]), 4, 32) := by kernel_rfl
theorem elsR : Els Try.prog 28 65 4 := Els.of Try.underlying28 Try.infoR rfl (by decide) (by decide)
theorem Try.infoI : (Try.prog.info? 3).map (fun i => (i.zero, i.size, i.bytes)) = some (some (.int .i64 0), 1, 8) := by kernel_rfl
theorem elsI : Els Try.prog 29 3 1 := Els.of Try.underlying29 Try.infoI rfl (by decide) (by decide)
abbrev FRow := Row encF 65 4
abbrev IRow := Row cN 3 1

theorem out_any {w : World} {a2 : Option Addr} {n2 c2 : Nat} {gone : List Int} (h : In cN 1 w a2 n2 gone) (hn : n2 ≤ 5000) (v : Value) (lim k : Int) :
    Calls Try.prog 21 #[.agg #[v, .slice a2 n2 c2, .int .i64 lim], .int .i64 k] w fun e w' => e = .returned (.bool (decide (k ∈ gone))) ∧ Kept Nil w w' := by
  have k1 : Kept Nil w (w.alloc (.cells #[v, .slice a2 n2 c2, .int .i64 lim] 31)) := (Kept.refl _ _).alloc _
  have H1 := Lib.hid (h.kept k1)
  have K1 := Lib.hid k1
  have HL := Lib.hid h.1
  clear h k1
  go_enter Try.func21, Try.ntmps21
  go_wp2_with fail
  generalize w.alloc (.cells #[v, .slice a2 n2 c2, .int .i64 lim] 31) = w1 at *
  go_loop [10] (fun i => ∃ j : Nat, j ≤ n2 ∧ i = .int .i64 j ∧ k ∉ gone.take j) (fun i => n2 - (intOf i).toNat)
  case atStart => exact ⟨0, Nat.zero_le _, rfl, by simp⟩
  case round =>
    obtain ⟨j, hj, rfl, hno⟩ := hrel
    have HNo := Lib.hid hno
    clear hno
    by_cases hlt : j < n2
    · obtain ⟨x, hx⟩ : ∃ x, gone[j]? = some x := ⟨gone[j]'(by have := HL.out; omega), by simp⟩
      obtain ⟨b, off, rfl, hb, hc⟩ := H1.out.at_ hx
      have c0 : w1.cell? ⟨b, off + j, none⟩ = some (.int .i64 x) := by have := hc 0 _ rfl; simpa using this
      clear hc hb
      by_cases e : x = k
      · have HE : Hid (decide (k ∈ gone) = true) := decide_eq_true (e ▸ List.mem_of_getElem? hx)
        have hxk : (x == k) = true := beq_iff_eq.2 e
        clear hx e
        go_wp2
        go_ret
        exact ⟨ret_bool HE.out.symm, K1.out⟩
      · have HE : Hid (k ∉ gone.take (j + 1)) := by
          show ¬ _
          rw [List.take_add_one, hx]
          intro hm
          rcases List.mem_append.1 hm with hm | hm
          · exact HNo.out hm
          · exact e (by simpa [eq_comm] using hm)
        have hxk : (x == k) = false := beq_eq_false_iff_ne.2 e
        clear hx e
        go_wp2
        go_round
        case rel => exact ⟨j + 1, hlt, by go_num, HE.out⟩
        case measure => simp [intOf]; omega
    · have HE : Hid (decide (k ∈ gone) = false) := decide_eq_false (by
        have := HNo.out
        rwa [List.take_of_length_le (by have := HL.out; omega)] at this)
      go_wp2
      go_ret
      exact ⟨ret_bool HE.out.symm, K1.out⟩
/-- What a walk over all facts has kept so far. -/
theorem inL_next {all : List F4} {gone : List Int} {j : Nat} {x : F4} (hx : all[j]? = some x) : inL (all.take (j + 1)) gone = inL (all.take j) gone ++ (if x.1 ∈ gone then [] else [x]) := by
  rw [List.take_add_one, hx]
  unfold inL
  rw [List.filter_append]
  congr 1
  by_cases h : x.1 ∈ gone <;> simp [h]

set_option maxHeartbeats 2000000 in
theorem facts_any {w : World} {a1 a2 : Option Addr} {n1 c1 n2 c2 : Nat} {all : List F4} {gone : List Int} (h1 : In encF 4 w a1 n1 all) (h2 : In cN 1 w a2 n2 gone) (hn1 : n1 ≤ 4000) (hn2 : n2 ≤ 4000) (lim : Int) :
    Calls Try.prog 15 #[.agg #[.slice a1 n1 c1, .slice a2 n2 c2, .int .i64 lim]] w fun e w' => ∃ a c, e = .returned (.slice a (inL all gone).length c) ∧ FRow w' w.heap.size (.slice a (inL all gone).length c) (inL all gone) ∧ Kept Nil w w' := by
  have k1 : Kept Nil w (w.alloc (.cells #[.slice a1 n1 c1, .slice a2 n2 c2, .int .i64 lim] 31)) := (Kept.refl _ _).alloc _
  have BM := Lib.hid (Blk.new w 31 #[.slice a1 n1 c1, .slice a2 n2 c2, .int .i64 lim])
  have H1 := Lib.hid (h1.kept k1)
  have H2 := Lib.hid (h2.kept k1)
  have K1 := Lib.hid k1
  have HL := Lib.hid h1.1
  have hs1 : w.heap.size < (w.alloc (.cells #[.slice a1 n1 c1, .slice a2 n2 c2, .int .i64 lim] 31)).heap.size := by simp
  clear h1 h2 k1
  go_enter Try.func15, Try.ntmps15
  go_wp2_with fail
  generalize w.alloc (.cells #[.slice a1 n1 c1, .slice a2 n2 c2, .int .i64 lim] 31) = w1 at *
  go_loopw [3, 9] (fun v i wr => ∃ (j m : Nat) (a' : Option Addr) (c' : Nat), j ≤ n1 ∧ i = .int .i64 j ∧ v = .slice a' m c' ∧ m = (inL (all.take j) gone).length ∧ FRow wr w1.heap.size (.slice a' m c') (inL (all.take j) gone) ∧ Kept Nil w1 wr) (fun _ i _ => n1 - (intOf i).toNat)
  case atStart => exact ⟨0, 0, none, 0, Nat.zero_le _, rfl, rfl, rfl, Row.nil _ _, Kept.refl _ _⟩
  case round =>
    obtain ⟨j, m, a', c', hj, rfl, rfl, hm, hrow, hk⟩ := hrel
    have HRow := Lib.hid hrow
    have HK := Lib.hid hk
    have HM := Lib.hid hm
    have hmj : m ≤ j := by
      have h1 := inL_le (all.take j) gone
      rw [List.length_take] at h1
      omega
    clear hrow hk hm
    by_cases hlt : j < n1
    · obtain ⟨x, hx⟩ : ∃ x, all[j]? = some x := ⟨all[j]'(by have := HL.out; omega), by simp⟩
      obtain ⟨b, off, rfl, hb, hc⟩ := (H1.out.kept HK.out).at_ hx
      have x0 : wr.cell? ⟨b, off + j * 4, none⟩ = some (.int .i64 x.1) := by have := hc 0 _ rfl; simpa using this
      have x1 : wr.cell? ⟨b, off + j * 4 + 1, none⟩ = some (.int .i64 x.2.1) := by have := hc 1 _ rfl; simpa using this
      have x2 : wr.cell? ⟨b, off + j * 4 + 2, none⟩ = some (.int .i64 x.2.2.1) := by have := hc 2 _ rfl; simpa using this
      have x3 : wr.cell? ⟨b, off + j * 4 + 3, none⟩ = some (.int .i64 x.2.2.2) := by have := hc 3 _ rfl; simpa using this
      have BR := BM.out.kept HK.out (fun e => e)
      have e0 := BR.cell 0
      have e1 := BR.cell 1
      have e2 := BR.cell 2
      have hbm := BR.lt
      have HNx := Lib.hid (inL_next (gone := gone) hx)
      have k2 : Kept Nil wr (wr.alloc (.cells #[.int .i64 x.1, .int .i64 x.2.1, .int .i64 x.2.2.1, .int .i64 x.2.2.2] 65)) := (Kept.refl _ _).alloc _
      have BX := Lib.hid (Blk.new wr 65 #[.int .i64 x.1, .int .i64 x.2.1, .int .i64 x.2.2.1, .int .i64 x.2.2.2])
      have K2 := Lib.hid (HK.out.trans k2 (fun _ _ e => e))
      have HRow2 := Lib.hid (HRow.out.keptN k2)
      have hout := fun W (hkw : Kept Nil w1 W) => out_any (c2 := c2) (H2.out.kept hkw) (by omega) (.slice (some ⟨b, off, none⟩) n1 c1) lim x.1
      have HO := Lib.hid hout
      clear hc hb hx BR HRow HK k2 hout
      by_cases hin : x.1 ∈ gone
      · have hd : decide (x.1 ∈ gone) = true := decide_eq_true hin
        rw [hd] at HO
        rw [if_pos hin, List.append_nil] at HNx
        clear hd hin
        go_wp2_with fail
        refine (HO.out _ K2.out).mono ?_
        rintro e w3 ⟨rfl, k3⟩
        have HRow3 := Lib.hid (HRow2.out.keptN k3)
        have K3 := Lib.hid (K2.out.trans k3 (fun _ _ e => e))
        clear k3 HRow2 K2 HO e0 e1 e2 x0 x1 x2 x3
        go_wp2_with fail
        go_roundw
        case rel => exact ⟨j + 1, m, a', c', hlt, by go_num, rfl, by rw [HNx.out]; exact HM.out, by rw [HNx.out]; exact HRow3.out, K3.out⟩
        case measure => simp [intOf]; omega
      · have hd : decide (x.1 ∈ gone) = false := decide_eq_false hin
        rw [hd] at HO
        rw [if_neg hin] at HNx
        clear hd hin
        go_wp2_with fail
        refine (HO.out _ K2.out).mono ?_
        rintro e w3 ⟨rfl, k3⟩
        have HRow3 := Lib.hid (HRow2.out.keptN k3)
        have K3 := Lib.hid (K2.out.trans k3 (fun _ _ e => e))
        have BX3 := BX.out.kept k3 (fun e => e)
        obtain ⟨a4, c4, w4, r4, o4, k4, f4⟩ := Row.push (w := w1) elsR encF_len encF_one 28 K3.out HRow3.out HM.out (by rw [← HM.out]; omega) x #[.int .i64 x.1, .int .i64 x.2.1, .int .i64 x.2.2.1, .int .i64 x.2.2.2] rfl
        have R4 := Lib.hid r4
        have O4 := Lib.hid o4
        have K4 := Lib.hid k4
        have HM4 := Lib.hid (show m + 1 = (inL (List.take j all) gone ++ [x]).length from by rw [List.length_append, ← HM.out]; rfl)
        have y0 := BX3.cell 0
        have y1 := BX3.cell 1
        have y2 := BX3.cell 2
        have y3 := BX3.cell 3
        clear k3 HRow2 K2 HO e0 e1 e2 x0 x1 x2 x3 r4 o4 k4 f4 BX3
        go_wp2_with (at_builtin; refine wpList_append_run rfl (.tmp 18) (.tmp 20) 28 rfl _ _ rfl rfl R4.out ?_)
        go_roundw
        case rel => exact ⟨j + 1, m + 1, a4, c4, hlt, by go_num, rfl, by rw [HNx.out]; exact HM4.out, by rw [HNx.out]; exact O4.out, K4.out⟩
        case measure => simp [intOf]; omega
    · have HE : Hid (all.take j = all) := List.take_of_length_le (by have := HL.out; omega)
      go_wp2_with fail
      go_ret
      rw [HE.out] at HM HRow
      refine ⟨a', c', by rw [← HM.out]; rfl, by rw [← HM.out]; exact HRow.out.down (Nat.le_of_lt hs1), K1.out.trans HK.out (fun _ _ e => e)⟩
end Go.Proofs.Ytgnpclcoinndpaa
