/- Layer key: the contract of All: eight keys, in a row of the call's own. -/
import Derived.Test.YthiijlngoikhkaaKKey
namespace Go.Proofs.Ythiijlngoikhkaa
open Go.RowKit
set_option maxRecDepth 100000

/-- The cells of the first keys. -/
def flatK (t : T3) : Nat → List Value
  | 0 => []
  | n + 1 => flatK t n ++ [.int .i64 (keyT t n).1, .int .i64 (keyT t n).2.1, .int .i64 (keyT t n).2.2]
theorem flatK_len (t : T3) : ∀ n, (flatK t n).length = n * 3
  | 0 => rfl
  | n + 1 => by show (flatK t n ++ _).length = _; rw [List.length_append, flatK_len t n]; simp; omega
theorem flatK_get (t : T3) : ∀ (n k : Nat), k < n → (flatK t n)[k * 3]? = some (.int .i64 (keyT t k).1) ∧ (flatK t n)[k * 3 + 1]? = some (.int .i64 (keyT t k).2.1) ∧ (flatK t n)[k * 3 + 2]? = some (.int .i64 (keyT t k).2.2)
  | 0, k, h => by omega
  | n + 1, k, h => by
    have hl := flatK_len t n
    show (flatK t n ++ _)[k * 3]? = _ ∧ (flatK t n ++ _)[k * 3 + 1]? = _ ∧ (flatK t n ++ _)[k * 3 + 2]? = _
    by_cases hk : k < n
    · obtain ⟨a, b, c⟩ := flatK_get t n k hk
      rw [List.getElem?_append_left (by omega), List.getElem?_append_left (by omega), List.getElem?_append_left (by omega)]
      exact ⟨a, b, c⟩
    · obtain rfl : k = n := by omega
      rw [List.getElem?_append_right (by omega), List.getElem?_append_right (by omega), List.getElem?_append_right (by omega), hl,
        show k * 3 - k * 3 = 0 by omega, show k * 3 + 1 - k * 3 = 1 by omega, show k * 3 + 2 - k * 3 = 2 by omega]
      exact ⟨rfl, rfl, rfl⟩

theorem infoT : (Try.prog.info? 31).map (fun i => (i.zero, i.size, i.bytes)) = some (some (.agg #[.int .i64 0, .int .i64 0, .int .i64 0]), 3, 24) := by kernel_rfl
theorem elsT : Els Try.prog 45 31 3 := Els.of Try.underlying45 infoT rfl (by decide) (by decide)
/-- The keys, as they lie behind the call. -/
def Keys8 (t : T3) (g : Nat) (W : World) : Prop := ∀ k, k < 8 → W.cell? ⟨g, k * 3, none⟩ = some (.int .i64 (keyT t k).1) ∧ W.cell? ⟨g, k * 3 + 1, none⟩ = some (.int .i64 (keyT t k).2.1) ∧ W.cell? ⟨g, k * 3 + 2, none⟩ = some (.int .i64 (keyT t k).2.2)
theorem Keys8.kept {t : T3} {g : Nat} {W W' : World} (h : Keys8 t g W) (k : Kept Nil W W') : Keys8 t g W' := fun j hj => by
  obtain ⟨a, b, c⟩ := h j hj
  have hl : g < W.heap.size := World.block_lt_of_cell? W _ a
  exact ⟨by rw [k.cell hl id]; exact a, by rw [k.cell hl id]; exact b, by rw [k.cell hl id]; exact c⟩
def AllEnd (t : T3) (w : World) (e : Ending) (w' : World) : Prop := ∃ g cap, e = .returned (.slice (some ⟨g, 0, none⟩) 8 cap) ∧ 8 ≤ cap ∧ Keys8 t g w' ∧ Kept Nil w w'
abbrev KRow (t : T3) (B : Nat) (v : Value) (k : Nat) (W : World) : Prop := W.ownsRow B 31 3 v k (flatK t k)
theorem KRow.shape {t : T3} {B : Nat} {v : Value} {k : Nat} {W : World} (h : KRow t B v k W) : ∃ a c, v = .slice a k c := by
  rcases h.2 with ⟨e, e0⟩ | ⟨g, cap, cur, e, _⟩
  · exact ⟨none, 0, by rw [e, e0]⟩
  · exact ⟨_, cap, e⟩
theorem KRow.end_ {t : T3} {B : Nat} {v : Value} {W : World} (h : KRow t B v 8 W) : ∃ g cap, v = .slice (some ⟨g, 0, none⟩) 8 cap ∧ 8 ≤ cap ∧ Keys8 t g W := by
  rcases h.2 with ⟨e, e0⟩ | ⟨g, cap, cur, e, _, _, hc, _⟩
  · omega
  · refine ⟨g, cap, e, hc, fun k hk => ?_⟩
    obtain ⟨a, b, c⟩ := flatK_get t 8 k hk
    have hcell := h.cells (g := g) (by rw [e]; rfl)
    have ha := hcell _ _ a
    have hb := hcell _ _ b
    have hd := hcell _ _ c
    rw [Addr.add_mid, Nat.zero_add] at ha hb hd
    exact ⟨ha, hb, hd⟩
theorem KRow.append {t : T3} {B : Nat} {v : Value} {k : Nat} {W : World} (h : KRow t B v k W) (hk : k < 8) (hB : B ≤ W.heap.size) {x y z : Int} (e : keyT t k = (x, y, z)) :
    ∃ v' w', (Builtin.append_ #[45, 45] 45 #[v, .slice (some ⟨W.heap.size, 0, none⟩) 1 1]).run Try.prog (W.alloc (.cells #[.int .i64 x, .int .i64 y, .int .i64 z] 31)) = .ok v' w' ∧ KRow t B v' (k + 1) w' ∧ Kept (fun k => v.ownBlock = some k) W w' := by
  obtain ⟨v', w', r, o, kk, _⟩ := append_any elsT 45 (World.ownsRow.alloc h (.cells #[.int .i64 x, .int .i64 y, .int .i64 z] 31)) (At.lit W 31 #[.int .i64 x, .int .i64 y, .int .i64 z] _ rfl) rfl (fun y hy => by
    simp at hy
    rcases hy with rfl | rfl | rfl <;> rfl) (by omega) (Nat.le_trans hB (by simp))
  refine ⟨v', w', r, ?_, ((Kept.refl _ W).alloc _).trans kk (fun _ _ g => g)⟩
  show World.ownsRow _ _ _ _ _ _ (flatK t k ++ _)
  rw [e]
  exact o

set_option maxHeartbeats 1000000 in
theorem all_any (t : T3) (w : World) :
    Calls Try.prog 45 #[arr t] w (AllEnd t w) := by
  have CN : Hid (∀ (k : Nat) (x y z : Int) (W : World), k < 8 → keyT t k = (x, y, z) → Calls Try.prog 51 #[arr t, .int .i64 k] W fun e w' => e = .returned (.agg #[.int .i64 x, .int .i64 y, .int .i64 z]) ∧ Kept Nil W w') := Lib.hid fun k x y z W h e => by
    have := numbered_any t k h W
    rw [e] at this
    exact this
  obtain ⟨T, hT⟩ : ∃ T, T = t := ⟨_, rfl⟩
  rw [← hT] at CN ⊢
  obtain ⟨a, b, c⟩ := t
  have CN' : Hid (∀ (k : Nat) (x y z : Int) (W : World), k < 8 → keyT T k = (x, y, z) → Calls Try.prog 51 #[.agg #[.int .i64 a, .int .i64 b, .int .i64 c], .int .i64 k] W fun e w' => e = .returned (.agg #[.int .i64 x, .int .i64 y, .int .i64 z]) ∧ Kept Nil W w') := by
    rw [hT] at CN ⊢
    exact CN
  have hv : arr T = .agg #[.int .i64 a, .int .i64 b, .int .i64 c] := by rw [hT]; rfl
  rw [hv]
  clear CN hT hv
  have B0 := Lib.hid (Blk.new w 31 (c3 a b c))
  go_enter Try.func45, Try.ntmps45
  go_wp2_with fail
  go_loopw [3, 5] (fun v i wr => ∃ k : Nat, k ≤ 8 ∧ i = .int .i64 k ∧ Hid (KRow T (w.heap.size + 1) v k wr) ∧ Hid (Blk wr w.heap.size 31 (c3 a b c)) ∧ Kept Nil w wr) (fun _ i _ => 8 - (intOf i).toNat)
  case atStart => exact ⟨0, Nat.zero_le _, rfl, Lib.hid (World.ownsRow_nil _ _ _ _), B0, (Kept.refl _ _).alloc _⟩
  case round =>
    obtain ⟨k, hk, rfl, HR, HB, K⟩ := hrel
    clear B0
    by_cases hlt : k < 8
    · obtain ⟨a1, cap1, hv⟩ := HR.out.shape
      subst hv
      obtain ⟨⟨x, y, z⟩, hxyz⟩ : ∃ q, keyT T k = q := ⟨_, rfl⟩
      have HX := Lib.hid hxyz
      have c0 := HB.out.cell 0
      have c1 := HB.out.cell 1
      have c2 := HB.out.cell 2
      have hz : w.heap.size + 1 ≤ wr.heap.size := HB.out.lt
      simp at c0 c1 c2
      clear hxyz
      go_wp2_with fail
      refine (CN'.out k x y z _ hlt HX.out).mono ?_
      rintro e w1 ⟨rfl, k1⟩
      have hz1 : w.heap.size + 1 ≤ w1.heap.size := Nat.le_trans hz k1.size
      obtain ⟨v', w2, r2, o2, k2⟩ := KRow.append (Kept.row k1 HR.out (fun _ _ g => g)) hlt hz1 HX.out
      have R2 := Lib.hid r2
      have O2 := Lib.hid o2
      have hne : ∀ g, (Value.slice a1 k cap1).ownBlock = some g → w.heap.size + 1 ≤ g := fun g hg => by
        rcases HR.out.2 with ⟨e, _⟩ | ⟨g', cap, cur, e, hb, _⟩
        · rw [e] at hg; cases hg
        · rw [e] at hg; cases hg; exact hb
      have B2 := Lib.hid ((HB.out.kept k1 id).kept k2 (fun hg => by have := hne _ hg; omega))
      have K2 := Lib.hid ((K.trans k1 (fun _ _ g => g)).trans (F := Nil) (k2.mono (G := fun g => w.heap.size + 1 ≤ g) (fun i _ hi => hne i hi)) (fun i hi hg => by omega))
      clear r2 o2 k2 hne c0 c1 c2
      go_wp2_with (at_builtin; refine wpList_append_run rfl (.tmp 8) (.tmp 12) 45 rfl _ _ rfl rfl R2.out ?_)
      go_roundw
      case rel => exact ⟨k + 1, hlt, by go_num, O2, B2, K2.out⟩
      case measure => simp [intOf]; omega
    · have he : k = 8 := by omega
      subst he
      obtain ⟨g, cap, hv, hc, h8⟩ := HR.out.end_
      subst hv
      have H8 := Lib.hid h8
      clear h8
      go_wp2_with fail
      go_ret
      exact ⟨g, cap, rfl, hc, H8.out, K⟩
end Go.Proofs.Ythiijlngoikhkaa
