/- Layer term: the reference's bindings: lists of pairs in memory; the law's Pairs, the reference's Get. -/
import Derived.Test.YtefojaeinhgeiaaUHeld
import Derived.Test.YtefojaeinhgeiaaUPairM
import Derived.OwnWalk
import Derived.WalkSpells
namespace Go.Proofs.Ytefojaeinhgeiaa
open Go.RowKit

def encP (p : P2) : List Value := [.int .i64 p.1, .int .i64 p.2]
def flatQ2 (ps : List P2) : List Value := ps.flatMap encP
theorem flatQ2_len : ∀ ps : List P2, (flatQ2 ps).length = ps.length * 2
  | [] => rfl
  | p :: r => by
    show (encP p ++ flatQ2 r).length = _
    rw [List.length_append, flatQ2_len r, List.length_cons]
    show 2 + _ = _
    omega
theorem flatQ2_get : ∀ (ps : List P2) (i j : Nat) (p : P2), ps[i]? = some p → j < 2 → (flatQ2 ps)[i * 2 + j]? = (encP p)[j]?
  | [], i, j, p, h, _ => by simp at h
  | x :: r, 0, j, p, h, hj => by
    simp only [List.getElem?_cons_zero, Option.some.injEq] at h
    subst h
    show (encP x ++ flatQ2 r)[0 * 2 + j]? = _
    rw [Nat.zero_mul, Nat.zero_add, List.getElem?_append_left (by show j < 2; exact hj)]
  | x :: r, i + 1, j, p, h, hj => by
    show (encP x ++ flatQ2 r)[(i + 1) * 2 + j]? = _
    rw [List.getElem?_append_right (by show 2 ≤ _; omega), show (i + 1) * 2 + j - (encP x).length = i * 2 + j by show _ - 2 = _; omega]
    exact flatQ2_get r i j p (by simpa using h) hj
theorem flatQ2_one (ps : List P2) : ∀ u ∈ flatQ2 ps, u.oneCell' = true := by
  intro u hu
  obtain ⟨p, _, hp⟩ := List.mem_flatMap.1 hu
  simp only [encP, List.mem_cons, List.not_mem_nil, or_false] at hp
  rcases hp with rfl | rfl <;> rfl
theorem flatQ2_append (a b : List P2) : flatQ2 (a ++ b) = flatQ2 a ++ flatQ2 b := by unfold flatQ2; simp

/-- A row of the call's own that holds pairs. -/
def QRow (w : World) (B : Nat) (v : Value) (ps : List P2) : Prop := w.ownsRow B 74 2 v ps.length (flatQ2 ps)
theorem QRow.nil (w : World) (B : Nat) : QRow w B (.slice none 0 0) [] := World.ownsRow_nil _ _ _ _
theorem QRow.less {w : World} {B B' : Nat} {v : Value} {ps : List P2} (h : QRow w B v ps) (hB : B' ≤ B) : QRow w B' v ps := by
  refine ⟨h.1, ?_⟩
  rcases h.2 with hn | ⟨g, cap, cur, e, hb, rest⟩
  · exact .inl hn
  · exact .inr ⟨g, cap, cur, e, by omega, rest⟩
theorem QRow.kept {w w' : World} {B : Nat} {v : Value} {ps : List P2} (h : QRow w B v ps) (k : Kept Nil w w') : QRow w' B v ps := Kept.row k h (fun _ _ g => g)
theorem QRow.shape {w : World} {B : Nat} {v : Value} {ps : List P2} (h : QRow w B v ps) : ∃ a cap, v = .slice a ps.length cap ∧ ps.length ≤ cap := by
  rcases h.2 with ⟨e, e0⟩ | ⟨g, cap, cur, e, _, _, hl, _⟩
  · exact ⟨none, 0, by rw [e, e0], by omega⟩
  · exact ⟨_, _, e, hl⟩
theorem QRow.own {w : World} {B : Nat} {v : Value} {ps : List P2} (h : QRow w B v ps) : ∀ k, v.ownBlock = some k → B ≤ k := by
  intro k hk
  rcases h.2 with ⟨e, _⟩ | ⟨g, cap, cur, e, hb, _⟩
  · rw [e] at hk; cases hk
  · rw [e] at hk; cases hk; exact hb
theorem QRow.at_ {w : World} {B : Nat} {v : Value} {ps : List P2} (h : QRow w B v ps) {i : Nat} {p : P2} (hi : ps[i]? = some p) :
    ∃ g cap, v = .slice (some ⟨g, 0, none⟩) ps.length cap ∧ w.cell? ⟨g, i * 2, none⟩ = some (.int .i64 p.1) ∧ w.cell? ⟨g, i * 2 + 1, none⟩ = some (.int .i64 p.2) ∧ g < w.heap.size := by
  rcases h.2 with ⟨_, e0⟩ | ⟨g, cap, cur, e, _, hg, hl, _, hs, ht⟩
  · rw [List.length_eq_zero_iff.1 e0] at hi; cases hi
  · have key : ∀ j u, (encP p)[j]? = some u → w.cell? ⟨g, i * 2 + j, none⟩ = some u := fun j u hu => by
      have hj : j < 2 := (List.getElem?_eq_some_iff.1 hu).1
      have := h.cells (g := g) (by rw [e]; rfl) (i * 2 + j) u (by rw [flatQ2_get ps i j p hi hj]; exact hu)
      rw [show (⟨g, 0, none⟩ : Addr).add (i * 2 + j) = ⟨g, i * 2 + j, none⟩ from by unfold Addr.add; split <;> simp_all] at this
      exact this
    have c0 := key 0 _ rfl
    exact ⟨g, cap, e, c0, key 1 _ rfl, World.block_lt_of_cell? w _ c0⟩

theorem Try.infoP : (Try.prog.info? 74).map (fun i => (i.zero, i.size, i.bytes)) = some (some (.agg #[.int .i64 0, .int .i64 0]), 2, 16) := by kernel_rfl

theorem cell_two_new (w : World) (x y : Value) (t : TypeId) : ∀ j u, [x, y][j]? = some u → (w.alloc (.cells #[x, y] t)).cell? ((⟨w.heap.size, 0, none⟩ : Addr).add j) = some u := by
  intro j u hj
  rw [show (⟨w.heap.size, 0, none⟩ : Addr).add j = ⟨w.heap.size, j, none⟩ from by unfold Addr.add; split <;> simp_all, (Blk.new w t #[x, y]).cell j]
  simpa using hj

/-- A binding appended to none: the same pairs, in new memory. -/
theorem appendQ_all (w : World) {B : Nat} {v : Value} {ps : List P2} (h : QRow w B v ps) (hl : ps.length ≤ 5000) :
    ∃ v' w', (Builtin.append_ #[33, 33] 33 #[.slice none 0 0, v]).run Try.prog w = .ok v' w' ∧ QRow w' w.heap.size v' ps ∧ Kept Nil w w' := by
  obtain ⟨i0, hi, hz0, hz1, hz2⟩ := info_parts Try.infoP
  rcases h.2 with ⟨e, e0⟩ | ⟨g, cap, cur, e, _⟩
  · obtain rfl := List.length_eq_zero_iff.1 e0
    subst e
    refine ⟨.slice none 0 0, w, ?_, World.ownsRow_nil _ _ _ _, Kept.refl _ _⟩
    simp [Builtin.append_, run_underlying Try.underlying33, sizeOf, typeInfo, hi, Builtin.lenOf, Builtin.firstCells]
  · subst e
    obtain ⟨v', w', r, o, g', _⟩ := run_append_own (P := Try.prog) w w.heap.size 33 33 74 i0 (.agg #[.int .i64 0, .int .i64 0]) 2 16 Try.underlying33 hi hz0 hz1 hz2 rfl (by decide) (.slice none 0 0) 0 [] (World.ownsRow_nil _ _ _ _)
      ⟨g, 0, none⟩ ps.length cap (flatQ2 ps) (flatQ2_len ps) (h.cells rfl) (flatQ2_one ps) (by unfold maxLen; omega) (by omega) (Nat.le_refl _)
    refine ⟨v', w', r, ?_, (Kept.refl _ _).grown g' (fun k hk => by cases hk)⟩
    simpa [QRow] using o

theorem appendQ_one (w : World) {B : Nat} {v : Value} {ps : List P2} (h : QRow w B v ps) (hB : B ≤ w.heap.size) (hl : ps.length ≤ 5000) (n s : Int) :
    ∃ v' w', (Builtin.append_ #[33, 33] 33 #[v, .slice (some ⟨w.heap.size, 0, none⟩) 1 1]).run Try.prog (w.alloc (.cells #[.int .i64 n, .int .i64 s] 74)) = .ok v' w' ∧ QRow w' B v' (ps ++ [(n, s)]) ∧ (w.alloc (.cells #[.int .i64 n, .int .i64 s] 74)).grownBy w' v.ownBlock := by
  obtain ⟨i0, hi, hz0, hz1, hz2⟩ := info_parts Try.infoP
  obtain ⟨v', w', r, o, g', _⟩ := run_append_own (P := Try.prog) (w.alloc (.cells #[.int .i64 n, .int .i64 s] 74)) B 33 33 74 i0 (.agg #[.int .i64 0, .int .i64 0]) 2 16 Try.underlying33 hi hz0 hz1 hz2 rfl (by decide) v ps.length (flatQ2 ps) (h.alloc _)
    ⟨w.heap.size, 0, none⟩ 1 1 [.int .i64 n, .int .i64 s] rfl (cell_two_new _ _ _ _) (fun u hu => by simp at hu; rcases hu with rfl | rfl <;> rfl) (by unfold maxLen; omega) (by omega) (by simp; omega)
  refine ⟨v', w', r, ?_, g'⟩
  have e : flatQ2 (ps ++ [(n, s)]) = flatQ2 ps ++ [.int .i64 n, .int .i64 s] := by rw [flatQ2_append]; rfl
  unfold QRow
  rw [e]
  simpa using o
end Go.Proofs.Ytefojaeinhgeiaa
