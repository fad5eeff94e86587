/- A store of a law's own; the example: awake answers true, and makes new memory alone. -/
import Derived.Test.YthiijlngoikhkaaOF
namespace Go.Proofs.Ythiijlngoikhkaa
open Go.RowKit Go.Maps Go.WideMaps
set_option maxRecDepth 100000

/-- A store that has been made since w0: nothing else has turned. -/
structure SN (w0 w : World) (F : Nat → Prop) (p : Nat) (l : List T3) (L : List Mem) : Prop where
  sto : Sto w F p l L
  low : ∀ k, F k → w0.heap.size ≤ k
  kept : Kept Nil w0 w
section
variable {w0 w w' : World} {F : Nat → Prop} {p : Nat} {l l' : List T3} {L L' : List Mem}
theorem SN.keptN (h : SN w0 w F p l L) (k : Kept Nil w w') : SN w0 w' F p l L := ⟨h.sto.keptN k, h.low, h.kept.trans k (fun _ _ e => e)⟩
theorem SN.grew (h : SN w0 w F p l L) (g : SGrew w w' F p l' L') : ∃ F', SN w0 w' F' p l' L' ∧ (∀ k, F' k → F k ∨ w.heap.size ≤ k) ∧ Kept F w w' := by
  obtain ⟨F', a, b, c⟩ := g
  exact ⟨F', ⟨a, fun k hk => (b k hk).elim (h.low k) (Nat.le_trans h.kept.size), h.kept.trans c (fun i hi e => absurd hi (Nat.not_lt.2 (h.low i e)))⟩, b, c⟩
theorem SN.same (h : SN w0 w F p l L) (g : SSame w w' F p l' L') : SN w0 w' F p l' L' := ⟨g.1, h.low, h.kept.trans g.2 (fun i hi e => absurd hi (Nat.not_lt.2 (h.low i e)))⟩
theorem SN.inF (h : SN w0 w F p l L) {k : Nat} (hk : F k) : k < w.heap.size := h.sto.inF hk
end

theorem eqT_at {ty : TypeId} (hu : Try.prog.underlying ty = some (.array 3 3)) (x k : T3) (w : World) :
    (Op.equalIn 10000 ty (.agg #[.int .i64 x.1, .int .i64 x.2.1, .int .i64 x.2.2]) (.agg #[.int .i64 k.1, .int .i64 k.2.1, .int .i64 k.2.2])).run Try.prog w = .ok (decide (x = k)) w := by
  obtain ⟨a1, a2, a3⟩ := x
  obtain ⟨b1, b2, b3⟩ := k
  obtain ⟨i, hi⟩ := Option.isSome_iff_exists.1 infoInt
  have e : ∀ x y : Int, (Op.equalIn 9999 3 (.int .i64 x) (.int .i64 y)).run Try.prog w = .ok (x == y) w := fun x y => run_equalIn_int w 9998 3 .i64 .i64 x y Try.underlying3
  rw [run_equalIn_array w 9999 _ _ hu hi, cellsInt]
  show (Op.eqItems 9999 3 1 _ _ [0, 1, 2]).run Try.prog w = _
  have p0 : ∀ x y z : Value, (part 3 #[x, y, z] 0).run Try.prog w = .ok x w := fun x y z => partInt #[x, y, z] 0 x rfl w
  have p1 : ∀ x y z : Value, (part 3 #[x, y, z] 1).run Try.prog w = .ok y w := fun x y z => partInt #[x, y, z] 1 y rfl w
  have p2 : ∀ x y z : Value, (part 3 #[x, y, z] 2).run Try.prog w = .ok z w := fun x y z => partInt #[x, y, z] 2 z rfl w
  by_cases h1 : a1 = b1
  · by_cases h2 : a2 = b2
    · by_cases h3 : a3 = b3
      · simp [Op.eqItems, p0, p1, p2, e, h1, h2, h3]
      · simp [Op.eqItems, p0, p1, p2, e, h1, h2, h3]
    · simp [Op.eqItems, p0, p1, e, h1, h2]
  · simp [Op.eqItems, p0, e, h1]
theorem ok_020 : K3.ok (0, 2, 0) := ⟨rfl, rfl, rfl⟩
theorem ok_123 : K3.ok (1, 2, 3) := ⟨rfl, rfl, rfl⟩
set_option maxHeartbeats 4000000 in
theorem awake_any (w : World) : Calls Try.prog 7 #[] w fun e w' => e = .returned (.bool true) ∧ Kept Nil w w' := by
  go_enter Try.func7, Try.ntmps7
  go_wp2_with fail
  refine (new_any w).mono ?_
  rintro e w1 ⟨rfl, s1, k1⟩
  have H1 := Lib.hid (show SN w w1 (fun i => i = w.heap.size) w.heap.size [] [] from ⟨s1, fun k e => by rw [e]; exact Nat.le_refl _, k1⟩)
  clear s1 k1
  generalize w.heap.size = p at *
  have HC := Lib.hid (wantS_any (a := none) (n := 0) (c := 0) (fs := []) H1.out.sto (by decide) ok_020 ⟨rfl, .inl rfl⟩ (by simp) (by decide) (.inl rfl))
  go_wp2_with fail
  refine HC.out.mono ?_
  rintro e w2 ⟨rfl, g2⟩
  obtain ⟨F2, n2, _, _⟩ := H1.out.grew g2
  have H2 := Lib.hid (show SN w w2 F2 p [(0, 2, 0)] [⟨(0, 2, 0), 1, []⟩] from n2)
  rw [show ((wanted [] (0, 2, 0) : Nat) : Int) + 1 = 1 from rfl]
  have HA := Lib.hid (addS_any (i := 9) (t := (1, 2, 3)) (q := 0) H2.out.sto rfl ok_123 (by simp [Few]) (by decide))
  rw [show runK (fun L k => canPut L k 9) (fun L k => putL L k 9) (touched [⟨(0, 2, 0), 1, []⟩] (1, 2, 3)) [⟨(0, 2, 0), 1, []⟩] = ([⟨(0, 2, 0), 1, [9]⟩], [(0, 2, 0)]) from rfl] at HA
  clear n2 g2 HC H1
  go_wp2_with fail
  refine HA.out.mono ?_
  rintro e w3 ⟨a3, c3, rfl, r3, s3⟩
  have H3 := Lib.hid (H2.out.same s3)
  have R3 := Lib.hid r3
  have HI := Lib.hid (itemsS_any (k := (0, 2, 0)) H3.out.sto ok_020 (by simp))
  rw [show items [⟨(0, 2, 0), 1, [9]⟩] (0, 2, 0) = [9] from rfl] at HI
  clear s3 r3 HA H2
  go_wp2_with fail
  refine HI.out.mono ?_
  rintro e w4 ⟨a4, c4, rfl, r4, k4⟩
  have K4 := Lib.hid (H3.out.keptN k4).kept
  obtain ⟨b, o, rfl, hb, q0, q1, q2⟩ := ((R3.out.keptN k4).toIn cT_len (by decide)).three (j := 0) rfl
  obtain ⟨b', o', rfl, hb', q3⟩ := (r4.toIn cN_len (by decide)).at_ (j := 0) rfl
  have q3 := q3 0 _ rfl
  simp only [Nat.zero_mul, Nat.add_zero] at q0 q1 q2 q3
  have heq := fun W : World => eqT_at Try.underlying31 (0, 2, 0) (0, 2, 0) W
  rw [decide_eq_true rfl] at heq
  simp only [List.length_cons, List.length_nil, Nat.zero_add]
  clear HI R3 r4 k4 H3
  go_wp2_with fail
  go_ret
  exact ⟨rfl, K4.out⟩
end Go.Proofs.Ythiijlngoikhkaa
