/- The law's Same: two lists of the same facts. -/
import Derived.Test.YtgnpclcoinndpaaWLawFull
import Derived.Test.YtgnpclcoinndpaaWIn
namespace Go.Proofs.Ytgnpclcoinndpaa
open Go.RowKit Go.Maps
set_option maxRecDepth 100000

theorem partF (x0 x1 x2 x3 : Int) : (∀ w, (part 3 #[.int .i64 x0, .int .i64 x1, .int .i64 x2, .int .i64 x3] 0).run Try.prog w = .ok (.int .i64 x0) w) ∧ (∀ w, (part 32 #[.int .i64 x0, .int .i64 x1, .int .i64 x2, .int .i64 x3] 1).run Try.prog w = .ok (.agg #[.int .i64 x1, .int .i64 x2, .int .i64 x3]) w) :=
  ⟨fun _ => by kernel_rfl, fun _ => by kernel_rfl⟩
theorem eqA (x : T3) (w : World) : (Op.equalIn 9999 32 (.agg #[.int .i64 x.1, .int .i64 x.2.1, .int .i64 x.2.2]) (.agg #[.int .i64 x.1, .int .i64 x.2.1, .int .i64 x.2.2])).run Try.prog w = .ok true w := by
  obtain ⟨i, hi⟩ := Option.isSome_iff_exists.1 infoInt
  have e : ∀ x y : Int, (Op.equalIn 9998 3 (.int .i64 x) (.int .i64 y)).run Try.prog w = .ok (x == y) w := fun x y => run_equalIn_int w 9997 3 .i64 .i64 x y Try.underlying3
  rw [run_equalIn_array w 9998 _ _ Try.underlying32 hi, cells1]
  show (Op.eqItems 9998 3 1 _ _ [0, 1, 2]).run Try.prog w = _
  have p0 : ∀ x y z : Value, (part 3 #[x, y, z] 0).run Try.prog w = .ok x w := fun x y z => partInt #[x, y, z] 0 x rfl w
  have p1 : ∀ x y z : Value, (part 3 #[x, y, z] 1).run Try.prog w = .ok y w := fun x y z => partInt #[x, y, z] 1 y rfl w
  have p2 : ∀ x y z : Value, (part 3 #[x, y, z] 2).run Try.prog w = .ok z w := fun x y z => partInt #[x, y, z] 2 z rfl w
  simp [Op.eqItems, p0, p1, p2, e]
theorem eqF (x : F4) (w : World) : (Op.equalIn 10000 65 (.agg #[.int .i64 x.1, .int .i64 x.2.1, .int .i64 x.2.2.1, .int .i64 x.2.2.2]) (.agg #[.int .i64 x.1, .int .i64 x.2.1, .int .i64 x.2.2.1, .int .i64 x.2.2.2])).run Try.prog w = .ok true w := by
  have e : ∀ x y : Int, (Op.equalIn 9999 3 (.int .i64 x) (.int .i64 y)).run Try.prog w = .ok (x == y) w := fun x y => run_equalIn_int w 9998 3 .i64 .i64 x y Try.underlying3
  obtain ⟨p0, p1⟩ := partF x.1 x.2.1 x.2.2.1 x.2.2.2
  rw [run_equalIn_struct w 9999 _ _ _ (by kernel_rfl) (by kernel_rfl)]
  simp only [Program.fieldsOf, Try.underlying65]
  generalize (#[.int .i64 x.1, .int .i64 x.2.1, .int .i64 x.2.2.1, .int .i64 x.2.2.2] : Array Value) = A at p0 p1 ⊢
  have ea := eqA x.2 w
  simp [Op.eqFields, p0, p1, e, ea]

set_option maxHeartbeats 2000000 in
theorem same_any {w : World} {a1 a2 : Option Addr} {n c1 c2 : Nat} {l : List F4} (h1 : In encF 4 w a1 n l) (h2 : In encF 4 w a2 n l) (hn : n ≤ 5000) :
    Calls Try.prog 17 #[.slice a1 n c1, .slice a2 n c2] w fun e w' => e = .returned (.bool true) ∧ Kept Nil w w' := by
  have H1 := Lib.hid h1
  have H2 := Lib.hid h2
  clear h1 h2
  go_enter Try.func17, Try.ntmps17
  go_wp2_with fail
  go_loopw [14] (fun i wr => ∃ j : Nat, j ≤ n ∧ i = .int .i64 j ∧ Kept Nil w wr) (fun i _ => n - (intOf i).toNat)
  case atStart => exact ⟨0, Nat.zero_le _, rfl, Kept.refl _ _⟩
  case round =>
    obtain ⟨j, hj, rfl, hk⟩ := hrel
    have HK := Lib.hid hk
    clear hk
    by_cases hlt : j < n
    · obtain ⟨x, hx⟩ : ∃ x, l[j]? = some x := ⟨l[j]'(by have := H1.out.1; omega), by simp⟩
      obtain ⟨b, off, rfl, hb, hc⟩ := (H1.out.kept HK.out).at_ hx
      obtain ⟨b', off', rfl, hb', hc'⟩ := (H2.out.kept HK.out).at_ hx
      have x0 : wr.cell? ⟨b, off + j * 4, none⟩ = some (.int .i64 x.1) := by have := hc 0 _ rfl; simpa using this
      have x1 : wr.cell? ⟨b, off + j * 4 + 1, none⟩ = some (.int .i64 x.2.1) := by have := hc 1 _ rfl; simpa using this
      have x2 : wr.cell? ⟨b, off + j * 4 + 2, none⟩ = some (.int .i64 x.2.2.1) := by have := hc 2 _ rfl; simpa using this
      have x3 : wr.cell? ⟨b, off + j * 4 + 3, none⟩ = some (.int .i64 x.2.2.2) := by have := hc 3 _ rfl; simpa using this
      have k2 : Kept Nil wr (wr.alloc (.cells #[.int .i64 x.1, .int .i64 x.2.1, .int .i64 x.2.2.1, .int .i64 x.2.2.2] 60)) := (Kept.refl _ _).alloc _
      have BX := Blk.new wr 60 #[.int .i64 x.1, .int .i64 x.2.1, .int .i64 x.2.2.1, .int .i64 x.2.2.2]
      have K2 := Lib.hid (HK.out.trans k2 (fun _ _ e => e))
      have z0 := (k2.cell (p := ⟨b', off' + j * 4, none⟩) hb' (fun e => e)).trans (by have := hc' 0 _ rfl; simpa using this)
      have z1 := (k2.cell (p := ⟨b', off' + j * 4 + 1, none⟩) hb' (fun e => e)).trans (by have := hc' 1 _ rfl; simpa using this)
      have z2 := (k2.cell (p := ⟨b', off' + j * 4 + 2, none⟩) hb' (fun e => e)).trans (by have := hc' 2 _ rfl; simpa using this)
      have z3 := (k2.cell (p := ⟨b', off' + j * 4 + 3, none⟩) hb' (fun e => e)).trans (by have := hc' 3 _ rfl; simpa using this)
      have HB := Lib.hid BX
      clear hc hc' hb hb' hx k2 BX
      go_wp2_with fail
      clear x0 x1 x2 x3
      generalize wr.alloc (.cells #[.int .i64 x.1, .int .i64 x.2.1, .int .i64 x.2.2.1, .int .i64 x.2.2.2] 60) = w2 at *
      generalize wr.heap.size = bt at *
      have y0 := HB.out.cell 0
      have y1 := HB.out.cell 1
      have y2 := HB.out.cell 2
      have y3 := HB.out.cell 3
      have heq := fun W : World => eqF x W
      go_quiet (fail)
      go_wp2_with fail
      go_roundw
      case rel => exact ⟨j + 1, hlt, by go_num, K2.out.drewN nq⟩
      case measure => simp [intOf]; omega
    · go_wp2_with fail
      go_ret
      exact ⟨rfl, HK.out⟩
end Go.Proofs.Ytgnpclcoinndpaa
