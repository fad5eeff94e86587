/- Layer comp: the reference's Of, of a Pos or a Neg; of all conditions. -/
import Derived.Test.YtefojaeinhgeiaaGRefOfN
namespace Go.Proofs.Ytefojaeinhgeiaa
open Go.RowKit
set_option maxRecDepth 100000

structure OfR (w : World) (arr : Array Value) (k K0 K1 K2 : Int) (u : Value) (ts : List Tst) (W : World) : Prop where
  t : Two2 w 45 arr 57 zS W
  b : Blk W (w.heap.size + 1 + 1) 57 (arrS ⟨k, K0, K1, K2, []⟩ u (.slice none 0 0))
  g : GB kT 71 W (w.heap.size + 1 + 1 + 1) u ts
section
variable {w W W' : World} {arr : Array Value} {k K0 K1 K2 : Int} {u : Value} {ts : List Tst}
theorem OfR.step (r : OfR w arr k K0 K1 K2 u ts W) (kk : Kept Nil W W') : OfR w arr k K0 K1 K2 u ts W' := ⟨r.t.step kk, r.b.kept kk id, r.g.kept kk⟩
theorem OfR.far (r : OfR w arr k K0 K1 K2 u ts W) (i : Nat) (v : Value) : Two2 w 45 arr 57 zS (W.setCell ⟨w.heap.size + 1 + 1, i, none⟩ v) ∧ GB kT 71 (W.setCell ⟨w.heap.size + 1 + 1, i, none⟩ v) (w.heap.size + 1 + 1 + 1) u ts :=
  have kk := (Kept.refl (fun i => i = w.heap.size + 1 + 1) W).setCell ⟨w.heap.size + 1 + 1, i, none⟩ (.inl rfl) v
  ⟨⟨r.t.kept.trans kk (fun i hi e => by omega), r.t.b0.kept kk (fun e => by omega), r.t.b1.kept kk (fun e => by omega)⟩, r.g.keptF kk (fun k e => by omega)⟩
theorem OfR.key0 (r : OfR w arr k K0 K1 K2 u ts W) (n : Int) : OfR w arr k n K1 K2 u ts (W.setCell ⟨w.heap.size + 1 + 1, 1, none⟩ (.int .i64 n)) := ⟨(r.far _ _).1, by simpa using r.b.set_ 1 (.int .i64 n), (r.far _ _).2⟩
theorem OfR.key1 (r : OfR w arr k K0 K1 K2 u ts W) (n : Int) : OfR w arr k K0 n K2 u ts (W.setCell ⟨w.heap.size + 1 + 1, 2, none⟩ (.int .i64 n)) := ⟨(r.far _ _).1, by simpa using r.b.set_ 2 (.int .i64 n), (r.far _ _).2⟩
theorem OfR.key2 (r : OfR w arr k K0 K1 K2 u ts W) (n : Int) : OfR w arr k K0 K1 n u ts (W.setCell ⟨w.heap.size + 1 + 1, 3, none⟩ (.int .i64 n)) := ⟨(r.far _ _).1, by simpa using r.b.set_ 3 (.int .i64 n), (r.far _ _).2⟩
/-- A test is put behind the others. -/
theorem OfR.test (r : OfR w arr k K0 K1 K2 u ts W) (hl : ts.length ≤ 100) (t : Tst) : ∃ a3 n3 c3 w3, (Builtin.append_ #[55, 55] 55 #[u, .slice (some ⟨W.heap.size, 0, none⟩) 1 1]).run Try.prog (W.alloc (.cells #[.int .i64 t.1, .int .i64 t.2.1, .int .i64 t.2.2] 71)) = .ok (.slice a3 n3 c3) w3 ∧
    w3.cell? ⟨w.heap.size + 1 + 1, 4, none⟩ = some u ∧ w3.frozen? ⟨w.heap.size + 1 + 1, 4, none⟩ = false ∧ w.heap.size + 1 + 1 < w3.heap.size ∧ OfR w arr k K0 K1 K2 (.slice a3 n3 c3) (ts ++ [t]) (w3.setCell ⟨w.heap.size + 1 + 1, 4, none⟩ (.slice a3 n3 c3)) := by
  obtain ⟨a, c, rfl, _⟩ := r.g.shape
  have hX := r.b.lt
  obtain ⟨_, _, a3, n3, c3, w3, r3, y4, f4, hX3, k3, b3, g3⟩ := GB.round (P := Try.prog) (t := 55) (D := kT) elsU 55 (Nat.lt_succ_self _) (by omega) r.b (i := 4) rfl r.g (by omega) (Kept.refl Nil W) (Kept.refl Nil W) t #[.int .i64 t.1, .int .i64 t.2.1, .int .i64 t.2.2] rfl 71 trivial
  exact ⟨a3, n3, c3, w3, r3, y4, f4, hX3, r.t.far k3 (fun i e => by
    rcases e with e | e
    · omega
    · have := r.g.base i e; omega), by simpa using b3, g3⟩
end


end Go.Proofs.Ytefojaeinhgeiaa
