/- A tree of a call's own. No program's walk. -/
import Derived.Test.YtbaplplaokbnnaaMsH
import Derived.Test.YtbaplplaokbnnaaMiH
import Derived.Laws.StructEq
namespace Go.Proofs.Ytbaplplaokbnnaa
open Go.RowKit Go.Maps Go.WideMaps
set_option maxRecDepth 100000

section
variable {κ : Type} [DecidableEq κ] {K : KT Try.prog κ} {tT : TypeId} {w w1 w2 : World} {p : Nat} {L L' : List (Tok κ)}
/-- Since w a tree was made, and new memory alone. -/
def TW (K : KT Try.prog κ) (tT : TypeId) (w w' : World) (p : Nat) (L : List (Tok κ)) : Prop := ∃ c, Tre K tT w' c p L ∧ (∀ b, c b ≠ 0 → w.heap.size ≤ b) ∧ Kept Nil w w'
theorem TW.keptN (h : TW K tT w w1 p L) (k : Kept Nil w1 w2) : TW K tT w w2 p L := by
  obtain ⟨c, a, b, d⟩ := h
  exact ⟨c, a.keptN k, b, d.trans k (fun _ _ e => e)⟩
theorem TW.kept (h : TW K tT w w1 p L) : Kept Nil w w1 := by obtain ⟨c, a, b, d⟩ := h; exact d
theorem TW.grow {c : Nat → Nat} (hl : ∀ b, c b ≠ 0 → w.heap.size ≤ b) (k : Kept Nil w w1) (h : TreG K tT w1 w2 c p L') : TW K tT w w2 p L' := by
  obtain ⟨c', a, b, d⟩ := h
  exact ⟨c', a, fun x hx => (b x hx).elim (hl x) (Nat.le_trans k.size), k.trans d (fun i hi e => by have := hl i e; omega)⟩
end
theorem eqG_self (a : Int) (k : ByteArray) (f : Int) (w : World) : (Op.equalIn 10000 41 (.agg #[.int .i64 a, .string k, .int .i64 f]) (.agg #[.int .i64 a, .string k, .int .i64 f])).run Try.prog w = .ok true w := by
  have e1 : ∀ (x : Int) (w : World), (Op.equalIn 9999 3 (.int .i64 x) (.int .i64 x)).run Try.prog w = .ok true w := fun x w => by
    rw [run_equalIn_int w 9998 3 .i64 .i64 x x Try.underlying3]; simp
  have e2 : ∀ (x : ByteArray) (w : World), (Op.equalIn 9999 9 (.string x) (.string x)).run Try.prog w = .ok true w := fun x w => by
    rw [run_equalIn_string w 9998 9 x x Try.underlying9]; simp
  rw [run_equalIn_struct w 9999 41 _ _ (by simp [Program.fieldsOf, Try.underlying41]) (by kernel_rfl)]
  simp [Program.fieldsOf, Try.underlying41, Op.eqFields, part, isAgg, run_underlying Try.underlying3, run_underlying Try.underlying9, e1, e2]
end Go.Proofs.Ytbaplplaokbnnaa
