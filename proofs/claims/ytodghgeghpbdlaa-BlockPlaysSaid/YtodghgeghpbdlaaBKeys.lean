/- The keys of three types: strings, numbers, triples. -/
import Derived.Test.YtodghgeghpbdlaaBNM
import Derived.StringKeys
import Derived.DeepKeys4
import Derived.Defers
import Derived.Recover
namespace Go.Proofs.Ytodghgeghpbdlaa
open Go.RowKit Go.Maps Go.WideMaps
set_option maxRecDepth 100000

theorem laidOut : laidOutB Try.prog = true := by kernel_rfl
def KS : KT Try.prog ByteArray := ⟨9, .string, fun s => .string s.data.toList, fun s => s.size ≤ maxLen, string_keyed Try.underlying9, fun _ h => keyOf_string_mk Try.underlying9 h, fun _ _ h => by injection h⟩
def KI : KT Try.prog Int := ⟨3, .int .i64, .int .i64, fun a => (Lit.int .i64 a).wf = true, int_keyed Try.underlying3, fun _ h => keyOf_int_mk Try.underlying3 h, fun _ _ h => by injection h⟩
abbrev T3 := Int × Int × Int
def val3 (k : T3) : Array Value := #[.int .i64 k.1, .int .i64 k.2.1, .int .i64 k.2.2]
def ok3 (k : T3) : Prop := (Lit.int .i64 k.1).wf = true ∧ (Lit.int .i64 k.2.1).wf = true ∧ (Lit.int .i64 k.2.2).wf = true
theorem row3 : (38 : TypeId) < Try.prog.types.size := of_decide_eq_true (by kernel_rfl)
theorem wide3 : (match Try.prog.underlying 38 with | some (.array _ _) | some (.struct _) => true | _ => false) = true := by rw [Try.underlying38]
theorem law3 : Keyed Try.prog 38 := Keyed.of_law (deep_law_laid laidOut (m := 2) (by omega) row3 (by kernel_rfl) wide3)
theorem cells3 : Try.prog.cellsOf 38 = 3 := by kernel_rfl
theorem cells1 : Try.prog.cellsOf 3 = 1 := by kernel_rfl
theorem key3 (k : T3) (h : ok3 k) : ∃ l, keyOf Try.prog 38 (.agg (val3 k)) = some l := by
  obtain ⟨a, b, c⟩ := k
  obtain ⟨h1, h2, h3⟩ := h
  have hkt : Try.prog.keyType 38 = true := by kernel_rfl
  have hf : (Value.agg (val3 (a, b, c))).formed Try.prog 38 = true := by simp [Value.formed, val3, Try.underlying38, cells3]
  obtain ⟨m, hm⟩ : ∃ m, Try.prog.types.size + 1 = m + 2 := ⟨Try.prog.types.size - 1, by have h0 : 0 < Try.prog.types.size := of_decide_eq_true (by kernel_rfl); omega⟩
  simp only [keyOf, Try.underlying38, hkt, hf, Bool.and_self, if_true, hm]
  simp [Program.keyLits, Try.underlying38, Try.underlying3, cells3, cells1, Value.cells, val3, h1, h2, h3, List.range, List.range.loop]
noncomputable def K3 : KT Try.prog T3 := ⟨38, fun k => .agg (val3 k), fun k => (keyOf Try.prog 38 (.agg (val3 k))).getD .nil, ok3, law3, fun k h => by
  obtain ⟨l, e⟩ := key3 k h
  rw [e]; rfl, fun a b h => by
  injection h with h
  unfold val3 at h
  simp at h
  exact Prod.ext h.1 (Prod.ext h.2.1 h.2.2)⟩
theorem zeroI (w : World) : (zeroValue 3).run Try.prog w = .ok (.int .i64 0) w := by kernel_rfl
end Go.Proofs.Ytodghgeghpbdlaa
