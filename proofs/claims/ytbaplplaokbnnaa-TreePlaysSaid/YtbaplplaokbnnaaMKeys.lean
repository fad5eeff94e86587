/- The keys of two types: strings, numbers (out of XNKeys). -/
import Derived.Test.YtbaplplaokbnnaaMSet
import Derived.StringKeys
import Derived.Defers
import Derived.Recover
namespace Go.Proofs.Ytbaplplaokbnnaa
open Go.RowKit Go.Maps Go.WideMaps
set_option maxRecDepth 100000

theorem laidOut : laidOutB Try.prog = true := by kernel_rfl
def KS : KT Try.prog ByteArray := ⟨9, .string, fun s => .string s.data.toList, fun s => s.size ≤ maxLen, string_keyed Try.underlying9, fun _ h => keyOf_string_mk Try.underlying9 h, fun _ _ h => by injection h⟩
def KI : KT Try.prog Int := ⟨3, .int .i64, .int .i64, fun a => (Lit.int .i64 a).wf = true, int_keyed Try.underlying3, fun _ h => keyOf_int_mk Try.underlying3 h, fun _ _ h => by injection h⟩
theorem zeroI (w : World) : (zeroValue 3).run Try.prog w = .ok (.int .i64 0) w := by kernel_rfl
theorem zeroS (w : World) : (zeroValue 9).run Try.prog w = .ok (.string ByteArray.empty) w := by kernel_rfl
end Go.Proofs.Ytbaplplaokbnnaa
