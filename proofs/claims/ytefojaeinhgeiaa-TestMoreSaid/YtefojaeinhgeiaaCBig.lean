/- Layer cond: Size, of the program; a condition stored whole. -/
import Derived.Test.YtefojaeinhgeiaaCSize
import Derived.Test.YtefojaeinhgeiaaCCheck2
namespace Go.Proofs.Ytefojaeinhgeiaa
open Go.RowKit
set_option maxRecDepth 100000

abbrev arrA (h : Hd) (v : Value) : Array Value := #[.int .i64 h.k, .bool h.x0, .int .i64 h.n0, .bool h.x1, .int .i64 h.n1, .bool h.x2, .int .i64 h.n2, v]
theorem wpList_store_A {ops : Array Oper} {rest : List Oper} {o : Oper} {a : Act} {w : World} {Q : Exit → Act → World → Prop} (hgd : o.guard = none) (x y : Operand) (ho : o.op = .store 38 x y)
    (g : Nat) (h : Hd) (s : Option Addr) (n c : Nat) (hx : a.eval x = .pointer (some ⟨g, 0, none⟩)) (hy : a.eval y = vA h (.slice s n c)) (h0 : Hd) (v0 : Value) (hg : Blk w g 38 (arrA h0 v0))
    (hn : ∀ W, Kept (fun k => k = g) w W → Blk W g 38 (arrA h (.slice s n c)) → wpList Try.prog ops Q rest (a.put o.dst undef) W) : wpList Try.prog ops Q (o :: rest) a w :=
  wpList_store_rowW hgd _ x y ho g _ hx hy _ _ hg infoA8 rfl (by simp [Value.oneCell']) hn
end Go.Proofs.Ytefojaeinhgeiaa
