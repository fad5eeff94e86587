/- Layer cond: Size, of the program; a condition stored whole. -/
import Derived.Test.YtoceogbanlmnoaaCSize
import Derived.Test.YtoceogbanlmnoaaCCheck2
namespace Go.Proofs.Ytoceogbanlmnoaa
open Go.RowKit
set_option maxRecDepth 100000

theorem bigSize_any (s : Sh) (hc : s.count ≤ 5000) (ok : Nat → Nat → Prop) (a : Option Addr) (cap : Nat) (w : World) (h : Holds cA w ok (.slice a s.subs.length cap) s.subs) :
    Calls Try.prog 74 #[vA s.hd (.slice a s.subs.length cap)] w fun e w' => e = .returned (.int .i64 (if s.chk 1 = 0 then (s.count : Int) else 0)) ∧ Kept Nil w w' := by
  have C := Lib.hid (fun w' (k : Kept Nil w w') => right_any s hc ok a cap w' (h.keptN k))
  have D := Lib.hid (fun w' (k : Kept Nil w w') => size_any s hc ok a cap w' (h.keptN k))
  generalize s.chk 1 = v at C ⊢
  generalize s.subs.length = len at C D ⊢
  generalize s.count = cnt at D ⊢
  generalize s.hd = hd at C D ⊢
  obtain ⟨k, x0, x1, x2, n0, n1, n2⟩ := hd
  have K0 := Lib.hid ((Kept.refl Nil w).alloc (.cells #[.int .i64 k, .bool x0, .int .i64 n0, .bool x1, .int .i64 n1, .bool x2, .int .i64 n2, .slice a len cap] 27))
  have B0 := Lib.hid (Blk.new w 27 #[.int .i64 k, .bool x0, .int .i64 n0, .bool x1, .int .i64 n1, .bool x2, .int .i64 n2, .slice a len cap])
  clear h
  go_enter Try.func74, Try.ntmps74
  go_wp2_with fail
  refine (C.out _ K0.out).mono ?_
  rintro e w2 ⟨rfl, k2⟩
  have K2 := Lib.hid (K0.out.trans k2 (fun _ _ g => g))
  have B2 := Lib.hid (B0.out.kept k2 id)
  clear k2
  by_cases hv : v = 0
  · subst hv
    go_wp2_with ((with_reducible refine wpList_load_A rfl (.tmp 1) rfl _ _ rfl ⟨k, x0, x1, x2, n0, n1, n2⟩ (.slice a len cap) ?_ ?_)
                 · exact World.rangeAt_of_block B2.out 0 8)
    refine (D.out _ K2.out).mono ?_
    rintro e w3 ⟨rfl, k3⟩
    go_wp2_with fail
    go_ret
    exact ⟨rfl, K2.out.trans k3 (fun _ _ g => g)⟩
  · have hv' : (v == 0) = false := by simpa using hv
    go_wp2_with fail
    go_ret
    exact ⟨by simp, K2.out⟩

abbrev arrA (h : Hd) (v : Value) : Array Value := #[.int .i64 h.k, .bool h.x0, .int .i64 h.n0, .bool h.x1, .int .i64 h.n1, .bool h.x2, .int .i64 h.n2, v]
theorem wpList_store_A {ops : Array Oper} {rest : List Oper} {o : Oper} {a : Act} {w : World} {Q : Exit → Act → World → Prop} (hgd : o.guard = none) (x y : Operand) (ho : o.op = .store 27 x y)
    (g : Nat) (h : Hd) (s : Option Addr) (n c : Nat) (hx : a.eval x = .pointer (some ⟨g, 0, none⟩)) (hy : a.eval y = vA h (.slice s n c)) (h0 : Hd) (v0 : Value) (hg : Blk w g 27 (arrA h0 v0))
    (hn : ∀ W, Kept (fun k => k = g) w W → Blk W g 27 (arrA h (.slice s n c)) → wpList Try.prog ops Q rest (a.put o.dst undef) W) : wpList Try.prog ops Q (o :: rest) a w :=
  wpList_store_rowW hgd _ x y ho g _ hx hy _ _ hg infoA8 rfl (by simp [Value.oneCell']) hn
end Go.Proofs.Ytoceogbanlmnoaa
