/- The table: what a block of type sym.Table is good for, and the contracts of New, Len, Find and Name. -/
import Derived.Test.YtjfoimnnbkmgmaaPos
import Derived.Test.YtjfoimnnbkmgmaaClone
import Derived.Test.YtjfoimnnbkmgmaaSymA
namespace Go.Proofs.Ytjfoimnnbkmgmaa
open Go.RowKit Go.Maps Go.WideMaps

theorem lawS : Keyed Try.prog 9 := string_keyed Try.underlying9
theorem zeroI (w : World) : (zeroValue 3).run Try.prog w = .ok (.int .i64 0) w := by kernel_rfl

/-- The blocks of a table: its own, its map's, its names'. -/
def Foot (p : Nat) (m sv : Value) (k : Nat) : Prop := k = p ∨ m = .map (some k) ∨ sv.ownBlock = some k

/-- Block p is a table of the names l; it and all that it leads to lies from block B on. -/
structure Tab (w : World) (B p : Nat) (m sv : Value) (l : List ByteArray) : Prop where
  len : l.length ≤ 4096
  short : ∀ s ∈ l, s.size ≤ 32
  nodup : l.Nodup
  base : B ≤ p
  here : w.heap[p]? = some (.cells #[m, sv] 44 (0, 0))
  row : w.ownsRow B 9 1 sv l.length (l.map .string)
  mp : (m = .map none ∧ l = []) ∨ ∃ bm D, m = .map (some bm) ∧ B ≤ bm ∧ w.ownsMap (H := Unit) Try.prog 9 (plainElem Try.prog 3) bm l.length D ∧ TabMap D l

theorem Tab.lt {w : World} {B p : Nat} {m sv : Value} {l : List ByteArray} (h : Tab w B p m sv l) : p < w.heap.size := (Array.getElem?_eq_some_iff.1 h.here).1
theorem Tab.foot {w : World} {B p : Nat} {m sv : Value} {l : List ByteArray} (h : Tab w B p m sv l) {k : Nat} (hk : Foot p m sv k) : B ≤ k ∧ k < w.heap.size := by
  rcases hk with rfl | rfl | hk
  · exact ⟨h.base, h.lt⟩
  · rcases h.mp with ⟨e, _⟩ | ⟨bm, D, e, hb, ho, _⟩
    · cases e
    · cases e; exact ⟨hb, ho.lt⟩
  · exact h.row.lt k hk
theorem Tab.kept {w w' : World} {B p : Nat} {m sv : Value} {l : List ByteArray} (h : Tab w B p m sv l) {F : Nat → Prop} (hk : Kept F w w') (hF : ∀ k, Foot p m sv k → ¬ F k) : Tab w' B p m sv l := by
  refine ⟨h.len, h.short, h.nodup, h.base, ?_, hk.row h.row (fun k e => hF k (.inr (.inr e))), ?_⟩
  · rw [hk.block p h.lt (hF p (.inl rfl))]; exact h.here
  · rcases h.mp with e | ⟨bm, D, e, hb, ho, ht⟩
    · exact .inl e
    · refine .inr ⟨bm, D, e, hb, ?_, ht⟩
      obtain ⟨es, clock, hbb, F', hs, hD⟩ := ho
      exact ⟨es, clock, by rw [hk.block bm (Array.getElem?_eq_some_iff.1 hbb).1 (hF bm (.inr (.inl e)))]; exact hbb, F', hs, hD⟩
theorem Tab.cell0 {w : World} {B p : Nat} {m sv : Value} {l : List ByteArray} (h : Tab w B p m sv l) : w.cell? ⟨p, 0, none⟩ = some m := by simp [World.cell?, h.here]
theorem Tab.cell1 {w : World} {B p : Nat} {m sv : Value} {l : List ByteArray} (h : Tab w B p m sv l) : w.cell? ⟨p, 1, none⟩ = some sv := by simp [World.cell?, h.here]
theorem Tab.free {w : World} {B p : Nat} {m sv : Value} {l : List ByteArray} (h : Tab w B p m sv l) (o : Nat) : w.frozen? ⟨p, o, none⟩ = false := by simp [World.frozen?, h.here]
/-- The names' value, written out: nil, or a row. -/
theorem Tab.sv {w : World} {B p : Nat} {m sv : Value} {l : List ByteArray} (h : Tab w B p m sv l) : ∃ a cap, sv = .slice a l.length cap := by
  rcases h.row.2 with ⟨e, e0⟩ | ⟨g, cap, cur, e, _⟩
  · exact ⟨none, 0, by rw [e, e0]⟩
  · exact ⟨_, _, e⟩
theorem ownName {w : World} {B : Nat} {sv : Value} {l : List ByteArray} (h : w.ownsRow B 9 1 sv l.length (l.map .string)) {i : Nat} {s : ByteArray} (hi : l[i]? = some s) :
    ∃ g cap, sv = .slice (some ⟨g, 0, none⟩) l.length cap ∧ w.cell? ⟨g, i, none⟩ = some (.string s) := by
  rcases h.2 with ⟨_, e0⟩ | ⟨g, cap, cur, e, _, hg, hl, _, hs, ht⟩
  · rw [List.length_eq_zero_iff.1 e0] at hi; cases hi
  · refine ⟨g, cap, e, ?_⟩
    have := h.cells (g := g) (by rw [e]; rfl) i (.string s) (by simp [hi])
    rw [show (⟨g, 0, none⟩ : Addr).add i = ⟨g, i, none⟩ from by unfold Addr.add; split <;> simp_all] at this
    exact this

theorem new_any (w : World) :
    Calls Try.prog 11 #[] w fun e w' => e = .returned (.pointer (some ⟨w.heap.size, 0, none⟩)) ∧ Tab w' w.heap.size w.heap.size (.map none) (.slice none 0 0) [] ∧ Kept Nil w w' := by
  go_enter Try.func11, Try.ntmps11
  go_wp2
  go_ret
  refine ⟨rfl, ⟨by simp, by simp, by simp, Nat.le_refl _, heap_alloc_new w _, World.ownsRow_nil _ _ _ _, .inl ⟨rfl, rfl⟩⟩, (Kept.refl _ _).alloc _⟩

theorem len_any {w : World} {B p : Nat} {m sv : Value} {l : List ByteArray} (h : Tab w B p m sv l) :
    Calls Try.prog 16 #[.pointer (some ⟨p, 0, none⟩)] w fun e w' => e = .returned (.int .i64 l.length) ∧ w = w' := by
  obtain ⟨a, cap, rfl⟩ := h.sv
  have c1 := h.cell1
  have hl := h.len
  clear h
  go_enter Try.func16, Try.ntmps16
  go_wp2
  go_ret
  exact ⟨rfl, rfl⟩

theorem find_any {w : World} {B p : Nat} {m sv : Value} {l : List ByteArray} (h : Tab w B p m sv l) (s : ByteArray) (hs : s.size ≤ maxLen) :
    Calls Try.prog 12 #[.pointer (some ⟨p, 0, none⟩), .string s] w fun e w' => e = .returned (.tuple #[.int .i64 (pos l s), .bool (decide (0 < pos l s))]) ∧ w = w' := by
  have hkey : keyOf Try.prog 9 (.string s) = some (.string s.data.toList) := keyOf_string_mk Try.underlying9 hs
  have c0 := h.cell0
  rcases h.mp with ⟨rfl, rfl⟩ | ⟨bm, D, rfl, hb, ho, ht⟩
  · clear h
    have hrun := look_nil (w := w) true lawS Try.underlying42 (zeroI w) hkey
    go_enter Try.func12, Try.ntmps12
    go_wp2
    go_ret2
    exact ⟨rfl, rfl⟩
  · clear h
    obtain ⟨h1, h2⟩ := ht.2 s
    have H1 := Lib.hid h1
    have H2 := Lib.hid h2
    clear h1 h2
    go_enter Try.func12, Try.ntmps12
    go_wp2_with (at_lookup; refine wpList_lookup_own_ok_int _ rfl _ _ 42 rfl 9 3 .i64 lawS Try.underlying42 Try.underlying3 (zeroI _) bm _ D rfl ho _ _ rfl hkey ?_; intro c hat hwc; have HA := Lib.hid hat; clear hat; rw [H2.out])
    go_ret2
    have := HA.out.symm.trans H1.out
    simp at this
    subst this
    exact ⟨rfl, rfl⟩

theorem name_yes {w : World} {B p : Nat} {m sv : Value} {l : List ByteArray} (h : Tab w B p m sv l) (i : Nat) (s : ByteArray) (hi : l[i]? = some s) :
    Calls Try.prog 17 #[.pointer (some ⟨p, 0, none⟩), .int .i64 ((i : Int) + 1)] w fun e w' => e = .returned (.tuple #[.string s, .bool true]) ∧ Kept Nil w w' := by
  obtain ⟨g, cap, rfl, hc⟩ := ownName h.row hi
  have c1 := h.cell1
  have hl := h.len
  have hs : s.size ≤ 100000 := by have := h.short s (List.mem_of_getElem? hi); omega
  have hil : i < l.length := (List.getElem?_eq_some_iff.1 hi).1
  clear h hi
  go_enter Try.func17, Try.ntmps17
  go_wp2_with (go_at_call 20; refine (clone_any s _ hs).mono ?_; rintro e w' ⟨rfl, hk⟩)
  go_ret2
  exact ⟨rfl, hk⟩

theorem name_no {w : World} {B p : Nat} {m sv : Value} {l : List ByteArray} (h : Tab w B p m sv l) (i : Int) (hi : i < 1 ∨ (l.length : Int) < i) :
    Calls Try.prog 17 #[.pointer (some ⟨p, 0, none⟩), .int .i64 i] w fun e w' => e = .returned (.tuple #[.string ⟨#[]⟩, .bool false]) ∧ Kept Nil w w' := by
  obtain ⟨a, cap, rfl⟩ := h.sv
  have c1 := h.cell1
  have hl := h.len
  clear h
  by_cases h1 : i < 1
  · go_enter Try.func17, Try.ntmps17
    go_wp2
    go_ret2
    exact ⟨rfl, Kept.refl _ _⟩
  · have h2 : (l.length : Int) < i := by omega
    clear hi
    go_enter Try.func17, Try.ntmps17
    go_wp2
    go_ret2
    exact ⟨rfl, Kept.refl _ _⟩
end Go.Proofs.Ytjfoimnnbkmgmaa
