/- A list of owners (string,int) in memory; what its calls that only look answer. -/
import Derived.Test.YtodghgeghpbdlaaLMap
namespace Go.Proofs.Ytodghgeghpbdlaa
set_option maxRecDepth 100000
open Go.RowKit Go.Maps

theorem lawP : Keyed Try.prog 3 := int_keyed Try.underlying3
theorem zeroP (w : World) : (zeroValue 189).run Try.prog w = .ok (.pointer none) w := by kernel_rfl

/-- A block that a list of this type is made of. -/
def TyP (w : World) (k : Nat) : Prop := ∃ cs f, w.heap[k]? = some (.cells cs 185 f) ∨ w.heap[k]? = some (.cells cs 188 f)
/-- What a call on the list with the map m may turn, as far as it lies from B on. -/
def FoP (w : World) (B : Nat) (m : Value) (k : Nat) : Prop := B ≤ k ∧ (m = .map (some k) ∨ TyP w k)

/-- Block p is a list of the handles row; vals: all values that ever were; the place of each handle's block: g. All of it lies from B on. -/
structure LstP (w : World) (B p : Nat) (m : Value) (g : Nat → Nat) (row : List Nat) (vals : List (ByteArray × Option Nat)) : Prop where
  base : B ≤ p
  here : Blk w p 185 #[m, .int .i64 (bf 0 row 0 : Nat), .int .i64 (nx (0 :: row) 0 : Nat), .int .i64 vals.length]
  nodup : row.Nodup
  range : ∀ h ∈ row, 0 < h ∧ h ≤ vals.length
  cell : ∀ h ∈ row, ∃ x, vals[h - 1]? = some x ∧ Blk w (g h) 188 #[.int .i64 (bf 0 row h : Nat), .int .i64 (nx (0 :: row) h : Nat), .string x.1, .map x.2]
  low : ∀ h ∈ row, B ≤ g h
  inj : ∀ h ∈ row, ∀ h' ∈ row, g h = g h' → h = h'
  mp : (m = .map none ∧ row = []) ∨ ∃ bm D, m = .map (some bm) ∧ B ≤ bm ∧ w.ownsMap (H := Unit) Try.prog 3 ptrE bm vals.length D ∧ MapOf D row g

section
variable {w w' : World} {B p : Nat} {m : Value} {g : Nat → Nat} {row : List Nat} {vals : List (ByteArray × Option Nat)}
theorem LstP.zero (h : LstP w B p m g row vals) : 0 ∉ row := fun e => absurd (h.range 0 e).1 (Nat.lt_irrefl _)
theorem LstP.kept {F : Nat → Prop} (h : LstP w B p m g row vals) (hk : Kept F w w') (hF : ∀ k, FoP w B m k → ¬ F k) : LstP w' B p m g row vals := by
  refine ⟨h.base, h.here.kept hk (hF _ ⟨h.base, .inr ⟨_, _, .inl h.here⟩⟩), h.nodup, h.range, fun x hx => ?_, h.low, h.inj, ?_⟩
  · obtain ⟨v, hv, hb⟩ := h.cell x hx
    exact ⟨v, hv, hb.kept hk (hF _ ⟨h.low x hx, .inr ⟨_, _, .inr hb⟩⟩)⟩
  · rcases h.mp with e | ⟨bm, D, e, hb, ho, ht⟩
    · exact .inl e
    · refine .inr ⟨bm, D, e, hb, ?_, ht⟩
      obtain ⟨es, clock, hbb, F', hs, hD⟩ := ho
      exact ⟨es, clock, by rw [hk.block bm (Array.getElem?_eq_some_iff.1 hbb).1 (hF bm ⟨hb, .inl e⟩)]; exact hbb, F', hs, hD⟩
theorem LstP.keptN (h : LstP w B p m g row vals) (hk : Kept Nil w w') : LstP w' B p m g row vals := h.kept hk (fun _ _ e => e)
/-- What two calls, one behind the other, may turn. -/
theorem FoP.trans {a b c : World} {m' : Value} (h : Kept (FoP a B m) a b) (k : Kept (FoP b B m') b c) (hm : m' = m ∨ ∃ bm, m' = .map (some bm) ∧ a.heap.size ≤ bm) : Kept (FoP a B m) a c := by
  refine h.trans k (fun i hi hf => ?_)
  by_cases hF : FoP a B m i
  · exact hF
  · refine ⟨hf.1, ?_⟩
    rcases hf.2 with e | ⟨cs, f, e⟩
    · rcases hm with rfl | ⟨bm, e2, hb⟩
      · exact .inl e
      · rw [e2] at e; cases e; omega
    · rw [h.block i hi hF] at e
      exact .inr ⟨cs, f, e⟩

/-- The look-ups. -/
theorem LstP.look (h : LstP w B p m g row vals) {x : Nat} (hx : x ∈ row) (hl : vals.length ≤ 1000000) : (Instr.lookup 181 m (.int .i64 (x : Int)) false).run Try.prog w = .ok (.pointer (some ⟨g x, 0, none⟩)) w := by
  have hr := h.range x hx
  have hkey : keyOf Try.prog 3 (.int .i64 (x : Int)) = some (.int .i64 (x : Int)) := keyOf_int_mk Try.underlying3 (WalkArith.wf_i64 (by omega))
  rcases h.mp with ⟨_, e⟩ | ⟨bm, D, rfl, _, ho, ht⟩
  · subst e; cases hx
  · obtain ⟨v, ps, hrun, hv⟩ := ho.lookup lawP Try.underlying181 (zeroP w) ptrE_nil hkey
    rw [ht.get x hx] at hv
    rw [hrun, ptrE_inv hv]
theorem LstP.lookN (h : LstP w B p m g row vals) {k : Int} (hw : (Lit.int .i64 k).wf = true) (hk : ∀ x ∈ row, (x : Int) ≠ k) : (Instr.lookup 181 m (.int .i64 k) false).run Try.prog w = .ok (.pointer none) w := by
  have hkey : keyOf Try.prog 3 (.int .i64 k) = some (.int .i64 k) := keyOf_int_mk Try.underlying3 hw
  rcases h.mp with ⟨rfl, _⟩ | ⟨bm, D, rfl, _, ho, ht⟩
  · exact look_nil (w := w) false lawP Try.underlying181 (zeroP w) hkey
  · obtain ⟨v, ps, hrun, hv⟩ := ho.lookup lawP Try.underlying181 (zeroP w) ptrE_nil hkey
    rw [atKey_of_not_has (ht.gone hk)] at hv
    rw [hrun, ptrE_inv_nil hv]
theorem LstP.cell_at (h : LstP w B p m g row vals) (i : Nat) : w.cell? ⟨p, i, none⟩ = #[m, .int .i64 (bf 0 row 0 : Nat), .int .i64 (nx (0 :: row) 0 : Nat), .int .i64 vals.length][i]? := h.here.cell i

theorem new_p (w : World) :
    Calls Try.prog 73 #[] w fun e w' => e = .returned (.pointer (some ⟨w.heap.size, 0, none⟩)) ∧ LstP w' w.heap.size w.heap.size (.map none) (fun _ => 0) [] [] ∧ Kept Nil w w' := by
  go_enter Try.func73, Try.ntmps73
  go_wp2
  go_ret
  refine ⟨rfl, ⟨Nat.le_refl _, Blk.new _ _ _, by simp, by simp, by simp, by simp, by simp, .inl ⟨rfl, rfl⟩⟩, (Kept.refl _ _).alloc _⟩

theorem at0_p (_h : LstP w B p m g row vals) :
    Calls Try.prog 112 #[.pointer (some ⟨p, 0, none⟩), .int .i64 0] w fun e w' => e = .returned (.pointer (some ⟨p, 1, none⟩)) ∧ w = w' := by
  go_enter Try.func112, Try.ntmps112
  go_wp2
  go_ret
  exact ⟨rfl, rfl⟩
theorem atH_p (h : LstP w B p m g row vals) (hl : vals.length ≤ 1000000) {x : Nat} (hx : x ∈ row) :
    Calls Try.prog 112 #[.pointer (some ⟨p, 0, none⟩), .int .i64 (x : Int)] w fun e w' => e = .returned (.pointer (some ⟨g x, 0, none⟩)) ∧ w = w' := by
  have c0 := h.here.cell 0
  have hlook := h.look hx hl
  have hp := (h.range x hx).1
  have hne : (↑x == (0 : Int)) = false := by simp; omega
  clear h hx
  go_enter Try.func112, Try.ntmps112
  go_wp2
  go_ret
  exact ⟨rfl, rfl⟩
end
end Go.Proofs.Ytodghgeghpbdlaa
