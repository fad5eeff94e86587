/- Layer term: contracts of Right, of the program and of the reference, of Sym and Var, of stands. -/
import Derived.Test.YtkfijbinaidaiaaUMath
import Derived.WalkSpells
import Derived.WalkLawsBesides
import Derived.ProofKit
import Derived.Outline
import Derived.Deep.QuietTactic
namespace Go.Proofs.Ytkfijbinaidaiaa
open Go.RowKit

theorem termRight_any (v : Bool) (n : Int) (w : World) :
    Calls Try.prog 8 #[.agg #[.bool v, .int .i64 n]] w fun e w' => e = .returned (.bool (okTm v n)) ∧ Kept Nil w w' := by
  cases v
  · cases h : okTm false n
    · have H := Lib.hid h
      have hb := okTm_sym_no h
      clear h
      rcases hb with hb | hb
      all_goals
        go_enter Try.func8, Try.ntmps8
        go_wp2
        go_ret
        first
          | exact ⟨rfl, (Kept.refl _ _).alloc _⟩
          | exact ⟨ret_bool (decide_eq_false (by omega)), (Kept.refl _ _).alloc _⟩
    · obtain ⟨l, u⟩ := okTm_sym.1 h
      clear h
      go_enter Try.func8, Try.ntmps8
      go_wp2
      go_ret
      exact ⟨rfl, (Kept.refl _ _).alloc _⟩
  · cases h : okTm true n
    · have hb := okTm_var_no h
      clear h
      rcases hb with hb | hb
      all_goals
        go_enter Try.func8, Try.ntmps8
        go_wp2
        go_ret
        first
          | exact ⟨rfl, (Kept.refl _ _).alloc _⟩
          | exact ⟨ret_bool (decide_eq_false (by omega)), (Kept.refl _ _).alloc _⟩
    · obtain ⟨l, u⟩ := okTm_var.1 h
      clear h
      go_enter Try.func8, Try.ntmps8
      go_wp2
      go_ret
      exact ⟨rfl, (Kept.refl _ _).alloc _⟩

/-- A term of the reference: 1 says that it is a variable. -/
def isV (v : Bool) : Int := if v then 1 else 0
theorem refRight_any (v : Bool) (n : Int) (w : World) :
    Calls Try.prog 9 #[.agg #[.int .i64 (isV v), .int .i64 n]] w fun e w' => e = .returned (.bool (okTm v n)) ∧ Kept Nil w w' := by
  cases v
  · show Calls Try.prog 9 #[.agg #[.int .i64 0, .int .i64 n]] w _
    cases h : okTm false n
    · have hb := okTm_sym_no h
      clear h
      rcases hb with hb | hb
      all_goals
        go_enter Try.func9, Try.ntmps9
        go_wp2
        go_ret
        first
          | exact ⟨rfl, (Kept.refl _ _).alloc _⟩
          | exact ⟨ret_bool (decide_eq_false (by omega)), (Kept.refl _ _).alloc _⟩
    · obtain ⟨l, u⟩ := okTm_sym.1 h
      clear h
      go_enter Try.func9, Try.ntmps9
      go_wp2
      go_ret
      exact ⟨rfl, (Kept.refl _ _).alloc _⟩
  · show Calls Try.prog 9 #[.agg #[.int .i64 1, .int .i64 n]] w _
    cases h : okTm true n
    · have hb := okTm_var_no h
      clear h
      rcases hb with hb | hb
      all_goals
        go_enter Try.func9, Try.ntmps9
        go_wp2
        go_ret
        first
          | exact ⟨rfl, (Kept.refl _ _).alloc _⟩
          | exact ⟨ret_bool (decide_eq_false (by omega)), (Kept.refl _ _).alloc _⟩
    · obtain ⟨l, u⟩ := okTm_var.1 h
      clear h
      go_enter Try.func9, Try.ntmps9
      go_wp2
      go_ret
      exact ⟨rfl, (Kept.refl _ _).alloc _⟩

theorem sym_any (n : Int) (w : World) :
    Calls Try.prog 11 #[.int .i64 n] w fun e w' => e = .returned (.agg #[.bool false, .int .i64 n]) ∧ Kept Nil w w' := by
  go_enter Try.func11, Try.ntmps11
  go_wp2
  exact bodyPost_ret (v := .agg #[.bool false, .int .i64 n]) (by simp [results, Try.results11, go_sem]) rfl ⟨rfl, (Kept.refl _ _).alloc _⟩
theorem var_any (n : Int) (w : World) :
    Calls Try.prog 12 #[.int .i64 n] w fun e w' => e = .returned (.agg #[.bool true, .int .i64 n]) ∧ Kept Nil w w' := by
  go_enter Try.func12, Try.ntmps12
  go_wp2
  exact bodyPost_ret (v := .agg #[.bool true, .int .i64 n]) (by simp [results, Try.results12, go_sem]) rfl ⟨rfl, (Kept.refl _ _).alloc _⟩

/-- A block that holds just these cells. -/
def Blk (w : World) (g : Nat) (t : TypeId) (cs : Array Value) : Prop := w.heap[g]? = some (.cells cs t (0, 0))
section
variable {w w' : World} {g : Nat} {t : TypeId} {cs : Array Value}
theorem Blk.lt (h : Blk w g t cs) : g < w.heap.size := by
  rcases Nat.lt_or_ge g w.heap.size with hlt | hge
  · exact hlt
  · unfold Blk at h; rw [Array.getElem?_eq_none hge] at h; cases h
theorem Blk.cell (h : Blk w g t cs) (i : Nat) : w.cell? ⟨g, i, none⟩ = cs[i]? := cell_of_row w g i cs t (0, 0) h
theorem Blk.frozen (h : Blk w g t cs) (i : Nat) : w.frozen? ⟨g, i, none⟩ = false := by unfold Blk at h; simp [World.frozen?, h]
theorem Blk.new (w : World) (t : TypeId) (cs : Array Value) : Blk (w.alloc (.cells cs t)) w.heap.size t cs := heap_alloc_new w _
theorem Blk.drew (h : Blk w g t cs) : Blk w.drew g t cs := h
theorem Blk.alloc (h : Blk w g t cs) (o : Obj) : Blk (w.alloc o) g t cs := (Below.heap_alloc w o g h.lt).trans h
theorem Blk.set_ (h : Blk w g t cs) (i : Nat) (u : Value) : Blk (w.setCell ⟨g, i, none⟩ u) g t (cs.setIfInBounds i u) := by
  unfold Blk at h ⊢
  simp [World.setCell, Array.getElem?_modify, h]
theorem Blk.far (h : Blk w g t cs) {p : Addr} (hp : g ≠ p.block) (u : Value) : Blk (w.setCell p u) g t cs := (Below.heap_setCell w p u g hp).trans h
theorem Blk.kept {F : Nat → Prop} (h : Blk w g t cs) (k : Kept F w w') (hF : ¬ F g) : Blk w' g t cs := (k.block g h.lt hF).trans h
theorem Blk.row (h : Blk w g t cs) (cs' : Array Value) : Blk (w.setRow g cs') g t cs' := setRow_heap w g cs cs' t (0, 0) h
theorem Blk.row_far (h : Blk w g t cs) {g' : Nat} (hg : g ≠ g') (cs' : Array Value) : Blk (w.setRow g' cs') g t cs := (setRow_other w g' g cs' (fun e => hg e)).trans h
end
theorem Kept.setRow {F : Nat → Prop} {a w : World} (h : Kept F a w) (g : Nat) (hg : F g ∨ a.heap.size ≤ g) (cs : Array Value) : Kept F a (w.setRow g cs) :=
  ⟨h.os, h.tape, h.output, by simpa using h.size, fun k hk hF => (setRow_other w g k cs (fun e => by subst e; rcases hg with hg | hg; exact hF hg; omega)).trans (h.block k hk hF)⟩
theorem infoBind : (Try.prog.info? 37).map (·.size) = some 33 := by kernel_rfl
theorem infoB (b : Bd) : (Try.prog.info? 37).map (·.size) = some (cellsB b).size := by rw [cellsB_size]; exact infoBind
theorem zeroCells : (Try.prog.info? 37).map (·.zero) = some (some (valB zeroB)) := by kernel_rfl

theorem stands_any (v : Bool) (n : Int) (b : Bd) (w : World) :
    Calls Try.prog 24 #[.agg #[.bool v, .int .i64 n], valB b] w fun e w' => e = .returned (.int .i64 (stand (v, n) b)) ∧ Kept Nil w w' := by
  have HR := Lib.hid (fun W => termRight_any v n W)
  show Calls Try.prog 24 #[.agg #[.bool v, .int .i64 n], .agg (cellsB b)] w _
  cases h : okTm v n
  · have HO := Lib.hid h
    clear h
    go_enter Try.func24, Try.ntmps24
    go_wp2_with fail
    refine (HR.out _).mono ?_
    rintro e w1 ⟨rfl, k1⟩
    rw [HO.out]
    go_wp2
    go_ret
    exact ⟨ret_int (by unfold stand; simp [HO.out]), (((Kept.refl _ _).alloc _).alloc _).trans k1 (fun _ _ g => g)⟩
  · cases v
    · have HO := Lib.hid h
      clear h
      go_enter Try.func24, Try.ntmps24
      go_wp2_with fail
      refine (HR.out _).mono ?_
      rintro e w1 ⟨rfl, k1⟩
      rw [HO.out]
      have O := Lib.hid (((Blk.new w 23 #[.bool false, .int .i64 n]).alloc (.cells (cellsB b) 37)).kept k1 id)
      have c0 := O.out.cell 0
      have c1 := O.out.cell 1
      simp at c0 c1
      go_wp2
      go_ret
      exact ⟨ret_int (by unfold stand; simp [HO.out]), (((Kept.refl _ _).alloc _).alloc _).trans k1 (fun _ _ g => g)⟩
    · have HO := Lib.hid h
      obtain ⟨l, u⟩ := okTm_var.1 h
      clear h
      obtain ⟨m, rfl⟩ : ∃ m : Nat, n = (m : Int) := ⟨n.toNat, by omega⟩
      go_enter Try.func24, Try.ntmps24
      go_wp2_with fail
      refine (HR.out _).mono ?_
      rintro e w1 ⟨rfl, k1⟩
      rw [HO.out]
      have O := Lib.hid (((Blk.new w 23 #[.bool true, .int .i64 m]).alloc (.cells (cellsB b) 37)).kept k1 id)
      have c0 := O.out.cell 0
      have c1 := O.out.cell 1
      simp at c0 c1
      have P := Lib.hid ((Blk.new (w.alloc (.cells #[.bool true, .int .i64 m] 23)) 37 (cellsB b)).kept k1 id)
      have c2 := P.out.cell m
      rw [cellsB_get b (by omega)] at c2
      simp at c2
      go_wp2
      go_ret
      exact ⟨ret_int (by unfold stand; simp [HO.out]), (((Kept.refl _ _).alloc _).alloc _).trans k1 (fun _ _ g => g)⟩
end Go.Proofs.Ytkfijbinaidaiaa
