/- What a call needs of Go's own library in memory (its table of powers of ten, strconv's two errors), and that it stays; Itoa, Atoi, SplitN. -/
import Derived.Test.YtjknibgbbhiooaaDoorQuiet
import Derived.Test.YtjknibgbbhiooaaDoorTMath
import Derived.Test.YtjknibgbbhiooaaDoorShelf
import Derived.ShapedOpen
import Derived.ChangeAgain
namespace Go.Proofs.YtjknibgbbhiooaaDoor
open Go.RowKit Go.Shelf Go.Sort

structure Env (w : World) : Prop where
  shaped : w.ShapedOpen Tryd.prog
  tab : Lib.TabIs Tryd.prog w "internal/strconv.uint64pow10" .u64 Lib.pow10Tab
  errSyntax : ∃ tp p, w.var? Tryd.prog "strconv.ErrSyntax" = some #[.iface tp p]
  errRange : ∃ tp p, w.var? Tryd.prog "strconv.ErrRange" = some #[.iface tp p]

theorem var_kept {w w' : World} {n : String} {cs : Array Value} (h : w.var? Tryd.prog n = some cs) (k : Kept Nil w w') : w'.var? Tryd.prog n = some cs := by
  unfold World.var? at h ⊢
  cases hg : Tryd.prog.globalNamed n with
  | none => rw [hg] at h; cases h
  | some g =>
    rw [hg] at h
    simp only [Option.bind_some] at h ⊢
    have hl : g < w.heap.size := by
      rcases Nat.lt_or_ge g w.heap.size with h' | h'
      · exact h'
      · rw [Array.getElem?_eq_none h'] at h; cases h
    rw [k.block g hl id]
    exact h
theorem Env.kept {w w' : World} (h : Env w) (k : Kept Nil w w') : Env w' := by
  obtain ⟨a, b, ⟨tp, p, c⟩, tq, q, d⟩ := h
  exact ⟨a.keptBut (may := fun _ => False) (k.toBelow.frame _) (fun _ h => h.elim), var_kept b k, ⟨tp, p, var_kept c k⟩, tq, q, var_kept d k⟩

theorem Kept.grow {w : World} (os : Array Obj) : Kept Nil w (Sort.grow w os) :=
  ⟨rfl, rfl, rfl, by simp [Sort.grow], fun k hk _ => by simp [Sort.grow, Array.getElem?_append, hk]⟩

/-- A numeral. -/
def nstr (n : Int) : ByteArray := ⟨(Lib.itoa n).toArray⟩
theorem itoa_any (n : Int) (h0 : 1 ≤ n) (h1 : n ≤ 4096) (w : World) (E : Env w) :
    Calls Tryd.prog 32 #[.int .i64 n] w fun e w' => e = .returned (.string (nstr n)) ∧ Kept Nil w w' := by
  have h := Any.strconv_Itoa Tryd.laysM171 n (by omega) (by omega) w E.tab
  change Calls Tryd.prog 32 _ _ _ at h
  exact h.mono fun _ _ ⟨he, k, os, hw⟩ => ⟨he, by rw [hw]; exact ((Kept.refl Nil w).drewN k).trans (Kept.grow os) (fun _ _ g => g)⟩

/-- Atoi's pair: the number, whatever the error. -/
def AtoiEnd (s : ByteArray) (w : World) (e : Ending) (w' : World) : Prop := ∃ v, e = .returned (.tuple #[.int .i64 (fld s.data.toList), v]) ∧ Kept Nil w w'
theorem atoi_any (s : ByteArray) (hs : s.size ≤ 100000) (w : World) (E : Env w) :
    Calls Tryd.prog 28 #[.string s] w (AtoiEnd s w) := by
  obtain ⟨_, _, ⟨tp, p, c⟩, tq, q, d⟩ := E
  cases h : Lib.atoiAll s.data.toList
  · have hc := Any.strconv_Atoi_ok Tryd.laysC172 s (by omega) _ h w
    change Calls Tryd.prog 28 _ _ _ at hc
    refine hc.mono fun e w' ⟨he, hw⟩ => ⟨.nilIface, by rw [he]; unfold fld; rw [h], ?_⟩
    rcases hw with rfl | ⟨t, rfl⟩
    · exact Kept.refl _ _
    · exact Kept.ofBelow (Lib.bytesWorld_below _ _ _)
  · have hc := Any.strconv_Atoi_syntax_var Tryd.laysC172 s (by omega) h tp p w c
    change Calls Tryd.prog 28 _ _ _ at hc
    refine hc.mono ?_
    rintro e w' ⟨N, rfl, _, _, hb⟩
    have hf : fld s.data.toList = 0 := by unfold fld; rw [h]
    unfold AtoiEnd
    rw [hf]
    exact ⟨_, rfl, Kept.ofBelow hb⟩
  · have hc := Any.strconv_Atoi_range_var Tryd.laysC172 s (by omega) h tq q w d
    change Calls Tryd.prog 28 _ _ _ at hc
    refine hc.mono ?_
    rintro e w' ⟨N, rfl, _, _, hb⟩
    have hf : fld s.data.toList = Lib.atoiSat s.data.toList := by unfold fld; rw [h]
    unfold AtoiEnd
    rw [hf]
    exact ⟨_, rfl, Kept.ofBelow hb⟩

/-- A blank. -/
def sp : ByteArray := ⟨#[32]⟩
/-- The parts of a text, three at most. -/
def parts (s : ByteArray) : List ByteArray := Lib.splitB sp 0 (min 3 (s.size + 1) - 1) s
theorem parts_list (s : ByteArray) : (parts s).map (·.data.toList) = partsL s.data.toList := by
  unfold parts partsL
  rw [Lib.splitB_data]
  show Lib.splitK [32] 0 _ _ = _
  rw [show s.size = s.data.toList.length from by rw [Array.length_toList]; rfl]
theorem parts_len (s : ByteArray) : (parts s).length ≤ 3 := by
  unfold parts
  have := Lib.splitB_length_le sp 0 (min 3 (s.size + 1) - 1) s
  omega
def SplitEnd (s : ByteArray) (w : World) (e : Ending) (w' : World) : Prop := ∃ cap, e = .returned (.slice (some ⟨w.heap.size, 0, none⟩) (parts s).length cap) ∧ Kept Nil w w' ∧ w'.heap.size = w.heap.size + 1 ∧
  ∀ i p, (parts s)[i]? = some p → w'.cell? ⟨w.heap.size, i, none⟩ = some (.string p)
theorem split_any (s : ByteArray) (hs : s.size ≤ 100000) (w : World) (E : Env w) :
    Calls Tryd.prog 27 #[.string s, .string sp, .int .i64 3] w (SplitEnd s w) := by
  have h := Any.strings_SplitN_shaped Tryd.laysM147 s sp 3 w E.shaped (by omega) (by decide) (by decide) (by decide)
  change Calls Tryd.prog 27 #[.string s, .string sp, .int .i64 3] w _ at h
  refine h.mono fun e w' ⟨he, hw⟩ => ⟨_, he, by rw [hw]; exact (Kept.refl _ _).alloc _, by rw [hw]; simp, fun i p hp => ?_⟩
  rw [hw, Lib.cell_of_heap (heap_alloc_new w _)]
  show (Lib.cellsOf (parts s) _)[i]? = _
  unfold Lib.cellsOf
  rw [List.getElem?_toArray, List.getElem?_append_left (by simpa using (List.getElem?_eq_some_iff.1 hp).1), List.getElem?_map, hp]
  rfl
end Go.Proofs.YtjknibgbbhiooaaDoor
