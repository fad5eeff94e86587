/- Layer key: contracts of fieldText and Text. -/
import Derived.Test.YtjknibgbbhiooaaDoorKRight
import Derived.Test.YtjknibgbbhiooaaDoorTEnv
import Derived.Laws.Concat
import Derived.Lib.ItoaLen
namespace Go.Proofs.YtjknibgbbhiooaaDoor
open Go.RowKit Go.Shelf Go.Sort

/-- Go's own table of powers of ten lies in memory. -/
def TabW (w : World) : Prop := Lib.TabIs Tryd.prog w "internal/strconv.uint64pow10" .u64 Lib.pow10Tab
theorem TabW.kept {w w' : World} (h : TabW w) (k : Kept Nil w w') : TabW w' := var_kept h k
theorem Env.tabW {w : World} (h : Env w) : TabW w := h.tab
theorem itoa_tab (n : Int) (h0 : 1 ≤ n) (h1 : n ≤ 4096) (w : World) (E : TabW w) :
    Calls Tryd.prog 32 #[.int .i64 n] w fun e w' => e = .returned (.string (nstr n)) ∧ Kept Nil w w' := by
  have h := Any.strconv_Itoa Tryd.laysM171 n (by omega) (by omega) w E
  change Calls Tryd.prog 32 _ _ _ at h
  exact h.mono fun _ _ ⟨he, k, os, hw⟩ => ⟨he, by rw [hw]; exact ((Kept.refl Nil w).drewN k).trans (Kept.grow os) (fun _ _ g => g)⟩

/-- A field's text. -/
def fstr (n : Int) : ByteArray := ⟨(ft n).toArray⟩
theorem fstr_zero : fstr 0 = ⟨#[42]⟩ := rfl
theorem fstr_num {n : Int} (h : n ≠ 0) : fstr n = nstr n := by unfold fstr nstr; rw [ft_num h]
theorem nstr_size {n : Int} (h0 : 1 ≤ n) (h1 : n ≤ 4096) : (nstr n).size ≤ 21 := by
  have := Lib.itoa_length_le n (by omega) (by omega)
  show (Lib.itoa n).toArray.size ≤ 21
  simpa using this
theorem fstr_size {n : Int} (h0 : 0 ≤ n) (h1 : n ≤ 4096) : (fstr n).size ≤ 21 := by
  by_cases h : n = 0
  · subst h; rw [fstr_zero]; decide
  · rw [fstr_num h]; exact nstr_size (by omega) h1
/-- A key's text, as it is put together. -/
def ktxt (t : T3) : ByteArray := fstr t.1 ++ sp ++ fstr t.2.1 ++ sp ++ fstr t.2.2
theorem ktxt_list (t : T3) : (ktxt t).data.toList = ktxtL t := by
  unfold ktxt ktxtL fstr sp
  simp
theorem ktxt_size {t : T3} (h : okKT t = true) : (ktxt t).size ≤ 100 := by
  obtain ⟨⟨a0, a1⟩, ⟨b0, b1⟩, c0, c1⟩ := okKT_iff.1 h
  have := fstr_size a0 a1
  have := fstr_size b0 b1
  have := fstr_size c0 c1
  have e : sp.size = 1 := rfl
  unfold ktxt
  simp only [ByteArray.size_append, e]
  omega
theorem C3.tab {w : World} {B : Nat} {x y z : Value} (E : TabW w) (n : CW (C3 w B x y z)) : TabW n.w := E.kept n.of.2.2.2
theorem ret_s {a b : ByteArray} (h : a = b) : Ending.returned (.string a) = .returned (.string b) := by rw [h]

theorem fieldText_any (n : Int) (h0 : 0 ≤ n) (h1 : n ≤ 4096) (w : World) (E : TabW w) :
    Calls Tryd.prog 26 #[.int .i64 n] w fun e w' => e = .returned (.string (fstr n)) ∧ Kept Nil w w' := by
  by_cases h : n = 0
  · subst h
    go_enter Tryd.func26, Tryd.ntmps26
    go_wp2_with fail
    go_ret
    exact ⟨rfl, Kept.refl _ _⟩
  · have b0 : (n == 0) = false := beq_eq_false_iff_ne.2 h
    have H := Lib.hid (fstr_num h)
    have CI := Lib.hid (itoa_tab n (by omega) h1 w E)
    clear h E
    go_enter Tryd.func26, Tryd.ntmps26
    go_wp2_with fail
    refine CI.out.mono ?_
    rintro e w1 ⟨rfl, hk⟩
    go_wp2_with fail
    go_ret
    exact ⟨ret_s H.out.symm, hk⟩

set_option maxHeartbeats 1000000 in
theorem ktext_good (t : T3) (w : World) (E : TabW w) (ht : okKT t = true) :
    Calls Tryd.prog 18 #[arr t] w fun e w' => e = .returned (.tuple #[.string (ktxt t), .int .i64 0]) ∧ Kept Nil w w' := by
  obtain ⟨⟨a0, a1⟩, ⟨b0, b1⟩, c0, c1⟩ := okKT_iff.1 ht
  have cr : ∀ W : World, Calls Tryd.prog 19 #[arr t] W fun e w' => e = .returned (.bool (okKT t)) ∧ Kept Nil W w' := fun W => kRight_any t W
  rw [ht] at cr
  obtain ⟨a, b, c⟩ := t
  have CR : Hid (∀ W : World, Calls Tryd.prog 19 #[.agg #[.int .i64 a, .int .i64 b, .int .i64 c]] W fun e w' => e = .returned (.bool true) ∧ Kept Nil W w') := Lib.hid cr
  have HX := Lib.hid (show ktxt (a, b, c) = fstr a ++ sp ++ fstr b ++ sp ++ fstr c from rfl)
  have HE := Lib.hid E
  have za : (fstr a).size ≤ 21 := fstr_size a0 a1
  have zb : (fstr b).size ≤ 21 := fstr_size b0 b1
  have zc : (fstr c).size ≤ 21 := fstr_size c0 c1
  clear cr ht E
  show Calls Tryd.prog 18 #[.agg #[.int .i64 a, .int .i64 b, .int .i64 c]] w _
  go_enter Tryd.func18, Tryd.ntmps18
  go_wp2_with fail
  refine (CR.out _).mono ?_
  rintro e w1 ⟨rfl, hk⟩
  have O := Lib.hid (keep3 (own3a w (.int .i64 a) (.int .i64 b) (.int .i64 c) 23) hk)
  go_wp2_with fail
  refine wp_region_in (C3 w w.heap.size (.int .i64 a) (.int .i64 b) (.int .i64 c)) (by kernel_rfl) (by kernel_rfl) (C3.drew O.out) ?_
  have inst : Nonempty (CW (C3 w w.heap.size (.int .i64 a) (.int .i64 b) (.int .i64 c))) := ⟨⟨_, O.out⟩⟩
  have hc0 : ∀ n : CW (C3 w w.heap.size (.int .i64 a) (.int .i64 b) (.int .i64 c)), n.w.cell? ⟨w.heap.size, 0, none⟩ = some (.int .i64 a) := fun n => n.of.1
  have hc1 : ∀ n : CW (C3 w w.heap.size (.int .i64 a) (.int .i64 b) (.int .i64 c)), n.w.cell? ⟨w.heap.size, 1, none⟩ = some (.int .i64 b) := fun n => n.of.2.1
  have hc2 : ∀ n : CW (C3 w w.heap.size (.int .i64 a) (.int .i64 b) (.int .i64 c)), n.w.cell? ⟨w.heap.size, 2, none⟩ = some (.int .i64 c) := fun n => n.of.2.2.1
  repeat (go_big_quiet_step ((go_at_call 26; exact call_in C3.step (fieldText_any _ (by omega) (by omega) _ (C3.tab HE.out _)))))
  refine wpQuiet_nil ?_
  rintro _ ⟨n, rfl⟩
  go_wp2
  go_ret2
  exact ⟨rfl, n.of.2.2.2⟩

set_option maxHeartbeats 1000000 in
theorem ktext_bad (t : T3) (w : World) (ht : okKT t = false) :
    Calls Tryd.prog 18 #[arr t] w fun e w' => e = .returned (.tuple #[.string .empty, .int .i64 13]) ∧ Kept Nil w w' := by
  have cr : ∀ W : World, Calls Tryd.prog 19 #[arr t] W fun e w' => e = .returned (.bool (okKT t)) ∧ Kept Nil W w' := fun W => kRight_any t W
  rw [ht] at cr
  obtain ⟨a, b, c⟩ := t
  have CR : Hid (∀ W : World, Calls Tryd.prog 19 #[.agg #[.int .i64 a, .int .i64 b, .int .i64 c]] W fun e w' => e = .returned (.bool false) ∧ Kept Nil W w') := Lib.hid cr
  clear cr ht
  show Calls Tryd.prog 18 #[.agg #[.int .i64 a, .int .i64 b, .int .i64 c]] w _
  go_enter Tryd.func18, Tryd.ntmps18
  go_wp2_with fail
  refine (CR.out _).mono ?_
  rintro e w1 ⟨rfl, hk⟩
  go_wp2_with fail
  go_ret2
  exact ⟨rfl, ((Kept.refl _ _).alloc _).trans hk (fun _ _ g => g)⟩
end Go.Proofs.YtjknibgbbhiooaaDoor
