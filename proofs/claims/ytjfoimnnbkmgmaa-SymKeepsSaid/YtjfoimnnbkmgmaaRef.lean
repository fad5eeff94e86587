/- The document's own list of names: Find and Intern of retiaryref01. -/
import Derived.Test.YtjfoimnnbkmgmaaIntern
namespace Go.Proofs.Ytjfoimnnbkmgmaa
open Go.RowKit Go.Maps

theorem posFrom_hit {s : ByteArray} : ∀ {l : List ByteArray} {k j : Nat}, (∀ i, i < j → l[i]? ≠ some s) → l[j]? = some s → posFrom l s k = k + j + 1
  | [], _, _, _, h => by simp at h
  | x :: r, k, 0, _, h => by simp at h; subst h; simp [posFrom]
  | x :: r, k, j + 1, hn, h => by
    have hx : x ≠ s := fun e => hn 0 (by omega) (by simp [e])
    rw [posFrom, if_neg hx, posFrom_hit (j := j) (fun i hi => by have := hn (i + 1) (by omega); simpa using this) (by simpa using h)]; omega

/-- The document's list lies in a row of its own. -/
theorem str_eq {x s : ByteArray} (h : x = s) : (x.toList == s.toList) = true := by rw [h]; exact beq_self_eq_true _
theorem str_ne {x s : ByteArray} (h : x ≠ s) : (x.toList == s.toList) = false := by
  rw [beq_eq_false_iff_ne, ByteArray.toList_eq, ByteArray.toList_eq]
  exact fun e => h (ByteArray.ext (Array.toList_inj.1 e))

def Row (w : World) (B : Nat) (v : Value) (l : List ByteArray) : Prop := w.ownsRow B 9 1 v l.length (l.map .string)
theorem Row.shape {w : World} {B : Nat} {v : Value} {l : List ByteArray} (h : Row w B v l) : ∃ a cap, v = .slice a l.length cap := by
  rcases h.2 with ⟨e, e0⟩ | ⟨g, cap, cur, e, _⟩
  · exact ⟨none, 0, by rw [e, e0]⟩
  · exact ⟨_, _, e⟩

set_option maxHeartbeats 1000000 in
theorem refFind_any {w : World} {B : Nat} {v : Value} {l : List ByteArray} (h : Row w B v l) (hl : l.length ≤ 5000) (s : ByteArray) :
    Calls Try.prog 13 #[v, .string s] w fun e w' => e = .returned (.int .i64 (pos l s)) ∧ w = w' := by
  rcases h.2 with ⟨e, e0⟩ | ⟨g, cap, cur, e, _⟩
  · obtain rfl := List.length_eq_zero_iff.1 e0
    subst e
    clear e0 h
    go_enter Try.func13, Try.ntmps13
    go_wp2
    go_loop [9] (fun i => i = .int .i64 0) (fun _ => 0)
    case atStart => rfl
    case round =>
      obtain rfl := hrel
      go_wp2
      go_ret
      exact ⟨rfl, rfl⟩
  · subst e
    have HR := Lib.hid h
    clear h
    go_enter Try.func13, Try.ntmps13
    go_wp2
    go_loop [9] (fun i => ∃ j : Nat, j ≤ l.length ∧ i = .int .i64 j ∧ ∀ i, i < j → l[i]? ≠ some s) (fun i => l.length - (intOf i).toNat)
    case atStart => exact ⟨0, Nat.zero_le _, rfl, fun i hi => by omega⟩
    case round =>
      obtain ⟨j, hj, rfl, hno⟩ := hrel
      have HN := Lib.hid hno
      clear hno
      by_cases hlt : j < l.length
      · obtain ⟨x, hx⟩ : ∃ x, l[j]? = some x := ⟨l[j], by simp⟩
        obtain ⟨g', cap', e, hc⟩ := ownName HR.out hx
        cases e
        have HX := Lib.hid hx
        clear hx
        by_cases hs : x = s
        · have HP : Hid (pos l s = j + 1) := by
            show pos l s = j + 1
            have := posFrom_hit (k := 0) HN.out (hs ▸ HX.out)
            unfold pos; omega
          have hb := str_eq hs
          clear hs
          go_wp2
          go_ret
          exact ⟨ret_int (by rw [HP.out]; simp), rfl⟩
        · have hb := str_ne hs
          have HB := Lib.hid hs
          clear hs
          go_wp2
          go_round
          case rel =>
            refine ⟨j + 1, hlt, by go_num, fun i hi => ?_⟩
            rcases Nat.lt_or_ge i j with h | h
            · exact HN.out i h
            · obtain rfl : i = j := by omega
              rw [HX.out]
              exact fun e => HB.out (Option.some.inj e)
          case measure => simp [intOf]; omega
      · have HP : Hid (pos l s = 0) := by
          refine pos_zero.2 (fun hm => ?_)
          obtain ⟨i, hi⟩ := List.mem_iff_getElem?.1 hm
          exact HN.out i (by have := (List.getElem?_eq_some_iff.1 hi).1; omega) hi
        go_wp2
        go_ret
        exact ⟨ret_int (by rw [HP.out]; simp), rfl⟩

/-- append at the operation, by an equation on its run. -/
theorem wpList_append_run {P : Program} {w : World} {ops : Array Oper} {rest : List Oper} {o : Oper} {a : Act} {Q : Exit → Act → World → Prop} (hgd : o.guard = none) (s x : Operand) (t : TypeId)
    (ho : o.op = .call { callee := .builtin .append, args := #[s, x], argTypes := #[t, t] }) (v y : Value) (hs : a.eval s = v) (hx : a.eval x = y) {v' : Value} {w' : World}
    (hr : (Builtin.append_ #[t, t] o.type #[v, y]).run P w = .ok v' w') (h : wpList P ops Q rest (a.put o.dst v') w') : wpList P ops Q (o :: rest) a w := by
  refine wpList_plain hgd fun K hK => ?_
  unfold Oper.wp execOp
  simp only [ho, resolve, invoke, builtin, Sem.run_bind, Sem.run_pure, Result.andThen_ok, List.map_toArray, List.map_cons, List.map_nil, hs, hx, hr]
  exact hK _ _ h

/-- A list appended to no list: the same names, in new memory. -/
theorem append_all (w : World) {B : Nat} {v : Value} {l : List ByteArray} (h : Row w B v l) (hl : l.length ≤ 5000) :
    ∃ v' w', (Builtin.append_ #[24, 24] 24 #[.slice none 0 0, v]).run Try.prog w = .ok v' w' ∧ Row w' w.heap.size v' l ∧ Kept Nil w w' := by
  obtain ⟨i0, hi, hz0, hz1, hz2⟩ := info_parts Try.infoStr
  rcases h.2 with ⟨e, e0⟩ | ⟨g, cap, cur, e, _⟩
  · obtain rfl := List.length_eq_zero_iff.1 e0
    subst e
    refine ⟨.slice none 0 0, w, ?_, World.ownsRow_nil _ _ _ _, Kept.refl _ _⟩
    simp [Builtin.append_, run_underlying Try.underlying24, sizeOf, typeInfo, hi, Builtin.lenOf, Builtin.firstCells]
  · subst e
    obtain ⟨v', w', r, o, g', _⟩ := run_append_own (P := Try.prog) w w.heap.size 24 24 9 i0 (.string .empty) 1 16 Try.underlying24 hi hz0 hz1 hz2 rfl (by decide) (.slice none 0 0) 0 [] (World.ownsRow_nil _ _ _ _)
      ⟨g, 0, none⟩ l.length cap (l.map .string) (by simp) (h.cells rfl) (fun u hu => by obtain ⟨x, _, rfl⟩ := List.mem_map.1 hu; rfl) (by unfold maxLen; omega) (by omega) (Nat.le_refl _)
    refine ⟨v', w', r, ?_, (Kept.refl _ _).grown g' (fun k hk => by cases hk)⟩
    simpa [Row] using o

theorem append_one (w : World) {B : Nat} {v : Value} {l : List ByteArray} (h : Row w B v l) (hB : B ≤ w.heap.size) (hl : l.length ≤ 5000) (s : ByteArray) :
    ∃ a cap w', (Builtin.append_ #[24, 24] 24 #[v, .slice (some ⟨w.heap.size, 0, none⟩) 1 1]).run Try.prog (w.alloc (.cells #[.string s] 9)) = .ok (.slice a (l.length + 1) cap) w' ∧ Row w' B (.slice a (l.length + 1) cap) (l ++ [s]) ∧ (w.alloc (.cells #[.string s] 9)).grownBy w' v.ownBlock := by
  obtain ⟨i0, hi, hz0, hz1, hz2⟩ := info_parts Try.infoStr
  obtain ⟨v', w', r, o, g', _⟩ := run_append_own (P := Try.prog) (w.alloc (.cells #[.string s] 9)) B 24 24 9 i0 (.string .empty) 1 16 Try.underlying24 hi hz0 hz1 hz2 rfl (by decide) v l.length (l.map .string) (h.alloc _)
    ⟨w.heap.size, 0, none⟩ 1 1 [.string s] rfl (cell_one_new _ _ _) (fun u hu => by simp at hu; subst hu; rfl) (by unfold maxLen; omega) (by omega) (by simp; omega)
  have o2 : Row w' B v' (l ++ [s]) := by simpa [Row] using o
  obtain ⟨a, cap, rfl⟩ := o2.shape
  refine ⟨a, cap, w', ?_, ?_, g'⟩
  · simpa using r
  · simpa using o2

theorem refIntern_bad {w : World} {B : Nat} {v : Value} {l : List ByteArray} (_h : Row w B v l) (s : ByteArray) (hs : s.size ≤ maxLen) (hok : okName s = false) :
    Calls Try.prog 14 #[v, .string s] w fun e w' => e = .returned (.tuple #[v, .int .i64 0, .int .i64 1]) ∧ w = w' := by
  have HO := Lib.hid hok
  clear hok
  go_enter Try.func14, Try.ntmps14
  go_wp2_with (go_at_call 10; refine (refRight_any s _ hs).mono ?_; rintro e w' ⟨rfl, rfl⟩; rw [HO.out])
  go_ret3
  exact ⟨rfl, rfl⟩

theorem refIntern_there {w : World} {B : Nat} {v : Value} {l : List ByteArray} (h : Row w B v l) (hl : l.length ≤ 4096) (s : ByteArray) (hs : s.size ≤ maxLen) (hok : okName s = true) (hp : 0 < pos l s) :
    Calls Try.prog 14 #[v, .string s] w fun e w' => e = .returned (.tuple #[v, .int .i64 (pos l s), .int .i64 0]) ∧ w = w' := by
  have HO := Lib.hid hok
  clear hok
  go_enter Try.func14, Try.ntmps14
  go_wp2_with fail
  refine (refRight_any s _ hs).mono ?_
  rintro e w' ⟨rfl, rfl⟩
  rw [HO.out]
  go_wp2_with fail
  refine (refFind_any h (by omega) s).mono ?_
  rintro e w' ⟨rfl, rfl⟩
  go_wp2_with fail
  go_ret3
  exact ⟨rfl, rfl⟩

set_option maxRecDepth 100000 in
set_option maxHeartbeats 1000000 in
theorem refIntern_new {w : World} {B : Nat} {v : Value} {l : List ByteArray} (h : Row w B v l) (hl : l.length < 4096) (s : ByteArray) (hs : s.size ≤ maxLen) (hok : okName s = true) (hp : pos l s = 0) :
    Calls Try.prog 14 #[v, .string s] w fun e w' => ∃ v', e = .returned (.tuple #[v', .int .i64 ((l.length : Int) + 1), .int .i64 0]) ∧ Row w' w.heap.size v' (l ++ [s]) ∧ Kept Nil w w' := by
  have HO := Lib.hid hok
  have HP := Lib.hid hp
  clear hok hp
  obtain ⟨a, cap, rfl⟩ := h.shape
  obtain ⟨v1, w1, r1, o1, k1⟩ := append_all w h (by omega)
  obtain ⟨a2, cap2, w2, r2, o2, g2⟩ := append_one w1 o1 k1.size (by omega) s
  have K1 := Lib.hid k1
  have G2 := Lib.hid g2
  have O1 := Lib.hid o1
  have O2 := Lib.hid o2
  have R1 := Lib.hid r1
  have R2 := Lib.hid r2
  clear k1 g2 o1 o2 r1 r2
  go_enter Try.func14, Try.ntmps14
  go_wp2_with fail
  refine (refRight_any s _ hs).mono ?_
  rintro e w' ⟨rfl, rfl⟩
  rw [HO.out]
  go_wp2_with fail
  refine (refFind_any h (by omega) s).mono ?_
  rintro e w' ⟨rfl, rfl⟩
  rw [HP.out]
  go_wp2_with (at_builtin; first | refine wpList_append_run rfl (.tmp 24) (.tmp 25) 24 rfl _ _ rfl rfl R1.out ?_ | refine wpList_append_run rfl (.tmp 27) (.tmp 29) 24 rfl _ _ rfl rfl R2.out ?_)
  go_ret3
  refine ⟨_, rfl, O2.out, (K1.out.alloc _).grown G2.out (fun k hk => ?_)⟩
  exact .inr (O1.out.lt k hk).1
end Go.Proofs.Ytjfoimnnbkmgmaa
