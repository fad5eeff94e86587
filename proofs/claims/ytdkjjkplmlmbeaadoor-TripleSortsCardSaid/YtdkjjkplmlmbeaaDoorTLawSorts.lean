/- Any triples are sorted, all of them, and what came in stays: TripleSorts returns true, and writes nothing that was there. No condition but Go's own variables. -/
import Derived.Test.YtdkjjkplmlmbeaaDoorTAwake
import Derived.Test.YtdkjjkplmlmbeaaDoorTSort
import Derived.Laws.AppendOwnNone
import Derived.Test.YtdkjjkplmlmbeaaDoorRow
namespace Go.Proofs.YtdkjjkplmlmbeaaDoor
open Go.RowKit

/-- The triples that come in. -/
def Tris (w : World) (a : Option Addr) (len cap : Nat) (ts : List T3) : Prop :=
  ts.length = len ∧ len ≤ maxLen ∧ ((a = none ∧ len = 0 ∧ cap = 0) ∨ (len = 0 ∧ ∃ x, a = some x) ∨ ∃ b off, a = some ⟨b, off, none⟩ ∧ TAt w b off ts)

/-- append of all that came in onto a new list without room. -/
theorem own_all (w : World) {a : Option Addr} {len cap : Nat} {ts : List T3} (h : Tris w a len cap ts) (hl : len ≤ 60) :
    ∃ g cap' w1, (Builtin.append_ #[40, 40] 40 #[.slice (some ⟨w.heap.size, 0, none⟩) 0 0, .slice a len cap]).run Tryd.prog (w.alloc (.cells #[] 23)) = .ok (.slice (some ⟨g, 0, none⟩) len cap') w1 ∧ TRow w1 w.heap.size g cap' ts ∧ Kept Nil w w1 := by
  obtain ⟨i0, hi, hz0, hz1, hz2⟩ := info_parts Tryd.infoT
  obtain ⟨hlen, hm, h⟩ := h
  have o0 : (w.alloc (.cells #[] 23)).ownsRow w.heap.size 23 3 (.slice (some ⟨w.heap.size, 0, none⟩) 0 0) 0 [] :=
    ⟨rfl, .inr ⟨w.heap.size, 0, #[], rfl, Nat.le_refl _, heap_alloc_new w _, Nat.le_refl _, Nat.zero_le _, rfl, rfl⟩⟩
  rcases h with ⟨rfl, rfl, rfl⟩ | ⟨rfl, x, rfl⟩ | ⟨b, off, rfl, ht⟩
  · obtain rfl := List.length_eq_zero_iff.1 hlen
    exact ⟨w.heap.size, 0, _, run_append_owned_none (P := Tryd.prog) _ w.heap.size 40 40 23 i0 3 Tryd.underlying40 hi _ 0 [] o0, o0, (Kept.refl _ _).alloc _⟩
  · obtain rfl := List.length_eq_zero_iff.1 hlen
    obtain ⟨v', w', r, o, g', hn⟩ := run_append_own (P := Tryd.prog) (w.alloc (.cells #[] 23)) w.heap.size 40 40 23 i0 (.agg #[.int .i64 0, .int .i64 0, .int .i64 0]) 3 24 Tryd.underlying40 hi hz0 hz1 hz2 rfl (by decide) _ 0 [] o0
      x 0 cap [] rfl (fun j u hu => by simp at hu) (fun u hu => by cases hu) (by unfold maxLen; omega) (by omega) (by simp)
    rw [Nat.zero_add, List.nil_append] at o
    rcases o.2 with ⟨e, _⟩ | ⟨g, cap', cur, e, hh⟩
    · exact absurd (hn.1 e).1 (by simp)
    · subst e
      exact ⟨g, cap', w', r, o, ((Kept.refl _ _).alloc _).grown g' (fun k hk => .inr (by simp [Value.ownBlock] at hk; omega))⟩
  · have ht' := ht.kept ((Kept.refl Nil w).alloc (.cells #[] 23))
    obtain ⟨v', w', r, o, g', hn⟩ := run_append_own (P := Tryd.prog) (w.alloc (.cells #[] 23)) w.heap.size 40 40 23 i0 (.agg #[.int .i64 0, .int .i64 0, .int .i64 0]) 3 24 Tryd.underlying40 hi hz0 hz1 hz2 rfl (by decide) _ 0 [] o0
      ⟨b, off, none⟩ len cap (flat ts) (by rw [flat_len, hlen]) (fun j u hu => by
        rw [show (⟨b, off, none⟩ : Addr).add j = ⟨b, off + j, none⟩ from by unfold Addr.add; split <;> simp_all]
        exact ht'.news j u hu) (flat_one ts) (by unfold maxLen; omega) (by omega) (by simp)
    rw [Nat.zero_add, List.nil_append] at o
    rcases o.2 with ⟨e, _⟩ | ⟨g, cap', cur, e, hh⟩
    · exact absurd (hn.1 e).1 (by simp)
    · subst e
      exact ⟨g, cap', w', r, by unfold TRow; rw [hlen]; exact o, ((Kept.refl _ _).alloc _).grown g' (fun k hk => .inr (by simp [Value.ownBlock] at hk; omega))⟩

def cnt (x : T3) (l : List T3) (k : Nat) : Nat := (l.take k).count x
theorem cnt_next {x y : T3} {l : List T3} {k : Nat} (h : l[k]? = some y) : cnt x l (k + 1) = cnt x l k + if y = x then 1 else 0 := by
  unfold cnt
  obtain ⟨hk, e⟩ := List.getElem?_eq_some_iff.1 h
  rw [List.take_succ_eq_append_getElem hk, List.count_append, e, List.count_singleton]
  simp
theorem cnt_le (x : T3) (l : List T3) (k : Nat) : cnt x l k ≤ k := Nat.le_trans (List.count_le_length ..) (List.length_take_le ..)
theorem cnt_all (x : T3) {l m : List T3} (h : l.Perm m) {k : Nat} (hk : k = m.length) : cnt x l k = cnt x m k := by
  unfold cnt
  rw [List.take_of_length_le (by rw [h.length_eq]; omega), List.take_of_length_le (by omega)]
  exact h.count_eq x

/-- The worlds of the law's loops: what came in, the copy, and the sorted list lie there; only new memory has turned. -/
structure CS (w : World) (g b off g2 : Nat) (ts us : List T3) (W : World) : Prop where
  kept : Kept Nil w W
  own : TAt W g 0 ts
  src : TAt W b off ts
  out : TAt W g2 0 us
theorem CS.step {w : World} {g b off g2 : Nat} {ts us : List T3} (W W' : World) (h : CS w g b off g2 ts us W) (k : Kept Nil W W') : CS w g b off g2 ts us W' :=
  ⟨h.kept.trans k (fun _ _ g => g), h.own.kept k, h.src.kept k, h.out.kept k⟩

set_option maxRecDepth 100000 in
set_option maxHeartbeats 4000000 in
theorem sorts_some (b off len cap : Nat) (ts : List T3) (w : World) (h : Tris w (some ⟨b, off, none⟩) len cap ts) (hsrc : TAt w b off ts) (hl : len ≤ 60) (E : Env w) :
    Calls Tryd.prog 6 #[.slice (some ⟨b, off, none⟩) len cap] w fun e w' => e = .returned (.bool true) ∧ Kept Nil w w' := by
  have hlen := h.1
  obtain ⟨g, cap', w1, r1, o1, k1⟩ := own_all w h hl
  have R1 := Lib.hid r1
  have CA : Hid (∀ W : World, Env W → Calls Tryd.prog 11 #[] W fun e w' => e = .returned (.bool true) ∧ Kept Nil W w') := Lib.hid fun W h => awake_any W h
  have HE := Lib.hid E
  have cs := sort_any o1 (by omega)
  rw [hlen] at cs
  have SC : Hid (Calls Tryd.prog 18 #[.slice (some ⟨g, 0, none⟩) len cap'] w1 (SortEnd ts w1)) := cs
  have K1 := Lib.hid k1
  have O1 := Lib.hid o1.tat
  have S1 := Lib.hid hsrc
  have HL := Lib.hid hlen
  clear r1 E cs k1 h hsrc o1 hlen
  go_enter Tryd.func6, Tryd.ntmps6
  go_wp2_with (at_builtin; refine wpList_append_run rfl (.tmp 13) (.tmp 14) 40 rfl _ _ rfl rfl R1.out ?_)
  refine SC.out.mono ?_
  rintro e w2 ⟨g2, cap2, us, rfl, ho, hp, hs, k2⟩
  have C0 := Lib.hid (show CS w g b off g2 ts us w2 from ⟨K1.out.trans k2 (fun _ _ g => g), O1.out.kept k2, S1.out.kept (K1.out.trans k2 (fun _ _ g => g)), ho⟩)
  have HP := Lib.hid hp
  have HS := Lib.hid hs
  rw [HL.out]
  clear ho hp hs k2
  have hd0 : decide (60 < (len : Int)) = false := decide_eq_false (by omega)
  go_wp2_with fail
  go_loopw [25] (fun i W => ∃ k : Nat, k ≤ len ∧ i = .int .i64 k ∧ Hid (CS w g b off g2 ts us W)) (fun i _ => len - (intOf i).toNat)
  case atStart => exact ⟨0, Nat.zero_le _, rfl, C0⟩
  case round =>
    clear C0
    obtain ⟨k, hk, rfl, HC⟩ := hrel
    by_cases hlt : k < len
    · obtain ⟨x, hx⟩ : ∃ x, ts[k]? = some x := ⟨_, List.getElem?_eq_getElem (by rw [HL.out]; exact hlt)⟩
      have HX := Lib.hid hx
      have q0 : ∀ W, (Op.equalIn 10000 23 (.agg #[.int .i64 x.1, .int .i64 x.2.1, .int .i64 x.2.2]) (.agg #[.int .i64 x.1, .int .i64 x.2.1, .int .i64 x.2.2])).run Tryd.prog W = .ok true W := fun W => by rw [eqT]; simp
      clear hx
      obtain ⟨wo, hwo⟩ : ∃ wo : World, wo = wr := ⟨_, rfl⟩
      have inst : Nonempty (CW (CS w g b off g2 ts us)) := ⟨⟨_, HC.out⟩⟩
      have a0 : ∀ n : CW (CS w g b off g2 ts us), n.w.cell? ⟨g, k * 3, none⟩ = some (.int .i64 x.1) := fun n => by have := (n.of.own k x HX.out).1; rw [Nat.zero_add] at this; exact this
      have a1 : ∀ n : CW (CS w g b off g2 ts us), n.w.cell? ⟨g, k * 3 + 1, none⟩ = some (.int .i64 x.2.1) := fun n => by have := (n.of.own k x HX.out).2.1; rw [Nat.zero_add] at this; exact this
      have a2 : ∀ n : CW (CS w g b off g2 ts us), n.w.cell? ⟨g, k * 3 + 2, none⟩ = some (.int .i64 x.2.2) := fun n => by have := (n.of.own k x HX.out).2.2; rw [Nat.zero_add] at this; exact this
      have b0 : ∀ n : CW (CS w g b off g2 ts us), n.w.cell? ⟨b, off + k * 3, none⟩ = some (.int .i64 x.1) := fun n => (n.of.src k x HX.out).1
      have b1 : ∀ n : CW (CS w g b off g2 ts us), n.w.cell? ⟨b, off + k * 3 + 1, none⟩ = some (.int .i64 x.2.1) := fun n => (n.of.src k x HX.out).2.1
      have b2 : ∀ n : CW (CS w g b off g2 ts us), n.w.cell? ⟨b, off + k * 3 + 2, none⟩ = some (.int .i64 x.2.2) := fun n => (n.of.src k x HX.out).2.2
      rcases Nat.eq_zero_or_pos k with hk0 | hk0
      have d0 : decide (0 < k) = false := decide_eq_false (by omega)
      clear hk0
      go_wp2_with fail
      refine wp_region_in (CS w g b off g2 ts us) (by kernel_rfl) (by kernel_rfl) (CS.step _ _ HC.out (Kept.refl _ _).drew) ?_
      repeat (go_big_quiet_step (fail))
      refine wpQuiet_nil ?_
      rintro _ ⟨n, rfl⟩
      clear a0 a1 a2 b0 b1 b2 d0 inst
      go_wp2_with fail
      rotate_left
      obtain ⟨m, hm⟩ : ∃ m, k = m + 1 := ⟨k - 1, by omega⟩
      have d0 : decide (0 < k) = true := decide_eq_true (by omega)
      have e1 : IntKind.i64.wrap ((k : Int) - 1) = (m : Int) := by rw [IntWalk.i64_in _ (by omega)]; omega
      have e2 : ((k : Int) - 1) = (m : Int) := by omega
      have hm1 : (m : Int) < len := by omega
      have hm2 : m < len := by omega
      have hul : us.length = len := by rw [HP.out.length_eq]; exact HL.out
      obtain ⟨u, hu⟩ : ∃ u, us[m]? = some u := ⟨_, List.getElem?_eq_getElem (by omega)⟩
      obtain ⟨v, hv⟩ : ∃ v, us[k]? = some v := ⟨_, List.getElem?_eq_getElem (by omega)⟩
      have hless : lessT v u = false := by
        obtain ⟨hi, e⟩ := List.getElem?_eq_some_iff.1 hu
        obtain ⟨hi', e'⟩ := List.getElem?_eq_some_iff.1 hv
        have := List.pairwise_iff_getElem.1 HS.out m k hi hi' (by omega)
        rw [e, e'] at this
        exact this
      have CL : Hid (∀ W : World, Calls Tryd.prog 15 #[.agg #[.int .i64 v.1, .int .i64 v.2.1, .int .i64 v.2.2], .agg #[.int .i64 u.1, .int .i64 u.2.1, .int .i64 u.2.2]] W fun e w' => e = .returned (.bool false) ∧ Kept Nil W w') := Lib.hid fun W => by
        have := less_any v u W
        rw [hless] at this
        exact this
      have HU := Lib.hid hu
      have HV := Lib.hid hv
      clear hu hv hless hul hm
      have v0 : ∀ n : CW (CS w g b off g2 ts us), n.w.cell? ⟨g2, k * 3, none⟩ = some (.int .i64 v.1) := fun n => by have := (n.of.out k v HV.out).1; rw [Nat.zero_add] at this; exact this
      have v1 : ∀ n : CW (CS w g b off g2 ts us), n.w.cell? ⟨g2, k * 3 + 1, none⟩ = some (.int .i64 v.2.1) := fun n => by have := (n.of.out k v HV.out).2.1; rw [Nat.zero_add] at this; exact this
      have v2 : ∀ n : CW (CS w g b off g2 ts us), n.w.cell? ⟨g2, k * 3 + 2, none⟩ = some (.int .i64 v.2.2) := fun n => by have := (n.of.out k v HV.out).2.2; rw [Nat.zero_add] at this; exact this
      have u0 : ∀ n : CW (CS w g b off g2 ts us), n.w.cell? ⟨g2, m * 3, none⟩ = some (.int .i64 u.1) := fun n => by have := (n.of.out m u HU.out).1; rw [Nat.zero_add] at this; exact this
      have u1 : ∀ n : CW (CS w g b off g2 ts us), n.w.cell? ⟨g2, m * 3 + 1, none⟩ = some (.int .i64 u.2.1) := fun n => by have := (n.of.out m u HU.out).2.1; rw [Nat.zero_add] at this; exact this
      have u2 : ∀ n : CW (CS w g b off g2 ts us), n.w.cell? ⟨g2, m * 3 + 2, none⟩ = some (.int .i64 u.2.2) := fun n => by have := (n.of.out m u HU.out).2.2; rw [Nat.zero_add] at this; exact this
      go_wp2_with fail
      refine wp_region_in (CS w g b off g2 ts us) (by kernel_rfl) (by kernel_rfl) (CS.step _ _ HC.out (Kept.refl _ _).drew) ?_
      repeat (go_big_quiet_step ((go_at_call 15; exact call_in CS.step (CL.out _))))
      refine wpQuiet_nil ?_
      rintro _ ⟨n, rfl⟩
      clear a0 a1 a2 b0 b1 b2 d0 inst v0 v1 v2 u0 u1 u2 e1 e2 hm1 hm2 CL HU HV hk0
      go_wp2_with fail
      all_goals
        have HN := Lib.hid n.of
        go_loopw [6, 7, 55] (fun c d i W => ∃ j : Nat, j ≤ len ∧ c = .int .i64 (cnt x ts j) ∧ d = .int .i64 (cnt x us j) ∧ i = .int .i64 j ∧ Hid (CS w g b off g2 ts us W)) (fun _ _ i _ => len - (intOf i).toNat)
        case atStart => exact ⟨0, Nat.zero_le _, rfl, rfl, rfl, HN⟩
        case round =>
          clear HN
          obtain ⟨j, hj, rfl, rfl, rfl, HD⟩ := hrel
          have hc1 := cnt_le x ts j
          have hc2 := cnt_le x us j
          by_cases hjl : j < len
          · obtain ⟨y, hy⟩ : ∃ y, ts[j]? = some y := ⟨_, List.getElem?_eq_getElem (by rw [HL.out]; exact hjl)⟩
            obtain ⟨z, hz⟩ : ∃ z, us[j]? = some z := ⟨_, List.getElem?_eq_getElem (by rw [HP.out.length_eq, HL.out]; exact hjl)⟩
            have HT := Lib.hid (cnt_next (x := x) hy)
            have HU := Lib.hid (cnt_next (x := x) hz)
            have x0 : wr.cell? ⟨b, off + k * 3, none⟩ = some (.int .i64 x.1) := (HD.out.src k x HX.out).1
            have x1 : wr.cell? ⟨b, off + k * 3 + 1, none⟩ = some (.int .i64 x.2.1) := (HD.out.src k x HX.out).2.1
            have x2 : wr.cell? ⟨b, off + k * 3 + 2, none⟩ = some (.int .i64 x.2.2) := (HD.out.src k x HX.out).2.2
            have y0 : wr.cell? ⟨b, off + j * 3, none⟩ = some (.int .i64 y.1) := (HD.out.src j y hy).1
            have y1 : wr.cell? ⟨b, off + j * 3 + 1, none⟩ = some (.int .i64 y.2.1) := (HD.out.src j y hy).2.1
            have y2 : wr.cell? ⟨b, off + j * 3 + 2, none⟩ = some (.int .i64 y.2.2) := (HD.out.src j y hy).2.2
            have z0 : wr.cell? ⟨g2, j * 3, none⟩ = some (.int .i64 z.1) := by have := (HD.out.out j z hz).1; rw [Nat.zero_add] at this; exact this
            have z1 : wr.cell? ⟨g2, j * 3 + 1, none⟩ = some (.int .i64 z.2.1) := by have := (HD.out.out j z hz).2.1; rw [Nat.zero_add] at this; exact this
            have z2 : wr.cell? ⟨g2, j * 3 + 2, none⟩ = some (.int .i64 z.2.2) := by have := (HD.out.out j z hz).2.2; rw [Nat.zero_add] at this; exact this
            clear hy hz
            by_cases hyx : y = x <;> by_cases hzx : z = x
            · have r1 : cnt x ts (j + 1) = cnt x ts j + 1 := by rw [HT.out, if_pos hyx]
              have r2 : cnt x us (j + 1) = cnt x us j + 1 := by rw [HU.out, if_pos hzx]
              have q1 : ∀ W, (Op.equalIn 10000 23 (.agg #[.int .i64 y.1, .int .i64 y.2.1, .int .i64 y.2.2]) (.agg #[.int .i64 x.1, .int .i64 x.2.1, .int .i64 x.2.2])).run Tryd.prog W = .ok true W := fun W => by rw [eqT]; exact congrArg (fun p => Result.ok p W) (decide_eq_true hyx)
              have q2 : ∀ W, (Op.equalIn 10000 23 (.agg #[.int .i64 z.1, .int .i64 z.2.1, .int .i64 z.2.2]) (.agg #[.int .i64 x.1, .int .i64 x.2.1, .int .i64 x.2.2])).run Tryd.prog W = .ok true W := fun W => by rw [eqT]; exact congrArg (fun p => Result.ok p W) (decide_eq_true hzx)
              have R1' := Lib.hid r1
              have R2' := Lib.hid r2
              clear r1 r2 hyx hzx HT HU q0
              go_wp2_with fail
              go_quiet (fail)
              go_wp2_with fail
              go_quiet (fail)
              go_wp2_with fail
              go_roundw
              case rel => exact ⟨j + 1, hjl, by rw [R1'.out]; go_num, by rw [R2'.out]; go_num, by go_num, Lib.hid (CS.step _ _ HD.out ((Kept.refl _ _).drewN _))⟩
              case measure => simp [intOf]; omega
            · have r1 : cnt x ts (j + 1) = cnt x ts j + 1 := by rw [HT.out, if_pos hyx]
              have r2 : cnt x us (j + 1) = cnt x us j + 0 := by rw [HU.out, if_neg hzx]
              have q1 : ∀ W, (Op.equalIn 10000 23 (.agg #[.int .i64 y.1, .int .i64 y.2.1, .int .i64 y.2.2]) (.agg #[.int .i64 x.1, .int .i64 x.2.1, .int .i64 x.2.2])).run Tryd.prog W = .ok true W := fun W => by rw [eqT]; exact congrArg (fun p => Result.ok p W) (decide_eq_true hyx)
              have q2 : ∀ W, (Op.equalIn 10000 23 (.agg #[.int .i64 z.1, .int .i64 z.2.1, .int .i64 z.2.2]) (.agg #[.int .i64 x.1, .int .i64 x.2.1, .int .i64 x.2.2])).run Tryd.prog W = .ok false W := fun W => by rw [eqT]; exact congrArg (fun p => Result.ok p W) (decide_eq_false hzx)
              have R1' := Lib.hid r1
              have R2' := Lib.hid r2
              clear r1 r2 hyx hzx HT HU q0
              go_wp2_with fail
              go_quiet (fail)
              go_wp2_with fail
              go_quiet (fail)
              go_wp2_with fail
              go_roundw
              case rel => exact ⟨j + 1, hjl, by rw [R1'.out]; go_num, by rw [R2'.out]; go_num, by go_num, Lib.hid (CS.step _ _ HD.out ((Kept.refl _ _).drewN _))⟩
              case measure => simp [intOf]; omega
            · have r1 : cnt x ts (j + 1) = cnt x ts j + 0 := by rw [HT.out, if_neg hyx]
              have r2 : cnt x us (j + 1) = cnt x us j + 1 := by rw [HU.out, if_pos hzx]
              have q1 : ∀ W, (Op.equalIn 10000 23 (.agg #[.int .i64 y.1, .int .i64 y.2.1, .int .i64 y.2.2]) (.agg #[.int .i64 x.1, .int .i64 x.2.1, .int .i64 x.2.2])).run Tryd.prog W = .ok false W := fun W => by rw [eqT]; exact congrArg (fun p => Result.ok p W) (decide_eq_false hyx)
              have q2 : ∀ W, (Op.equalIn 10000 23 (.agg #[.int .i64 z.1, .int .i64 z.2.1, .int .i64 z.2.2]) (.agg #[.int .i64 x.1, .int .i64 x.2.1, .int .i64 x.2.2])).run Tryd.prog W = .ok true W := fun W => by rw [eqT]; exact congrArg (fun p => Result.ok p W) (decide_eq_true hzx)
              have R1' := Lib.hid r1
              have R2' := Lib.hid r2
              clear r1 r2 hyx hzx HT HU q0
              go_wp2_with fail
              go_quiet (fail)
              go_wp2_with fail
              go_quiet (fail)
              go_wp2_with fail
              go_roundw
              case rel => exact ⟨j + 1, hjl, by rw [R1'.out]; go_num, by rw [R2'.out]; go_num, by go_num, Lib.hid (CS.step _ _ HD.out ((Kept.refl _ _).drewN _))⟩
              case measure => simp [intOf]; omega
            · have r1 : cnt x ts (j + 1) = cnt x ts j + 0 := by rw [HT.out, if_neg hyx]
              have r2 : cnt x us (j + 1) = cnt x us j + 0 := by rw [HU.out, if_neg hzx]
              have q1 : ∀ W, (Op.equalIn 10000 23 (.agg #[.int .i64 y.1, .int .i64 y.2.1, .int .i64 y.2.2]) (.agg #[.int .i64 x.1, .int .i64 x.2.1, .int .i64 x.2.2])).run Tryd.prog W = .ok false W := fun W => by rw [eqT]; exact congrArg (fun p => Result.ok p W) (decide_eq_false hyx)
              have q2 : ∀ W, (Op.equalIn 10000 23 (.agg #[.int .i64 z.1, .int .i64 z.2.1, .int .i64 z.2.2]) (.agg #[.int .i64 x.1, .int .i64 x.2.1, .int .i64 x.2.2])).run Tryd.prog W = .ok false W := fun W => by rw [eqT]; exact congrArg (fun p => Result.ok p W) (decide_eq_false hzx)
              have R1' := Lib.hid r1
              have R2' := Lib.hid r2
              clear r1 r2 hyx hzx HT HU q0
              go_wp2_with fail
              go_quiet (fail)
              go_wp2_with fail
              go_quiet (fail)
              go_wp2_with fail
              go_roundw
              case rel => exact ⟨j + 1, hjl, by rw [R1'.out]; go_num, by rw [R2'.out]; go_num, by go_num, Lib.hid (CS.step _ _ HD.out ((Kept.refl _ _).drewN _))⟩
              case measure => simp [intOf]; omega
          · have hje : j = len := by omega
            have hca := cnt_all x HP.out (k := j) (by rw [HL.out]; exact hje)
            have hab : ((cnt x ts j : Int) != (cnt x us j : Int)) = false := by rw [hca]; simp
            clear hca hje
            go_wp2_with fail
            go_roundw
            case rel => exact ⟨k + 1, hlt, by go_num, HD⟩
            case measure => simp [intOf]; omega
    · go_wp2_with fail
      refine (CA.out _ (HE.out.kept HC.out.kept)).mono ?_
      rintro e w3 ⟨rfl, k3⟩
      go_wp2_with fail
      go_ret
      exact ⟨rfl, HC.out.kept.trans k3 (fun _ _ g => g)⟩

set_option maxRecDepth 100000 in
set_option maxHeartbeats 1000000 in
theorem sorts_zero (a : Option Addr) (cap : Nat) (w : World) (h : Tris w a 0 cap []) (E : Env w) :
    Calls Tryd.prog 6 #[.slice a 0 cap] w fun e w' => e = .returned (.bool true) ∧ Kept Nil w w' := by
  obtain ⟨g, cap', w1, r1, o1, k1⟩ := own_all w h (by omega)
  have R1 := Lib.hid r1
  have CA : Hid (∀ W : World, Env W → Calls Tryd.prog 11 #[] W fun e w' => e = .returned (.bool true) ∧ Kept Nil W w') := Lib.hid fun W h => awake_any W h
  have HE := Lib.hid E
  have SC : Hid (Calls Tryd.prog 18 #[.slice (some ⟨g, 0, none⟩) 0 cap'] w1 (SortEnd [] w1)) := Lib.hid (sort_any o1 (by simp))
  have K1 := Lib.hid k1
  clear r1 E k1 h o1
  go_enter Tryd.func6, Tryd.ntmps6
  go_wp2_with (at_builtin; refine wpList_append_run rfl (.tmp 13) (.tmp 14) 40 rfl _ _ rfl rfl R1.out ?_)
  refine SC.out.mono ?_
  rintro e w2 ⟨g2, cap2, us, rfl, _, _, _, k2⟩
  have K2 := Lib.hid (K1.out.trans k2 (fun _ _ g => g))
  clear k2
  show _
  go_wp2_with fail
  go_loopw [25] (fun i W => i = .int .i64 0 ∧ W = w2) (fun _ _ => 0)
  case atStart => exact ⟨rfl, rfl⟩
  case round =>
    obtain ⟨rfl, rfl⟩ := hrel
    go_wp2_with fail
    refine (CA.out _ (HE.out.kept K2.out)).mono ?_
    rintro e w3 ⟨rfl, k3⟩
    go_wp2_with fail
    go_ret
    exact ⟨rfl, K2.out.trans k3 (fun _ _ g => g)⟩

set_option maxRecDepth 100000 in
theorem sorts_big (a : Option Addr) (len cap : Nat) (w : World) (hm : len ≤ maxLen) (hl : 60 < len) (E : Env w) :
    Calls Tryd.prog 6 #[.slice a len cap] w fun e w' => e = .returned (.bool true) ∧ Kept Nil w w' := by
  unfold maxLen at hm
  have CA : Hid (∀ W : World, Env W → Calls Tryd.prog 11 #[] W fun e w' => e = .returned (.bool true) ∧ Kept Nil W w') := Lib.hid fun W h => awake_any W h
  have HE := Lib.hid E
  clear E
  go_enter Tryd.func6, Tryd.ntmps6
  go_wp2_with fail
  refine (CA.out _ HE.out).mono ?_
  rintro e w1 ⟨rfl, k1⟩
  go_wp2_with fail
  go_ret
  exact ⟨rfl, k1⟩

theorem lawSorts_any {a : Option Addr} {len cap : Nat} {ts : List T3} (w : World) (h : Tris w a len cap ts) (E : Env w) :
    Calls Tryd.prog 6 #[.slice a len cap] w fun e w' => e = .returned (.bool true) ∧ Kept Nil w w' := by
  by_cases hl : 60 < len
  · exact sorts_big a len cap w h.2.1 hl E
  · have h' := h
    obtain ⟨hlen, _, h0⟩ := h
    rcases h0 with ⟨rfl, rfl, rfl⟩ | ⟨rfl, x, rfl⟩ | ⟨b, off, rfl, ht⟩
    · obtain rfl := List.length_eq_zero_iff.1 hlen
      exact sorts_zero none 0 w h' E
    · obtain rfl := List.length_eq_zero_iff.1 hlen
      exact sorts_zero _ cap w h' E
    · exact sorts_some b off len cap ts w h' ht (by omega) E
end Go.Proofs.YtdkjjkplmlmbeaaDoor
