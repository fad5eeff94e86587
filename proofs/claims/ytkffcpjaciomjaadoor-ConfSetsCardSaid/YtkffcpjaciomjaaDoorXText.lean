/- What a call needs of Go's own library in memory; AppendInt, Itoa, Atoi, Cut; isId, parseId; Text. -/
import Derived.Test.YtkffcpjaciomjaaDoorXApp
import Derived.ShapedOpen
import Derived.ChangeAgain
import Derived.Laws.Concat
namespace Go.Proofs.YtkffcpjaciomjaaDoor
open Go.RowKit Go.Shelf Go.Sort
set_option maxRecDepth 100000

theorem var_kept {w w' : World} {n : String} {cs : Array Value} (h : w.var? Tryd.prog n = some cs) (k : Kept Nil w w') : w'.var? Tryd.prog n = some cs := by
  unfold World.var? at h ⊢
  cases hg : Tryd.prog.globalNamed n with
  | none => rw [hg] at h; cases h
  | some g =>
    rw [hg] at h
    simp only [Option.bind_some] at h ⊢
    have hl : g < w.heap.size := by
      rcases Nat.lt_or_ge g w.heap.size with h' | h'
      · exact h'
      · rw [Array.getElem?_eq_none h'] at h; cases h
    rw [k.block g hl id]
    exact h
/-- Go's own table of powers of ten lies in memory. -/
def TabW (w : World) : Prop := Lib.TabIs Tryd.prog w "internal/strconv.uint64pow10" .u64 Lib.pow10Tab
theorem TabW.kept {w w' : World} (h : TabW w) (k : Kept Nil w w') : TabW w' := var_kept h k
structure Env (w : World) : Prop where
  shaped : w.ShapedOpen Tryd.prog
  tab : TabW w
  errSyntax : ∃ tp p, w.var? Tryd.prog "strconv.ErrSyntax" = some #[.iface tp p]
  errRange : ∃ tp p, w.var? Tryd.prog "strconv.ErrRange" = some #[.iface tp p]
theorem Env.kept {w w' : World} (h : Env w) (k : Kept Nil w w') : Env w' := by
  obtain ⟨a, b, ⟨tp, p, c⟩, tq, q, d⟩ := h
  exact ⟨a.keptBut (may := fun _ => False) (k.toBelow.frame _) (fun _ h => h.elim), b.kept k, ⟨tp, p, var_kept c k⟩, tq, q, var_kept d k⟩
theorem Kept.grow {w : World} (os : Array Obj) : Kept Nil w (Sort.grow w os) :=
  ⟨rfl, rfl, rfl, by simp [Sort.grow], fun k hk _ => by simp [Sort.grow, Array.getElem?_append, hk]⟩
/-- A numeral. -/
def nstr (n : Int) : ByteArray := ⟨(Lib.itoa n).toArray⟩
theorem itoa9_any (n : Int) (h0 : 1 ≤ n) (h1 : n ≤ 999999999) (w : World) (E : TabW w) :
    Calls Tryd.prog 58 #[.int .i64 n] w fun e w' => e = .returned (.string (nstr n)) ∧ Kept Nil w w' := by
  have h := Any.strconv_Itoa Tryd.laysM171 n (by omega) (by omega) w E
  change Calls Tryd.prog 58 _ _ _ at h
  exact h.mono fun _ _ ⟨he, k, os, hw⟩ => ⟨he, by rw [hw]; exact ((Kept.refl Nil w).drewN k).trans (Kept.grow os) (fun _ _ g => g)⟩
/-- Atoi's pair: the number, whatever the error. -/
def AtoiEnd (s : ByteArray) (w : World) (e : Ending) (w' : World) : Prop := ∃ v, e = .returned (.tuple #[.int .i64 (fld s.data.toList), v]) ∧ Kept Nil w w'
theorem atoi_any (s : ByteArray) (hs : s.size ≤ 100000) (w : World) (E : Env w) :
    Calls Tryd.prog 57 #[.string s] w (AtoiEnd s w) := by
  obtain ⟨_, _, ⟨tp, p, c⟩, tq, q, d⟩ := E
  cases h : Lib.atoiAll s.data.toList
  · have hc := Any.strconv_Atoi_ok Tryd.laysC172 s (by omega) _ h w
    change Calls Tryd.prog 57 _ _ _ at hc
    refine hc.mono fun e w' ⟨he, hw⟩ => ⟨.nilIface, by rw [he]; unfold fld; rw [h], ?_⟩
    rcases hw with rfl | ⟨t, rfl⟩
    · exact Kept.refl _ _
    · exact Kept.ofBelow (Lib.bytesWorld_below _ _ _)
  · have hc := Any.strconv_Atoi_syntax_var Tryd.laysC172 s (by omega) h tp p w c
    change Calls Tryd.prog 57 _ _ _ at hc
    refine hc.mono ?_
    rintro e w' ⟨N, rfl, _, _, hb⟩
    have hf : fld s.data.toList = 0 := by unfold fld; rw [h]
    unfold AtoiEnd
    rw [hf]
    exact ⟨_, rfl, Kept.ofBelow hb⟩
  · have hc := Any.strconv_Atoi_range_var Tryd.laysC172 s (by omega) h tq q w d
    change Calls Tryd.prog 57 _ _ _ at hc
    refine hc.mono ?_
    rintro e w' ⟨N, rfl, _, _, hb⟩
    have hf : fld s.data.toList = Lib.atoiSat s.data.toList := by unfold fld; rw [h]
    unfold AtoiEnd
    rw [hf]
    exact ⟨_, rfl, Kept.ofBelow hb⟩
/-- A blank. -/
def sp : ByteArray := ⟨#[32]⟩
theorem cut_any (s : ByteArray) (hs : s.size ≤ 100000) (w : World) (E : Env w) :
    Calls Tryd.prog 40 #[.string s, .string sp] w fun e w' => e = .returned (.tuple #[.string ⟨(Lib.cut s.data.toList [32]).1.toArray⟩, .string ⟨(Lib.cut s.data.toList [32]).2.1.toArray⟩, .bool (Lib.cut s.data.toList [32]).2.2]) ∧ Kept Nil w w' := by
  have h := Any.strings_Cut_shaped Tryd.laysM145 s sp w E.shaped (by omega)
  change Calls Tryd.prog 40 #[.string s, .string sp] w _ at h
  refine h.mono ?_
  rintro e w' ⟨rfl, n, rfl⟩
  exact ⟨rfl, (Kept.refl _ _).drewN n⟩

/-! ### AppendInt -/
/-- What comes back of an append: the bytes, and these behind them. -/
def AppEnd (B : Nat) (bs news : List UInt8) (w : World) (e : Ending) (w' : World) : Prop := ∃ v', e = .returned v' ∧ RowB w' B v' (bs ++ news) ∧ Kept (fun k => B ≤ k) w w'
theorem small_any (u : Nat) (h : u < 100) (w : World) : Calls Tryd.prog 78 #[.int .i64 u] w fun e w' => e = .returned (.string ⟨(Lib.decDigits u).toArray⟩) ∧ w' = w := by
  have h := Any.internal_strconv_small (P := Tryd.prog) (ρ := Tryd.laysM176_ren) { Tryd.laysM176 with } u h w
  change Calls Tryd.prog 78 _ _ _ at h
  exact h
theorem numDigits_any (u : Nat) (h1 : 1 ≤ u) (h2 : u < 1000000000000) (w : World) (E : TabW w) : Calls Tryd.prog 79 #[.int .u64 u] w fun e w' => e = .returned (.int .i64 (Lib.nDigits u)) ∧ w' = w := by
  have h := Any.internal_strconv_numDigits (P := Tryd.prog) (ρ := Tryd.laysM176_ren) { Tryd.laysM176 with } u h1 (by omega) w E
  change Calls Tryd.prog 79 _ _ _ at h
  exact h
/-- The digits laid out in a block of 24 zeros. -/
theorem format_any (u : Nat) (h2 : u < 1000000000000) (hnd : Lib.nDigits u ≤ 20) (T : TypeId) (w : World) :
    Calls Tryd.prog 80 #[.slice (some ⟨w.heap.size, 0, none⟩) (Lib.nDigits u) 24, .int .u64 u] (w.alloc (.cells Lib.zeros24 T)) fun e w' => e = .returned (.tuple #[]) ∧ Kept Nil w w' ∧
      ∀ j x, (Lib.byteCells (Lib.decDigits u))[j]? = some x → w'.cell? ((⟨w.heap.size, 0, none⟩ : Addr).add j) = some x := by
  have hH0 := Lib.holds_zero0 w T (Lib.nDigits u) (by omega)
  have h := Any.internal_strconv_formatBase10 (P := Tryd.prog) (ρ := Tryd.laysM176_ren) { Tryd.laysM176 with } w.heap.size 0 24 u (Array.replicate (Lib.nDigits u) 0) (w.alloc (.cells Lib.zeros24 T)) hH0 (by rw [Array.size_replicate]; exact Lib.lt_pow_nDigits u) (by omega) (by rw [Array.size_replicate]; omega)
  rw [Array.size_replicate] at h
  change Calls Tryd.prog 80 _ _ _ at h
  refine h.mono ?_
  rintro e w' ⟨rfl, k, v', dk, rfl, hF⟩
  refine ⟨rfl, ?_, fun j x hj => ?_⟩
  · obtain ⟨os, eo⟩ := Lib.fin_at w (.cells Lib.zeros24 T) dk k 0
    rw [eo]
    exact ((Kept.refl Nil w).drewN k).trans (Kept.grow os) (fun _ _ g => g)
  · have hjl : j < (Lib.decDigits u).length := by
      have h5 := (List.getElem?_eq_some_iff.1 hj).1
      rwa [Lib.byteCells_length] at h5
    have e5 : (Lib.byteCells (Lib.decDigits u))[j]? = some (Value.int .u8 ((Lib.decDigits u)[j].toNat : Int)) := by simp [Lib.byteCells, hjl]
    rw [e5] at hj
    cases hj
    rw [Lib.row_is_numeral hF j hjl, Lib.add_plain, World.cell?_drewN]
    exact cell?_putRow (fun (b : UInt8) => Value.int .u8 (b.toNat : Int)) _ w.heap.size 0 _ dk hH0 (by rw [hF.size, Array.size_replicate]) j (by rw [hF.size]; rw [Lib.decDigits_length] at hjl; exact hjl)
theorem nd_len {u : Nat} (h : u < 1000000000000) : Lib.nDigits u ≤ 20 := by
  rw [← Lib.decDigits_length]
  have := dec_len 11 u (by omega)
  omega
set_option maxHeartbeats 2000000 in
theorem appendUint_any {B : Nat} {v : Value} {bs : List UInt8} (u : Nat) (h1 : 1 ≤ u) (h2 : u ≤ 999999999) (w : World) (E : TabW w) (h : RowB w B v bs) (hB : B ≤ w.heap.size) (hl : bs.length ≤ 50000) :
    Calls Tryd.prog 63 #[v, .int .u64 u, .int .i64 10] w (AppEnd B bs (Lib.decDigits u) w) := by
  have hdl : (Lib.decDigits u).length ≤ 20 := by rw [Lib.decDigits_length]; exact nd_len (by omega)
  by_cases hu : u < 100
  · obtain ⟨v', w', r, hr, k⟩ := appendBs (news := Lib.decDigits u) 59 h hB (by omega)
    have R := Lib.hid r
    have H := Lib.hid (show AppEnd B bs (Lib.decDigits u) w (.returned v') w' from ⟨v', rfl, hr, k⟩)
    have CS := Lib.hid (small_any u hu w)
    have hlt : (u : Int) < 100 := by omega
    have e1 : IntKind.i64.wrap (u : Int) = (u : Int) := IntWalk.i64_in _ (by omega)
    clear r hr k E h
    go_enter Tryd.func63, Tryd.ntmps63
    go_wp2_with fail
    refine CS.out.mono ?_
    rintro e w1 ⟨rfl, rfl⟩
    go_wp2_with (at_builtin; refine wpList_append_run2 rfl (.tmp 13) (.tmp 16) 59 9 rfl _ _ rfl rfl R.out ?_)
    go_ret
    exact H.out
  · have hnd := nd_len (u := u) (by omega)
    have CN := Lib.hid (numDigits_any u h1 (by omega) (w.alloc (.cells Lib.zeros24 98)) (E.kept ((Kept.refl Nil w).alloc _)))
    have CF := Lib.hid (format_any u (by omega) hnd 98 w)
    have HR := Lib.hid h
    have hge : ¬ (u : Int) < 100 := by omega
    have hal : Tryd.prog.arrayLen 98 = 24 := by kernel_rfl
    have hsl : ∀ W, (Instr.sliceAt 98 (.pointer (some ⟨w.heap.size, 0, none⟩)) none (some (.int .i64 (Lib.nDigits u : Int))) none).run Tryd.prog W = .ok (.slice (some ⟨w.heap.size, 0, none⟩) (Lib.nDigits u) 24) W := fun W => by
      rw [run_sliceAt_array_h W 98 ⟨w.heap.size, 0, none⟩ (by kernel_rfl) .i64 (Lib.nDigits u : Int) (by omega) (by rw [hal]; omega)]
      go_simp
    have hdc : (Lib.decDigits u).length = Lib.nDigits u := Lib.decDigits_length u
    clear E h
    go_enter Tryd.func63, Tryd.ntmps63
    go_wp2_with fail
    refine CN.out.mono ?_
    rintro e w1 ⟨rfl, rfl⟩
    go_wp2_with fail
    refine CF.out.mono ?_
    rintro e w2 ⟨rfl, k2, hc⟩
    obtain ⟨v', w', r, hr, k⟩ := appendB (news := Lib.decDigits u) (a := ⟨w.heap.size, 0, none⟩) (c := 24) 59 (HR.out.keptN k2) (Nat.le_trans hB k2.size) hdc hc (by omega)
    have R := Lib.hid r
    have H := Lib.hid (show AppEnd B bs (Lib.decDigits u) w (.returned v') w' from ⟨v', rfl, hr, (k2.mono (fun _ _ e => e.elim)).trans k (fun _ _ e => e)⟩)
    clear r hr k hc k2
    go_wp2_with (at_builtin; refine wpList_append_run rfl (.tmp 24) (.tmp 26) 59 rfl _ _ rfl rfl R.out ?_)
    go_ret
    exact H.out
theorem appendInt_any {B : Nat} {v : Value} {bs : List UInt8} (n : Int) (h1 : 1 ≤ n) (h2 : n ≤ 999999999) (w : World) (E : TabW w) (h : RowB w B v bs) (hB : B ≤ w.heap.size) (hl : bs.length ≤ 50000) :
    Calls Tryd.prog 37 #[v, .int .i64 n, .int .i64 10] w (AppEnd B bs (Lib.itoa n) w) := by
  obtain ⟨u, rfl⟩ : ∃ u : Nat, n = u := ⟨n.toNat, by omega⟩
  have CU := Lib.hid (appendUint_any u (by omega) (by omega) w E h hB hl)
  have e0 : Lib.itoa (u : Int) = Lib.decDigits u := by rw [itoa_dec (by omega)]; simp
  rw [e0]
  have hnn : ¬ (u : Int) < 0 := by omega
  have e1 : IntKind.u64.wrap (u : Int) = (u : Int) := by simp [IntKind.wrap, IntKind.bits, IntKind.signed]; omega
  have CI : Hid (Calls Tryd.prog 54 #[v, .int .i64 u, .int .i64 10] w (AppEnd B bs (Lib.decDigits u) w)) := Lib.hid (by
    clear E h
    go_enter Tryd.func54, Tryd.ntmps54
    go_wp2_with fail
    refine CU.out.mono ?_
    rintro e w1 ⟨v', rfl, hr, k⟩
    go_wp2_with fail
    go_ret
    exact ⟨v', rfl, hr, k⟩)
  clear E h CU
  go_enter Tryd.func37, Tryd.ntmps37
  go_wp2_with fail
  refine CI.out.mono ?_
  rintro e w1 ⟨v', rfl, hr, k⟩
  go_wp2_with fail
  go_ret
  exact ⟨v', rfl, hr, k⟩

/-! ### isId, parseId -/
theorem isId_any (n : Int) (w : World) : Calls Tryd.prog 36 #[.int .i64 n] w fun e w' => e = .returned (.bool (okId n)) ∧ w' = w := by
  by_cases h1 : 1 ≤ n
  · by_cases h2 : n ≤ 999999999
    · have H := Lib.hid (show okId n = true from okId_iff.2 ⟨h1, h2⟩)
      go_enter Tryd.func36, Tryd.ntmps36
      go_wp2_with fail
      go_ret
      exact ⟨ret_bool H.out.symm, rfl⟩
    · have H := Lib.hid (show okId n = false by unfold okId; exact decide_eq_false (fun h => h2 h.2))
      go_enter Tryd.func36, Tryd.ntmps36
      go_wp2_with fail
      go_ret
      exact ⟨ret_bool H.out.symm, rfl⟩
  · have H := Lib.hid (show okId n = false by unfold okId; exact decide_eq_false (fun h => h1 h.1))
    go_enter Tryd.func36, Tryd.ntmps36
    go_wp2_with fail
    go_ret
    exact ⟨ret_bool H.out.symm, rfl⟩
theorem nstr_toList (n : Int) : (nstr n).toList = Lib.itoa n := by rw [ByteArray.toList_eq]; unfold nstr; simp
theorem parseId_any (s : ByteArray) (hs : s.size ≤ 100000) (w : World) (E : Env w) :
    Calls Tryd.prog 42 #[.string s] w fun e w' => e = .returned (.tuple #[.int .i64 (if pidL s.data.toList then fld s.data.toList else 0), .bool (pidL s.data.toList)]) ∧ Kept Nil w w' := by
  have CA : Hid (Calls Tryd.prog 57 #[.string s] w fun e w' => ∃ v, e = .returned (.tuple #[.int .i64 (fld s.data.toList), v]) ∧ Kept Nil w w') := Lib.hid (atoi_any s hs w E)
  have CS := Lib.hid (fun W => isId_any (fld s.data.toList) W)
  cases h1 : okId (fld s.data.toList) with
  | false =>
    have hp : pidL s.data.toList = false := by unfold pidL; rw [h1]; rfl
    rw [hp, if_neg (by simp)]
    rw [h1] at CS
    clear hp h1 E
    generalize fld s.data.toList = id at CS CA
    go_enter Tryd.func42, Tryd.ntmps42
    go_wp2_with fail
    refine CA.out.mono ?_
    rintro e w1 ⟨v, rfl, k1⟩
    go_wp2_with fail
    refine (CS.out _).mono ?_
    rintro e w2 ⟨rfl, rfl⟩
    go_wp2_with fail
    go_ret2
    exact ⟨rfl, k1⟩
  | true =>
    have hr := okId_iff.1 h1
    have CI : Hid (∀ W, Kept Nil w W → Calls Tryd.prog 58 #[.int .i64 (fld s.data.toList)] W fun e w' => e = .returned (.string (nstr (fld s.data.toList))) ∧ Kept Nil W w') := Lib.hid fun W k => itoa9_any _ hr.1 hr.2 W (E.tab.kept k)
    have hp : pidL s.data.toList = ((nstr (fld s.data.toList)).toList == s.toList) := by unfold pidL; rw [h1, nstr_toList, ByteArray.toList_eq]; rfl
    have HP := Lib.hid hp
    rw [h1] at CS
    clear h1 hr E hp
    generalize nstr (fld s.data.toList) = ns at CI HP
    generalize pidL s.data.toList = pb at HP ⊢
    generalize fld s.data.toList = id at CS CA CI ⊢
    cases hq : (ns.toList == s.toList) with
    | false =>
      rw [hq] at HP
      obtain rfl : pb = false := HP.out
      rw [if_neg (by simp)]
      go_enter Tryd.func42, Tryd.ntmps42
      go_wp2_with fail
      refine CA.out.mono ?_
      rintro e w1 ⟨v, rfl, k1⟩
      go_wp2_with fail
      refine (CS.out _).mono ?_
      rintro e w2 ⟨rfl, rfl⟩
      go_wp2_with fail
      refine (CI.out _ k1).mono ?_
      rintro e w2 ⟨rfl, k2⟩
      go_wp2_with fail
      go_ret2
      exact ⟨rfl, k1.trans k2 (fun _ _ e => e)⟩
    | true =>
      rw [hq] at HP
      obtain rfl : pb = true := HP.out
      rw [if_pos rfl]
      go_enter Tryd.func42, Tryd.ntmps42
      go_wp2_with fail
      refine CA.out.mono ?_
      rintro e w1 ⟨v, rfl, k1⟩
      go_wp2_with fail
      refine (CS.out _).mono ?_
      rintro e w2 ⟨rfl, rfl⟩
      go_wp2_with fail
      refine (CI.out _ k1).mono ?_
      rintro e w2 ⟨rfl, k2⟩
      go_wp2_with fail
      go_ret2
      exact ⟨rfl, k1.trans k2 (fun _ _ e => e)⟩

/-! ### Text -/
def mtxt (m : M) : ByteArray := ⟨(mtxtL m.1.data.toList m.2).toArray⟩
/-- The text, and the error's number. -/
def textE (m : M) : ByteArray × Int := if okName m.1 then (if okIds m.2 then (mtxt m, 0) else (⟨#[]⟩, 13)) else (⟨#[]⟩, 1)
theorem name_size {s : ByteArray} (h : okName s = true) : 1 ≤ s.size ∧ s.size ≤ 32 ∧ okBytes s.data.toList = true := by
  unfold okName at h
  rw [Bool.and_eq_true, decide_eq_true_eq] at h
  exact ⟨h.1.1, h.1.2, h.2⟩
theorem bytes_row (w : World) (s : ByteArray) (hs : s.size ≤ 1000) : ∃ v w', (convert 9 59 (.string s)).run Tryd.prog w = .ok v w' ∧ RowB w' w.heap.size v s.data.toList ∧ Kept Nil w w' := by
  have hle : grownCap w s.size 0 5 ≤ maxLen := grownCap_le_maxLen w s.size 0 5 (by unfold maxLen; omega)
  have hge := grownCap_ge w s.size 0 5
  have r := run_bytes_of_string (P := Tryd.prog) w 9 59 5 s Tryd.underlying9 Tryd.underlying59 Tryd.underlying5
  have hl : s.data.toList.length = s.size := by simp
  have hbs : (bytesRow s (grownCap w s.size 0 5)).size = grownCap w s.size 0 5 := by
    unfold bytesRow
    rw [Array.size_append, Array.size_map, Array.size_replicate]
    show s.size + _ = _
    omega
  refine ⟨_, _, r, ⟨w.heap.size, _, _, _, by rw [hl], Nat.le_refl _, heap_alloc_new w.drew _, .inr (Nat.le_refl _), by rw [hl]; exact hge, hle, hbs, ?_⟩, ((Kept.refl Nil w).drew).alloc _⟩
  unfold bytesRow Lib.byteCells
  rw [Array.toList_append, Array.toList_map]
  exact List.take_left' (by simp)
theorem ownB {B : Nat} {w w' : World} (h : Kept (fun k => B ≤ k) w w') {w0 : World} (k : Kept Nil w0 w) (hB : w0.heap.size ≤ B) : Kept Nil w0 w' := k.trans h (fun _ hi e => absurd (Nat.le_trans hB e) (Nat.not_le.2 hi))
theorem bytesStr {w : World} {B : Nat} {v : Value} {bs : List UInt8} (h : RowB w B v bs) : (convert 59 9 v).run Tryd.prog w = .ok (.string ⟨bs.toArray⟩) w := by
  obtain ⟨g, cap, rfl, _, hc⟩ := h.cells
  exact run_convert_bytes_back w 59 9 5 ⟨g, 0, none⟩ cap bs Tryd.underlying59 Tryd.underlying5 Tryd.underlying9 hc
theorem idsL_next {ids : List Int} {j : Nat} {i : Int} (h : ids[j]? = some i) : idsL (ids.take (j + 1)) = idsL (ids.take j) ++ 32 :: Lib.itoa i := by
  rw [List.take_add_one, h]
  exact idsL_snoc _ _
set_option maxHeartbeats 4000000 in
theorem text_any {w : World} {m : MC} (hm : Mok w m) (E : TabW w) :
    Calls Tryd.prog 21 #[vM m] w fun e w' => e = .returned (.tuple #[.string (textE m.val).1, .int .i64 (textE m.val).2]) ∧ Kept Nil w w' := by
  obtain ⟨r, ids, n, a, c⟩ := m
  have HH := Lib.hid hm.ids
  have HL := Lib.hid hm.ids.1
  have hn := hm.few
  have hr := hm.small
  simp only at hn hr
  have HE := Lib.hid E
  have CR := Lib.hid (fun W => right_any r W (by unfold maxLen; omega))
  have GA := Lib.hid ((Kept.refl Nil w).alloc (.cells #[.string r, .slice a n c] 37))
  have HB : Hid (∀ W, Kept Nil (w.alloc (.cells #[.string r, .slice a n c] 37)) W → W.cell? ⟨w.heap.size, 0, none⟩ = some (.string r) ∧ W.cell? ⟨w.heap.size, 1, none⟩ = some (.slice a n c)) := Lib.hid fun W k => ⟨((Blk.new w 37 #[.string r, .slice a n c]).kept k (fun e => e)).cell 0, ((Blk.new w 37 #[.string r, .slice a n c]).kept k (fun e => e)).cell 1⟩
  clear hm E
  show Calls Tryd.prog 21 #[.agg #[.string r, .slice a n c]] w fun e w' => e = .returned (.tuple #[.string (textE (r, ids)).1, .int .i64 (textE (r, ids)).2]) ∧ Kept Nil w w'
  cases hok : okName r with
  | false =>
    have e1 : textE (r, ids) = (⟨#[]⟩, 1) := by unfold textE; rw [hok]; rfl
    rw [e1]
    rw [hok] at CR
    clear e1 hok
    go_enter Tryd.func21, Tryd.ntmps21
    go_wp2_with fail
    refine (CR.out _).mono ?_
    rintro e w1 ⟨rfl, k1⟩
    go_wp2_with fail
    go_ret2
    exact ⟨rfl, GA.out.trans k1 (fun _ _ e => e)⟩
  | true =>
    have hT : Hid (textE (r, ids) = if okIds ids then (mtxt (r, ids), 0) else (⟨#[]⟩, 13)) := Lib.hid (by unfold textE; rw [hok]; rfl)
    rw [hok] at CR
    have hrs := (name_size hok).2.1
    clear hok
    go_enter Tryd.func21, Tryd.ntmps21
    go_wp2_with fail
    refine (CR.out _).mono ?_
    rintro e w1 ⟨rfl, k1⟩
    obtain ⟨x0, x1⟩ := HB.out _ k1
    obtain ⟨v0, w2, hcv, hrow, k2⟩ := bytes_row w1 r (by omega)
    obtain ⟨y0, y1⟩ := HB.out _ (k1.trans k2 (fun _ _ e => e))
    have K2 := Lib.hid ((GA.out.trans k1 (fun _ _ e => e)).trans k2 (fun _ _ e => e))
    have HROW : Hid (RowB w2 w.heap.size v0 r.data.toList) := Lib.hid (by
      obtain ⟨g, cap, cur, fz, e, hB, rest⟩ := hrow
      exact ⟨g, cap, cur, fz, e, Nat.le_trans (GA.out.trans k1 (fun _ _ e => e)).size hB, rest⟩)
    clear hrow k1 k2
    go_wp2_with fail
    go_loopw [4, 6, 17] (fun tx _ i wr => ∃ j : Nat, j ≤ n ∧ i = .int .i64 j ∧ Hid (RowB wr w.heap.size tx (r.data.toList ++ idsL (ids.take j))) ∧ Hid (okIds (ids.take j) = true) ∧ Hid (Kept Nil w wr)) (fun _ _ i _ => n - (intOf i).toNat)
    case atStart => exact ⟨0, Nat.zero_le _, rfl, by show RowB _ _ _ (_ ++ []); rw [List.append_nil]; exact HROW.out, rfl, K2.out⟩
    case round =>
      obtain ⟨j, hj, rfl, HR, HO, HK⟩ := hrel
      have hlen : (r.data.toList ++ idsL (ids.take j)).length ≤ 20000 := by
        rw [List.length_append]
        have h1 := idsL_len _ HO.out
        have h2 : (ids.take j).length ≤ j := by rw [List.length_take]; omega
        have h3 : r.data.toList.length = r.size := by simp
        omega
      by_cases hlt : j < n
      · obtain ⟨id, hid⟩ : ∃ id, ids[j]? = some id := ⟨_, List.getElem?_eq_getElem (by have := HL.out; omega)⟩
        obtain ⟨g1, o1, rfl, _, hc1⟩ := (HH.out.kept HK.out).at_ hid
        have q0 := hc1 0 _ rfl
        rw [Nat.mul_one, Nat.add_zero] at q0
        have CI := Lib.hid (fun W => isId_any id W)
        have HID := Lib.hid hid
        clear hc1 hid
        cases hk : okId id with
        | false =>
          have e1 : Hid (textE (r, ids) = (⟨#[]⟩, 13)) := Lib.hid (by rw [hT.out, okIds_bad HID.out hk]; rfl)
          rw [hk] at CI
          clear hk
          go_wp2_with fail
          refine (CI.out _).mono ?_
          rintro e w3 ⟨rfl, rfl⟩
          go_wp2_with fail
          go_ret2
          exact ⟨by rw [e1.out]; rfl, HK.out⟩
        | true =>
          have hb := okId_iff.1 hk
          have HO2 : Hid (okIds (ids.take (j + 1)) = true) := Lib.hid (by rw [List.take_add_one, HID.out]; show okIds (_ ++ [id]) = true; rw [okIds_snoc, HO.out, hk]; rfl)
          rw [hk] at CI
          have hsp := (Blk.new wr 5 #[.int .u8 32])
          obtain ⟨v3, w3, r3, hr3, k3⟩ := appendB (w := wr.alloc (.cells #[.int .u8 32] 5)) (news := [32]) (a := ⟨wr.heap.size, 0, none⟩) (c := 1) 59 (HR.out.keptN ((Kept.refl Nil wr).alloc _)) (by simp; have := HK.out.size; omega) (m := 1) rfl (fun q u hq => by
            match q, hq with
            | 0, hq =>
              simp [Lib.byteCells] at hq
              rw [Addr.add_mid, hsp.cell, ← hq]; rfl) (by omega)
          have K3 := Lib.hid (ownB k3 (HK.out.alloc _) (Nat.le_refl _))
          have CAI := Lib.hid (appendInt_any (B := w.heap.size) id hb.1 hb.2 w3 (HE.out.kept K3.out) hr3 K3.out.size (by rw [List.length_append]; simp only [List.length_singleton]; omega))
          have R3 := Lib.hid r3
          clear hk hb r3 hr3 k3 hsp
          go_wp2_with fail
          refine (CI.out _).mono ?_
          rintro e w4 ⟨rfl, rfl⟩
          go_wp2_with (at_builtin; refine wpList_append_run rfl (.tmp 24) (.tmp 25) 59 rfl _ _ rfl rfl R3.out ?_)
          refine CAI.out.mono ?_
          rintro e w5 ⟨v5, rfl, hr5, k5⟩
          have HR5 : Hid (RowB w5 w.heap.size v5 (r.data.toList ++ idsL (ids.take (j + 1)))) := Lib.hid (by
            rw [idsL_next HID.out]
            have : r.data.toList ++ (idsL (ids.take j) ++ 32 :: Lib.itoa id) = r.data.toList ++ idsL (ids.take j) ++ [32] ++ Lib.itoa id := by simp
            rw [this]; exact hr5)
          have K5 := Lib.hid (ownB k5 K3.out (Nat.le_refl _))
          clear hr5 k5
          go_wp2_with fail
          go_roundw
          case rel => exact ⟨j + 1, hlt, by go_num, HR5, HO2, K5⟩
          case measure => simp [intOf]; omega
      · have e : j = n := by omega
        subst e
        have htk : ids.take j = ids := List.take_of_length_le (by have := HL.out; omega)
        have hR := HR.out
        have hO := HO.out
        rw [htk] at hR hO
        have e1 : Hid (textE (r, ids) = (mtxt (r, ids), 0)) := Lib.hid (by rw [hT.out, hO]; rfl)
        have hcs := bytesStr hR
        clear htk hR hO
        go_wp2_with fail
        go_ret2
        exact ⟨by rw [e1.out]; rfl, HK.out⟩
end Go.Proofs.YtkffcpjaciomjaaDoor
