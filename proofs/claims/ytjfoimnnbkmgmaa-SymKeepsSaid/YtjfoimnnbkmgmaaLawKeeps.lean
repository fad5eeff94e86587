/- Whatever the names, SymKeeps returns true, and writes nothing that was there. No condition. -/
import Derived.Test.YtjfoimnnbkmgmaaLawOrder
import Derived.Test.YtjfoimnnbkmgmaaRef
import Derived.Maps.StringElems
import Derived.Maps.RangeWalk
namespace Go.Proofs.Ytjfoimnnbkmgmaa
open Go.RowKit Go.ChangeShapes Go.WideShapes Go.ChangeAt Go.Maps

theorem lawI : Keyed Try.prog 3 := int_keyed Try.underlying3
theorem zeroS (w : World) : (zeroValue 9).run Try.prog w = .ok (.string .empty) w := by kernel_rfl

/-- The datum of the law's map: each symbol's name. -/
def Had (D : DataW Unit) (l : List ByteArray) : Prop :=
  Tidy D ∧ Maps.size D = l.length ∧ (∀ x : Int, Maps.has D (.int .i64 x) = decide (1 ≤ x ∧ x ≤ l.length)) ∧ ∀ (i : Nat) (s : ByteArray), l[i]? = some s → ∀ zd, D.atKey (.int .i64 ((i : Int) + 1)) zd = .lit (.string s.data.toList)
theorem had_nil : Had (.map []) [] := ⟨tidy_empty, rfl, fun x => by simp [Maps.has]; omega, fun i s h => by simp at h⟩
theorem had_same {D : DataW Unit} {l : List ByteArray} (h : Had D l) {i : Nat} {s : ByteArray} (hi : l[i]? = some s) : Had (D.put (.int .i64 ((i : Int) + 1)) (.lit (.string s.data.toList))) l := by
  obtain ⟨h1, h2, h3, h4⟩ := h
  have hlt := (List.getElem?_eq_some_iff.1 hi).1
  have hh : Maps.has D (.int .i64 ((i : Int) + 1)) = true := by rw [h3]; exact decide_eq_true (by omega)
  refine ⟨h1.put (by trivial) _, by rw [size_put h1, hh, if_pos rfl, h2], fun x => ?_, fun j t hj zd => ?_⟩
  · by_cases e : x = (i : Int) + 1
    · subst e; rw [has_put_same h1.isMap (by trivial), ← hh, h3]
    · rw [has_put_other (by simpa using e), h3]
  · by_cases e : j = i
    · subst e; rw [hi] at hj; cases hj; rw [atKey_put_same h1.isMap (by trivial)]
    · rw [atKey_put_other (by simp; omega), h4 j t hj]
theorem had_new {D : DataW Unit} {l : List ByteArray} (h : Had D l) (s : ByteArray) : Had (D.put (.int .i64 ((l.length : Int) + 1)) (.lit (.string s.data.toList))) (l ++ [s]) := by
  obtain ⟨h1, h2, h3, h4⟩ := h
  have hh : Maps.has D (.int .i64 ((l.length : Int) + 1)) = false := by rw [h3]; exact decide_eq_false (by omega)
  refine ⟨h1.put (by trivial) _, by rw [size_put h1, hh]; simp [h2], fun x => ?_, fun j t hj zd => ?_⟩
  · by_cases e : x = (l.length : Int) + 1
    · subst e; rw [has_put_same h1.isMap (by trivial)]; exact (decide_eq_true (by simp; omega)).symm
    · rw [has_put_other (by simpa using e), h3, List.length_append, List.length_singleton]; exact decide_eq_decide.2 (by omega)
  · by_cases e : j = l.length
    · subst e; simp at hj; subst hj; rw [atKey_put_same h1.isMap (by trivial)]
    · have hlt := (List.getElem?_eq_some_iff.1 hj).1
      have hj' : l[j]? = some t := by
        rw [List.getElem?_append_left (by simp at hlt; omega)] at hj; exact hj
      rw [atKey_put_other (by simp; omega), h4 j t hj']
theorem bytes_inj' {c s : ByteArray} (h : c.data.toList = s.data.toList) : c = s := ByteArray.ext (Array.toList_inj.1 h)

/-- The look-up of a symbol that is there. -/
theorem look_had {w : World} {bh n : Nat} {D : DataW Unit} {l : List ByteArray} (ho : w.ownsMap (H := Unit) Try.prog 3 (plainElem Try.prog 9) bh n D) (h : Had D l) {i : Nat} {s : ByteArray} (hi : l[i]? = some s) (hl : l.length ≤ 5000) :
    (Instr.lookup 39 (.map (some bh)) (.int .i64 ((i : Int) + 1)) true).run Try.prog w = .ok (.tuple #[.string s, .bool true]) w := by
  have hlt := (List.getElem?_eq_some_iff.1 hi).1
  obtain ⟨v, ps, hrun, hv⟩ := ho.look_ok lawI Try.underlying39 (zeroS w) (plainElem_string Try.underlying9 (by decide)) (keyOf_int_mk Try.underlying3 (a := (i : Int) + 1) (WalkArith.wf_i64 (by omega)))
  obtain ⟨c, rfl, hc, _⟩ := plainElem_string_inv Try.underlying9 hv
  rw [h.2.2.2 i s hi] at hc
  have e := bytes_inj' (Lit.string.inj (DataW.lit.inj (congrArg Prod.fst hc)))
  rw [hrun, ← e, h.2.2.1, decide_eq_true (by omega)]
/-- The look-up of one that is not. -/
theorem look_hadn {w : World} {bh n : Nat} {D : DataW Unit} {l : List ByteArray} (ho : w.ownsMap (H := Unit) Try.prog 3 (plainElem Try.prog 9) bh n D) (h : Had D l) (hl : l.length ≤ 5000) :
    ∃ c, (Instr.lookup 39 (.map (some bh)) (.int .i64 ((l.length : Int) + 1)) true).run Try.prog w = .ok (.tuple #[.string c, .bool false]) w := by
  obtain ⟨v, ps, hrun, hv⟩ := ho.look_ok lawI Try.underlying39 (zeroS w) (plainElem_string Try.underlying9 (by decide)) (keyOf_int_mk Try.underlying3 (a := (l.length : Int) + 1) (WalkArith.wf_i64 (by omega)))
  obtain ⟨c, rfl, hc, _⟩ := plainElem_string_inv Try.underlying9 hv
  exact ⟨c, by rw [hrun, h.2.2.1, decide_eq_false (by omega)]⟩

theorem Kept.map {F : Nat → Prop} {w w' : World} (h : Kept F w w') {P : Program} {k : TypeId} {R : Value → Option (DataW Unit × List MemPlace)} {b n : Nat} {D : DataW Unit} (ho : w.ownsMap P k R b n D) (hb : ¬ F b) : w'.ownsMap P k R b n D := by
  obtain ⟨es, clock, hbb, r⟩ := ho
  exact ⟨es, clock, by rw [h.block b (Array.getElem?_eq_some_iff.1 hbb).1 hb]; exact hbb, r⟩

/-- A table of l and the law's map of l, both made since, apart from each other. -/
structure Maps2 (w wr : World) (bh n : Nat) (l : List ByteArray) : Prop where
  tab : ∃ m sv, Tab wr w.heap.size w.heap.size m sv l ∧ ¬ Foot w.heap.size m sv bh
  own : ∃ D, wr.ownsMap (H := Unit) Try.prog 3 (plainElem Try.prog 9) bh n D ∧ Had D l
  kept : Kept Nil w wr
  base : w.heap.size ≤ bh
theorem Maps2.step {w wr w' : World} {bh n : Nat} {l : List ByteArray} (h : Maps2 w wr bh n l) (k : Kept Nil wr w') : Maps2 w w' bh n l := by
  obtain ⟨m, sv, t, ha⟩ := h.tab
  obtain ⟨D, o, d⟩ := h.own
  exact ⟨⟨m, sv, t.kept k (fun _ _ g => g), ha⟩, ⟨D, k.map o (fun g => g), d⟩, h.kept.trans k (fun _ _ g => g), h.base⟩
/-- Behind a store into the law's map. -/
theorem Maps2.put {w w' w'' : World} {bh n' : Nat} {l' : List ByteArray} {m sv : Value} {D : DataW Unit} (hb : w.heap.size ≤ bh) (ht : Tab w' w.heap.size w.heap.size m sv l') (ha : ¬ Foot w.heap.size m sv bh)
    (hk' : Kept Nil w w') (hg : w'.grownBy w'' (some bh)) (ho : w''.ownsMap (H := Unit) Try.prog 3 (plainElem Try.prog 9) bh n' D) (hd : Had D l') : Maps2 w w'' bh n' l' := by
  have k2 : Kept (fun i => i = bh) w' w'' := (Kept.refl _ _).grown hg (fun k e => .inl (by cases e; rfl))
  exact ⟨⟨m, sv, ht.kept k2 (fun i hi e => ha (e ▸ hi)), ha⟩, ⟨D, ho, hd⟩, hk'.trans k2 (fun i hi e => by subst e; omega), hb⟩

set_option maxRecDepth 100000 in
set_option maxHeartbeats 8000000 in
theorem symKeeps_any (a : Option Addr) (len cap : Nat) (ss : List ByteArray) (w : World) (h : Strs w a len ss) :
    Calls Try.prog 5 #[.slice a len cap] w fun e w' => e = .returned (.bool true) ∧ Kept Nil w w' := by
  obtain ⟨hlen, hml, hsz, hat⟩ := h
  have HLen := Lib.hid hlen
  unfold maxLen at hml
  clear hlen
  by_cases hbig : 60 < len
  · go_enter Try.func5, Try.ntmps5
    go_wp2_with fail
    refine (new_any _).mono ?_
    rintro e w1 ⟨rfl, t1, k1⟩
    go_wp2_with fail
    refine (awake_any _).mono ?_
    rintro e w2 ⟨rfl, k2⟩
    go_wp2_with fail
    go_ret
    exact ⟨rfl, k1.trans k2 (fun _ _ g => g)⟩
  · have hd : decide (60 < (len : Int)) = false := decide_eq_false (by omega)
    have HAt := Lib.hid hat
    have HZ := Lib.hid hsz
    have hmm := @run_makeMap Try.prog
    clear hat hsz
    go_enter Try.func5, Try.ntmps5
    go_wp2_with fail
    refine (new_any _).mono ?_
    rintro e w1 ⟨rfl, t1, k1⟩
    have A1 : Hid (Maps2 w (w1.alloc (.map #[] 0)) w1.heap.size 0 []) := ⟨⟨_, _, t1.kept ((Kept.refl Nil _).alloc _) (fun _ _ g => g), fun hf => by have := (t1.foot hf).2; omega⟩, ⟨_, World.ownsMap_made _ _ _ _, had_nil⟩, k1.alloc _, k1.size⟩
    clear t1 k1
    go_wp2_with fail
    generalize w1.alloc (.map #[] 0) = w2 at *
    generalize w1.heap.size = bh at *
    clear hmm
    go_loopw [33] (fun i wr => ∃ (j : Nat) (l : List ByteArray), j ≤ len ∧ l.length ≤ j ∧ i = .int .i64 j ∧ Maps2 w wr bh j l) (fun i _ => len - (intOf i).toNat)
    case atStart => exact ⟨0, [], Nat.zero_le _, Nat.le_refl _, rfl, A1.out⟩
    case round =>
      obtain ⟨j, l, hj, hl, rfl, hA⟩ := hrel
      obtain ⟨m, sv, hT, hap⟩ := hA.tab
      obtain ⟨D, hO, hH⟩ := hA.own
      have HH := Lib.hid hH
      have HAp := Lib.hid hap
      clear hap hH
      by_cases hlt : j < len
      · obtain ⟨s, hs⟩ : ∃ s, ss[j]? = some s := ⟨ss[j]'(by have := HLen.out; omega), by simp⟩
        rcases HAt.out with h0 | ⟨b, off, e, hb, hc⟩
        · omega
        subst e
        have hcell : _ = some (Value.string s) := (hA.kept.cell (p := ⟨b, off + j, none⟩) hb (fun g => g)).trans (hc j s hs)
        clear hc
        have hsm := HZ.out s (List.mem_of_getElem? hs)
        have hsm' := hsm
        unfold maxLen at hsm'
        clear hs
        by_cases h60 : 60 < s.size
        · go_wp2_with fail
          refine (awake_any _).mono ?_
          rintro e w2 ⟨rfl, k2⟩
          go_wp2_with fail
          go_ret
          exact ⟨rfl, hA.kept.trans k2 (fun _ _ g => g)⟩
        · cases hok : okName s
          · have HO := Lib.hid hok
            clear hok
            go_wp2_with fail
            refine (intern_bad hT s hsm HO.out).mono ?_
            rintro e w3 ⟨rfl, k2⟩
            have hA2 := hA.step k2
            go_wp2_with fail
            go_roundw
            case rel => exact ⟨j + 1, l, hlt, by omega, by go_num, ⟨hA2.tab, by obtain ⟨D, o, d⟩ := hA2.own; exact ⟨D, o.mono (by omega), d⟩, hA2.kept, hA2.base⟩⟩
            case measure => simp [intOf]; omega
          have hs32 : s.size ≤ 32 := by
            unfold okName at hok
            simp at hok
            omega
          have HO := Lib.hid hok
          clear hok
          have hself := str_eq (rfl : s = s)
          by_cases hp : 0 < pos l s
          · obtain ⟨i, hi⟩ : ∃ i, pos l s = i + 1 := ⟨pos l s - 1, by omega⟩
            have hget : l[i]? = some s := by have := pos_get (l := l) (s := s) (by omega); rw [hi] at this; simpa using this
            have hil := (List.getElem?_eq_some_iff.1 hget).1
            have HG := Lib.hid hget
            have HI := Lib.hid hi
            clear hget hi
            go_wp2_with fail
            refine (intern_there hT s hsm HO.out hp).mono ?_
            rintro e w3 ⟨rfl, k2⟩
            have hA2 := hA.step k2
            have hO2 := k2.map hO (fun g => g)
            have hT2 := hT.kept k2 (fun _ _ g => g)
            have hrun := look_had hO2 HH.out HG.out (by omega)
            rw [HI.out, show ((i + 1 : Nat) : Int) = (i : Int) + 1 from by omega]
            clear hp
            go_wp2_with (at_mapUpdate; refine wpList_mapUpdate_own _ rfl _ _ _ 39 rfl 3 9 lawI Try.underlying39 _ bh j _ rfl hO2 (by unfold maxLen; omega) _ _ _ rfl rfl (keyOf_int_mk Try.underlying3 (WalkArith.wf_i64 (by omega))) _ [] (plainElem_string Try.underlying9 hsm) ?_; intro w4 hO4 hg4)
            have hA4 := Maps2.put hA2.base hT2 HAp.out hA2.kept hg4 hO4 (had_same HH.out HG.out)
            clear hg4 hO4 hrun
            go_wp2_with fail
            go_roundw
            case rel => exact ⟨j + 1, l, hlt, by omega, by go_num, hA4⟩
            case measure => simp [intOf]; omega
          · have HP := Lib.hid (show pos l s = 0 by omega)
            clear hp
            go_wp2_with fail
            refine (intern_new hT s hs32 HO.out HP.out (by omega)).mono ?_
            rintro e w3 ⟨rfl, g3⟩
            have k3 := Grew.out hA.kept hT (Nat.le_refl _) g3
            obtain ⟨m3, sv3, hT3, r2, r3⟩ := g3
            have hlt3 := hO.lt
            have hap3 : ¬ Foot w.heap.size m3 sv3 bh := fun hf => by
              rcases r2 bh hf with h | h
              · exact HAp.out h
              · omega
            have hO3 := r3.map hO HAp.out
            have HR2 := Lib.hid r2
            have HAp3 := Lib.hid hap3
            obtain ⟨c, hrun⟩ := look_hadn hO3 HH.out (by omega)
            clear r2 r3 hap3
            go_wp2_with (at_mapUpdate; refine wpList_mapUpdate_own _ rfl _ _ _ 39 rfl 3 9 lawI Try.underlying39 _ bh j _ rfl hO3 (by unfold maxLen; omega) _ _ _ rfl rfl (keyOf_int_mk Try.underlying3 (WalkArith.wf_i64 (by omega))) _ [] (plainElem_string Try.underlying9 hsm) ?_; intro w4 hO4 hg4)
            have hA4 := Maps2.put hA.base hT3 HAp3.out k3 hg4 hO4 (had_new HH.out s)
            clear hg4 hO4 hrun
            go_wp2_with fail
            go_roundw
            case rel => exact ⟨j + 1, l ++ [s], hlt, by simp; omega, by go_num, hA4⟩
            case measure => simp [intOf]; omega
      · go_wp2_with (at_range; refine wpList_range_own _ rfl _ 39 rfl 3 9 lawI Try.underlying39 _ bh j _ rfl hO ?_; intro w0 hrg0 hg0 hs0)
        have hbr : bh ≠ wr.heap.size := by have := hO.lt; omega
        have hT0 := hT.kept ((Kept.refl Nil _).grown hg0 (fun _ e => by cases e)) (fun _ _ g => g)
        have k0 : Kept Nil w w0 := hA.kept.grown hg0 (fun _ e => by cases e)
        have hfr : Hid (¬ Foot w.heap.size m sv wr.heap.size) := fun hf => by have := (hT.foot hf).2; omega
        have hbase := Lib.hid hA.base
        have hwr : w.heap.size ≤ wr.heap.size := hA.kept.size
        generalize wr.heap.size = r at *
        clear hA hT hO hg0 hs0
        go_frame
        go_loopw [11] (fun _ wr => ∃ (left : Lit → Bool) (cnt : Nat), wr.ranges Try.prog 3 (plainElem Try.prog 9) bh r j D left cnt ∧ Tab wr w.heap.size w.heap.size m sv l ∧ Kept Nil w wr) (fun _ wr => wr.rangeLeft bh r)
        case atStart => exact ⟨_, _, hrg0, hT0, k0⟩
        case round =>
          obtain ⟨left, cnt, hrg, hT, hk⟩ := hrel
          go_wp2_with (at_next; refine wpList_next_ranges_is _ rfl _ rfl 3 9 .i64 lawI Try.underlying3 Try.underlying9 bh r j _ _ _ rfl hrg ?_ ?_)
          · intro _ _
            have hO := hrg.owns
            have hsz := HH.out.2.1
            go_wp2_with (first | (at_len; refine wpList_len_own _ rfl _ 39 rfl 3 9 Try.underlying39 _ bh j D rfl hO ?_; rw [hsz]) | (go_at_call 16; refine (len_any hT).mono ?_; rintro e w3 ⟨rfl, rfl⟩) | (go_at_call 8; refine (awake_any _).mono ?_; rintro e w3 ⟨rfl, k3⟩))
            go_ret
            exact ⟨rfl, hk.trans k3 (fun _ _ g => g)⟩
          · intro x c w1 cnt1 hwx hwc hlx hatx hrg1 hlt1 hg1 hs1 hen
            have k1 : Kept (fun i => i = r) wr w1 := (Kept.refl _ _).grown hg1 (fun k e => .inl (by cases e; rfl))
            have hT1 := hT.kept k1 (fun i hi e => hfr.out (e ▸ hi))
            have hk1 : Kept Nil w w1 := hk.trans k1 (fun i hi e => by subst e; omega)
            have hx := HH.out.2.2.1 x
            rw [has_true_of_atKey hatx] at hx
            have hx2 := of_decide_eq_true hx.symm
            obtain ⟨i, rfl⟩ : ∃ i : Nat, x = (i : Int) + 1 := ⟨(x - 1).toNat, by omega⟩
            obtain ⟨s, hs⟩ : ∃ s, l[i]? = some s := ⟨l[i]'(by omega), by simp⟩
            obtain rfl : c = s := bytes_inj' (Lit.string.inj (DataW.lit.inj ((hatx .nil).symm.trans (HH.out.2.2.2 i s hs .nil))))
            have hself := str_eq (rfl : c = c)
            have hp : Hid (pos l c = i + 1) := pos_at hT1.nodup hs
            have HS := Lib.hid hs
            have HX := Lib.hid hatx
            have HM := Lib.hid hrg
            clear hx hs hatx hrg hg1 hs1
            go_wp2_with fail
            refine (find_any hT1 c hwc).mono ?_
            rintro e w2 ⟨rfl, rfl⟩
            rw [hp.out, show decide (0 < i + 1) = true from decide_eq_true (by omega), show ((i + 1 : Nat) : Int) = (i : Int) + 1 from by omega]
            go_wp2_with fail
            refine (name_yes hT1 i c HS.out).mono ?_
            rintro e w2 ⟨rfl, k2⟩
            have hrg2 := hrg1.kept (k2.toGrown none) (by simp) (by simp)
            have hT2 := hT1.kept k2 (fun _ _ g => g)
            have hk2 := hk1.trans k2 (fun _ _ g => g)
            clear hrg1 hen
            go_wp2_with fail
            go_roundw
            case rel => exact ⟨_, cnt1, hrg2, hT2, hk2⟩
            case measure => rw [hrg2.left_eq, HM.out.left_eq]; exact hlt1

set_option maxRecDepth 100000 in
theorem symKeeps_lifted (os : Os) (started : os.Started) (H : Type) (enc : TypeId × Value → H) :
    ReturnsInHanded {} Try.checked os 5 .any (Rows.symKeepsSpec.pre6 enc Try.prog Try.f5 Rows.symKeepsRow.domain false) (Rows.symKeepsSpec.post enc Try.prog Try.f5 false true false false) := by
  refine returnsInHanded_of_change (C := Try.checked) own started (by kernel_rfl) Try.func5
    (ChangeSpec.witness6 (enc := enc) (C := Try.checked) false ⟨#[], #[.slice none 0 0], []⟩ 8 (by kernel_rfl) (by kernel_rfl) (by kernel_rfl) (by kernel_rfl)) ?_
  intro W base args ds gs before hval0 hW hcnd _
  have hval : ∀ (j : Nat) t v, Try.f5.params[j]? = some t → args[j]? = some v → Value.okWide Try.prog W .any base t v := hval0
  have hW' := hW
  obtain ⟨p, q, hA0, hV, rfl, hfz, hnd⟩ := hW
  have hA : DataW.TrodAll enc Try.prog W 0 (fun _ => true) true Try.f5.params.toList args.toList ds p := hA0
  rw [Try.params5] at hA hval
  obtain ⟨v0, d0, rfl, rfl, h0⟩ := trodAll_one hA
  obtain ⟨rfl, rfl⟩ := trodVars_none hV
  obtain ⟨a, len, cap, rfl⟩ := okWide_slice Try.underlying24 (hval 0 24 v0 rfl rfl)
  have lt0 : ∀ x ∈ p, x.block < W.heap.size := by obtain ⟨m, hm⟩ := h0; exact DataW.trod_lt m _ _ _ hm
  obtain ⟨ss, hss⟩ := strs_of Try.underlying24 Try.underlying9 (by kernel_rfl) h0
  refine (symKeeps_any a len cap ss W hss).mono fun e W' ⟨he, hk⟩ => ?_
  subst he
  exact ⟨_, rfl, _, _, _, [], p, [], hW', trodAll_mk1 (shut_bool Try.underlying4 _), trodAll_mk1 (Below.trod laidOut (by kernel_rfl) (of_decide_eq_true (by kernel_rfl)) h0 hk.toBelow lt0), rfl, hk.toBelow.frame _, fun h => by cases h⟩

theorem symKeeps_holds : Rows.SymKeepsSaid :=
  OpenClaim.holds_of_wide 5 Try.f5 rfl rfl rfl rfl rfl rfl rfl ⟨rfl, rfl, rfl, rfl, rfl⟩ rfl rfl rfl rfl rfl (by kernel_rfl) Try.func5 (by kernel_rfl)
    (of_decide_eq_true (by kernel_rfl)) (by unfold Func.isWrapper; rw [if_neg (of_decide_eq_false (by kernel_rfl))]; exact ⟨rfl, rfl⟩)
    (fun os started H enc _ => symKeeps_lifted os started H enc)
#print axioms symKeeps_holds
end Go.Proofs.Ytjfoimnnbkmgmaa
