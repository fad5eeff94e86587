/- Whatever the names, SymPlays returns true, and writes nothing that was there. No condition. -/
import Derived.Test.YtjfoimnnbkmgmaaLawOrder
import Derived.Test.YtjfoimnnbkmgmaaRef
namespace Go.Proofs.Ytjfoimnnbkmgmaa
open Go.RowKit Go.ChangeShapes Go.WideShapes Go.ChangeAt

/-- A table of l and the document's list of l', both made since, apart from each other. -/
structure Both (w wr : World) (l : List ByteArray) (v : Value) (l' : List ByteArray) : Prop where
  tab : ∃ m sv, Tab wr w.heap.size w.heap.size m sv l ∧ ∀ k, v.ownBlock = some k → ¬ Foot w.heap.size m sv k
  row : Row wr w.heap.size v l'
  kept : Kept Nil w wr
theorem Both.start {w wr : World} (h : Tab wr w.heap.size w.heap.size (.map none) (.slice none 0 0) []) (k : Kept Nil w wr) : Both w wr [] (.slice none 0 0) [] :=
  ⟨⟨_, _, h, fun _ e => by cases e⟩, World.ownsRow_nil _ _ _ _, k⟩
theorem Both.step {w wr w' : World} {l l' : List ByteArray} {v : Value} (h : Both w wr l v l') (k : Kept Nil wr w') : Both w w' l v l' := by
  obtain ⟨m, sv, t, ha⟩ := h.tab
  exact ⟨⟨m, sv, t.kept k (fun _ _ g => g), ha⟩, k.row h.row (fun _ _ g => g), h.kept.trans k (fun _ _ g => g)⟩
theorem Both.newRow {w wr w' : World} {l l' l'' : List ByteArray} {v v' : Value} (h : Both w wr l v l') (k : Kept Nil wr w') (r : Row w' wr.heap.size v' l'') : Both w w' l v' l'' := by
  obtain ⟨m, sv, t, ha⟩ := h.tab
  refine ⟨⟨m, sv, t.kept k (fun _ _ g => g), fun i hi hf => ?_⟩, ?_, h.kept.trans k (fun _ _ g => g)⟩
  · have h1 := (t.foot hf).2
    have h2 := (r.lt i hi).1
    omega
  · refine ⟨r.1, ?_⟩
    rcases r.2 with e | ⟨g, cap, cur, e, hb, rest⟩
    · exact .inl e
    · exact .inr ⟨g, cap, cur, e, Nat.le_trans h.kept.size hb, rest⟩
theorem Both.grew {w wr w' : World} {l l' l'' : List ByteArray} {v m sv : Value} (t : Tab wr w.heap.size w.heap.size m sv l) (ha : ∀ k, v.ownBlock = some k → ¬ Foot w.heap.size m sv k) (hr : Row wr w.heap.size v l') (hk : Kept Nil w wr)
    (g : Grew wr w' w.heap.size w.heap.size m sv l'') : Both w w' l'' v l' := by
  have k := Grew.out hk t (Nat.le_refl _) g
  obtain ⟨m', sv', r1, r2, r3⟩ := g
  refine ⟨⟨m', sv', r1, fun i hi hf => ?_⟩, r3.row hr (fun i hi => ha i hi), k⟩
  rcases r2 i hf with h | h
  · exact ha i hi h
  · have := (hr.lt i hi).2
    omega

set_option maxRecDepth 100000 in
set_option maxHeartbeats 8000000 in
theorem symPlays_any (a : Option Addr) (len cap : Nat) (ss : List ByteArray) (w : World) (h : Strs w a len ss) :
    Calls Try.prog 4 #[.slice a len cap] w fun e w' => e = .returned (.bool true) ∧ Kept Nil w w' := by
  obtain ⟨hlen, hml, hsz, hat⟩ := h
  have HLen := Lib.hid hlen
  unfold maxLen at hml
  clear hlen
  by_cases hbig : 80 < len
  · go_enter Try.func4, Try.ntmps4
    go_wp2_with fail
    refine (new_any _).mono ?_
    rintro e w1 ⟨rfl, t1, k1⟩
    go_wp2_with fail
    refine (awake_any _).mono ?_
    rintro e w2 ⟨rfl, k2⟩
    go_wp2_with fail
    go_ret
    exact ⟨rfl, k1.trans k2 (fun _ _ g => g)⟩
  · have hd : decide (80 < (len : Int)) = false := decide_eq_false (by omega)
    have HAt := Lib.hid hat
    have HZ := Lib.hid hsz
    clear hat hsz
    go_enter Try.func4, Try.ntmps4
    go_wp2_with fail
    refine (new_any _).mono ?_
    rintro e w1 ⟨rfl, t1, k1⟩
    have A1 := Lib.hid (Both.start t1 k1)
    clear t1 k1
    go_wp2_with fail
    go_loopw [4, 33] (fun v i wr => ∃ (j : Nat) (l : List ByteArray) (la : Option Addr) (lc : Nat), j ≤ len ∧ l.length ≤ j ∧ v = .slice la l.length lc ∧ i = .int .i64 j ∧ Both w wr l (.slice la l.length lc) l) (fun _ i _ => len - (intOf i).toNat)
    case atStart => exact ⟨0, [], none, 0, Nat.zero_le _, Nat.le_refl _, rfl, rfl, A1.out⟩
    case round =>
      obtain ⟨j, l, la, lc, hj, hl, rfl, rfl, hA⟩ := hrel
      obtain ⟨m, sv, hT, hap⟩ := hA.tab
      have HAp := Lib.hid hap
      clear hap
      by_cases hlt : j < len
      · obtain ⟨s, hs⟩ : ∃ s, ss[j]? = some s := ⟨ss[j]'(by have := HLen.out; omega), by simp⟩
        rcases HAt.out with h0 | ⟨b, off, e, hb, hc⟩
        · omega
        subst e
        have hcell : _ = some (Value.string s) := (hA.kept.cell (p := ⟨b, off + j, none⟩) hb (fun g => g)).trans (hc j s hs)
        clear hc
        have hsm := HZ.out s (List.mem_of_getElem? hs)
        have hsm' := hsm
        unfold maxLen at hsm'
        clear hs
        by_cases h60 : 60 < s.size
        · go_wp2_with fail
          refine (awake_any _).mono ?_
          rintro e w2 ⟨rfl, k2⟩
          go_wp2_with fail
          go_ret
          exact ⟨rfl, hA.kept.trans k2 (fun _ _ g => g)⟩
        · by_cases hp : 0 < pos l s
          · go_wp2_with fail
            refine (find_any hT s hsm).mono ?_
            rintro e w2 ⟨rfl, rfl⟩
            rw [decide_eq_true hp]
            go_wp2_with fail
            refine (refFind_any hA.row (by omega) s).mono ?_
            rintro e w2 ⟨rfl, rfl⟩
            cases hok : okName s
            · have HO := Lib.hid hok
              clear hok
              go_wp2_with fail
              refine (refIntern_bad hA.row s hsm HO.out).mono ?_
              rintro e w2 ⟨rfl, rfl⟩
              go_wp2_with fail
              refine (intern_bad hT s hsm HO.out).mono ?_
              rintro e w2 ⟨rfl, k2⟩
              have hA2 := hA.step k2
              have hT2 := hT.kept k2 (fun _ _ g => g)
              go_wp2_with fail
              refine (len_any hT2).mono ?_
              rintro e w3 ⟨rfl, rfl⟩
              go_wp2_with fail
              go_roundw
              case rel => exact ⟨j + 1, l, la, lc, hlt, by omega, rfl, by go_num, hA2⟩
              case measure => simp [intOf]; omega
            · have HO := Lib.hid hok
              clear hok
              go_wp2_with fail
              refine (refIntern_there hA.row (by omega) s hsm HO.out hp).mono ?_
              rintro e w2 ⟨rfl, rfl⟩
              go_wp2_with fail
              refine (intern_there hT s hsm HO.out hp).mono ?_
              rintro e w2 ⟨rfl, k2⟩
              have hA2 := hA.step k2
              have hT2 := hT.kept k2 (fun _ _ g => g)
              go_wp2_with fail
              refine (len_any hT2).mono ?_
              rintro e w3 ⟨rfl, rfl⟩
              go_wp2_with fail
              go_roundw
              case rel => exact ⟨j + 1, l, la, lc, hlt, by omega, rfl, by go_num, hA2⟩
              case measure => simp [intOf]; omega
          · have HP := Lib.hid (show pos l s = 0 by omega)
            have hpd := Lib.hid (decide_eq_false hp)
            clear hp
            go_wp2_with fail
            refine (find_any hT s hsm).mono ?_
            rintro e w2 ⟨rfl, rfl⟩
            rw [hpd.out, HP.out]
            go_wp2_with fail
            refine (refFind_any hA.row (by omega) s).mono ?_
            rintro e w2 ⟨rfl, rfl⟩
            rw [HP.out]
            cases hok : okName s
            · have HO := Lib.hid hok
              clear hok
              go_wp2_with fail
              refine (refIntern_bad hA.row s hsm HO.out).mono ?_
              rintro e w2 ⟨rfl, rfl⟩
              go_wp2_with fail
              refine (intern_bad hT s hsm HO.out).mono ?_
              rintro e w2 ⟨rfl, k2⟩
              have hA2 := hA.step k2
              have hT2 := hT.kept k2 (fun _ _ g => g)
              go_wp2_with fail
              refine (len_any hT2).mono ?_
              rintro e w3 ⟨rfl, rfl⟩
              go_wp2_with fail
              go_roundw
              case rel => exact ⟨j + 1, l, la, lc, hlt, by omega, rfl, by go_num, hA2⟩
              case measure => simp [intOf]; omega
            · have HO := Lib.hid hok
              have hs32 : s.size ≤ 32 := by
                unfold okName at hok
                simp at hok
                omega
              clear hok
              go_wp2_with fail
              refine (refIntern_new hA.row (by omega) s hsm HO.out HP.out).mono ?_
              rintro e w2 ⟨v2, rfl, r2, k2⟩
              have hA2 := hA.newRow k2 r2
              clear r2 k2
              obtain ⟨la2, lc2, rfl⟩ := hA2.row.shape
              obtain ⟨m2, sv2, hT2, hap2⟩ := hA2.tab
              have HAp2 := Lib.hid hap2
              clear hap2
              go_wp2_with fail
              refine (intern_new hT2 s hs32 HO.out HP.out (by omega)).mono ?_
              rintro e w3 ⟨rfl, g3⟩
              have hA3 := Both.grew hT2 HAp2.out hA2.row hA2.kept g3
              clear g3
              obtain ⟨m3, sv3, hT3, _⟩ := hA3.tab
              go_wp2_with fail
              refine (len_any hT3).mono ?_
              rintro e w4 ⟨rfl, rfl⟩
              go_wp2_with fail
              go_roundw
              case rel => exact ⟨j + 1, l ++ [s], la2, lc2, hlt, by simp; omega, by simp, by go_num, by simpa using hA3⟩
              case measure => simp [intOf]; omega
      · go_wp2_with fail
        go_loopw [14] (fun i wr' => ∃ k : Int, -1 ≤ k ∧ k ≤ l.length + 2 ∧ i = .int .i64 k ∧ Both w wr' l (.slice la l.length lc) l) (fun i _ => ((l.length : Int) + 2 - intOf i).toNat)
        case atStart => exact ⟨-1, by omega, by omega, rfl, hA⟩
        case round =>
          clear hA
          obtain ⟨k, hk1, hk2, rfl, hA⟩ := hrel
          clear hT HAp
          obtain ⟨m', sv', hT, _⟩ := hA.tab
          by_cases hend : (l.length : Int) + 1 < k
          · go_wp2_with fail
            refine (awake_any _).mono ?_
            rintro e w2 ⟨rfl, k2⟩
            go_wp2_with fail
            go_ret
            exact ⟨rfl, hA.kept.trans k2 (fun _ _ g => g)⟩
          · by_cases hin : 1 ≤ k ∧ k ≤ l.length
            · obtain ⟨i, rfl⟩ : ∃ i : Nat, k = (i : Int) + 1 := ⟨(k - 1).toNat, by omega⟩
              obtain ⟨s, hs⟩ : ∃ s, l[i]? = some s := ⟨l[i]'(by omega), by simp⟩
              have ⟨hin1, hin2⟩ := hin
              clear hin
              have hd1 : decide ((i : Int) + 1 ≤ (l.length : Int)) = true := decide_eq_true hin2
              go_wp2_with fail
              refine (name_yes hT i s hs).mono ?_
              rintro e w2 ⟨rfl, k2⟩
              have hA2 := hA.step k2
              obtain ⟨g, gc, e, hc⟩ := ownName hA2.row hs
              cases e
              have hself := str_eq (rfl : s = s)
              clear hs
              go_wp2_with fail
              go_roundw
              case rel => exact ⟨(i : Int) + 1 + 1, by omega, by omega, rfl, hA2⟩
              case measure => simp [intOf]; omega
            · go_wp2_with fail
              refine (name_no hT k (by omega)).mono ?_
              rintro e w2 ⟨rfl, k2⟩
              have hA2 := hA.step k2
              go_wp2_with fail
              all_goals
                go_roundw
                case rel => exact ⟨k + 1, by omega, by omega, rfl, hA2⟩
                case measure => simp [intOf]; omega

set_option maxRecDepth 100000 in
theorem symPlays_lifted (os : Os) (started : os.Started) (H : Type) (enc : TypeId × Value → H) :
    ReturnsInHanded {} Try.checked os 4 .any (Rows.symPlaysSpec.pre6 enc Try.prog Try.f4 Rows.symPlaysRow.domain false) (Rows.symPlaysSpec.post enc Try.prog Try.f4 false true false false) := by
  refine returnsInHanded_of_change (C := Try.checked) own started (by kernel_rfl) Try.func4
    (ChangeSpec.witness6 (enc := enc) (C := Try.checked) false ⟨#[], #[.slice none 0 0], []⟩ 8 (by kernel_rfl) (by kernel_rfl) (by kernel_rfl) (by kernel_rfl)) ?_
  intro W base args ds gs before hval0 hW hcnd _
  have hval : ∀ (j : Nat) t v, Try.f4.params[j]? = some t → args[j]? = some v → Value.okWide Try.prog W .any base t v := hval0
  have hW' := hW
  obtain ⟨p, q, hA0, hV, rfl, hfz, hnd⟩ := hW
  have hA : DataW.TrodAll enc Try.prog W 0 (fun _ => true) true Try.f4.params.toList args.toList ds p := hA0
  rw [Try.params4] at hA hval
  obtain ⟨v0, d0, rfl, rfl, h0⟩ := trodAll_one hA
  obtain ⟨rfl, rfl⟩ := trodVars_none hV
  obtain ⟨a, len, cap, rfl⟩ := okWide_slice Try.underlying24 (hval 0 24 v0 rfl rfl)
  have lt0 : ∀ x ∈ p, x.block < W.heap.size := by obtain ⟨m, hm⟩ := h0; exact DataW.trod_lt m _ _ _ hm
  obtain ⟨ss, hss⟩ := strs_of Try.underlying24 Try.underlying9 (by kernel_rfl) h0
  refine (symPlays_any a len cap ss W hss).mono fun e W' ⟨he, hk⟩ => ?_
  subst he
  exact ⟨_, rfl, _, _, _, [], p, [], hW', trodAll_mk1 (shut_bool Try.underlying4 _), trodAll_mk1 (Below.trod laidOut (by kernel_rfl) (of_decide_eq_true (by kernel_rfl)) h0 hk.toBelow lt0), rfl, hk.toBelow.frame _, fun h => by cases h⟩

theorem symPlays_holds : Rows.SymPlaysSaid :=
  OpenClaim.holds_of_wide 4 Try.f4 rfl rfl rfl rfl rfl rfl rfl ⟨rfl, rfl, rfl, rfl, rfl⟩ rfl rfl rfl rfl rfl (by kernel_rfl) Try.func4 (by kernel_rfl)
    (of_decide_eq_true (by kernel_rfl)) (by unfold Func.isWrapper; rw [if_neg (of_decide_eq_false (by kernel_rfl))]; exact ⟨rfl, rfl⟩)
    (fun os started H enc _ => symPlays_lifted os started H enc)
#print axioms symPlays_holds
end Go.Proofs.Ytjfoimnnbkmgmaa
