/- Whatever the names, SymOrder returns true, and writes nothing that was there. No condition. -/
import Derived.Test.YtjfoimnnbkmgmaaLawStrs
namespace Go.Proofs.Ytjfoimnnbkmgmaa
open Go.RowKit Go.ChangeShapes Go.WideShapes Go.ChangeAt

/-- What stands at the head of each round: a table of l, made since. -/
structure At (w wr : World) (l : List ByteArray) : Prop where
  tab : ∃ m sv, Tab wr w.heap.size w.heap.size m sv l
  kept : Kept Nil w wr
theorem At.start {w wr : World} (h : Tab wr w.heap.size w.heap.size (.map none) (.slice none 0 0) []) (k : Kept Nil w wr) : At w wr [] := ⟨⟨_, _, h⟩, k⟩
theorem At.step {w wr w' : World} {l : List ByteArray} (h : At w wr l) (k : Kept Nil wr w') : At w w' l := by
  obtain ⟨m, sv, t⟩ := h.tab
  exact ⟨⟨m, sv, t.kept k (fun _ _ g => g)⟩, h.kept.trans k (fun _ _ g => g)⟩
theorem At.grew {w wr w' : World} {l l' : List ByteArray} {m sv : Value} (h : At w wr l) (t : Tab wr w.heap.size w.heap.size m sv l) (g : Grew wr w' w.heap.size w.heap.size m sv l') : At w w' l' := by
  have k := Grew.out h.kept t (Nat.le_refl _) g
  obtain ⟨m', sv', r, _, _⟩ := g
  exact ⟨⟨m', sv', r⟩, k⟩

set_option maxRecDepth 100000 in
set_option maxHeartbeats 4000000 in
theorem symOrder_any (a : Option Addr) (len cap : Nat) (ss : List ByteArray) (w : World) (h : Strs w a len ss) :
    Calls Try.prog 7 #[.slice a len cap] w fun e w' => e = .returned (.bool true) ∧ Kept Nil w w' := by
  obtain ⟨hlen, hml, hsz, hat⟩ := h
  have HLen := Lib.hid hlen
  unfold maxLen at hml
  clear hlen
  by_cases hbig : 60 < len
  · go_enter Try.func7, Try.ntmps7
    go_wp2_with fail
    refine (new_any _).mono ?_
    rintro e w1 ⟨rfl, t1, k1⟩
    go_wp2_with fail
    refine (awake_any _).mono ?_
    rintro e w2 ⟨rfl, k2⟩
    go_wp2_with fail
    go_ret
    exact ⟨rfl, k1.trans k2 (fun _ _ g => g)⟩
  · have hd : decide (60 < (len : Int)) = false := decide_eq_false (by omega)
    rcases hat with h0 | ⟨b, off, rfl, hb, hc⟩
    · go_enter Try.func7, Try.ntmps7
      go_wp2_with fail
      refine (new_any _).mono ?_
      rintro e w1 ⟨rfl, t1, k1⟩
      have A1 := Lib.hid (At.start t1 k1)
      clear t1 k1
      have hlz : (len : Int) ≤ 0 := by omega
      clear h0
      go_wp2_with fail
      go_loopw [26] (fun i wr => ∃ l, i = .int .i64 0 ∧ At w wr l) (fun i _ => len - (intOf i).toNat)
      case atStart => exact ⟨[], rfl, A1.out⟩
      case round =>
        obtain ⟨l, rfl, hA⟩ := hrel
        go_wp2_with fail
        refine (awake_any _).mono ?_
        rintro e w2 ⟨rfl, k2⟩
        go_wp2_with fail
        go_ret
        exact ⟨rfl, hA.kept.trans k2 (fun _ _ g => g)⟩
    have HC := Lib.hid hc
    have HZ := Lib.hid hsz
    clear hc hsz
    go_enter Try.func7, Try.ntmps7
    go_wp2_with fail
    refine (new_any _).mono ?_
    rintro e w1 ⟨rfl, t1, k1⟩
    have A1 := Lib.hid (At.start t1 k1)
    clear t1 k1
    go_wp2_with fail
    go_loopw [4, 26] (fun k i wr => ∃ (j : Nat) (l : List ByteArray), j ≤ len ∧ l.length ≤ j ∧ k = .int .i64 l.length ∧ i = .int .i64 j ∧ At w wr l) (fun _ i _ => len - (intOf i).toNat)
    case atStart => exact ⟨0, [], Nat.zero_le _, Nat.le_refl _, rfl, rfl, A1.out⟩
    case round =>
      obtain ⟨j, l, hj, hl, rfl, rfl, hA⟩ := hrel
      by_cases hlt : j < len
      · obtain ⟨s, hs⟩ : ∃ s, ss[j]? = some s := ⟨ss[j]'(by have := HLen.out; omega), by simp⟩
        have hcell : _ = some (Value.string s) := (hA.kept.cell (p := ⟨b, off + j, none⟩) hb (fun g => g)).trans (HC.out j s hs)
        have hsm := HZ.out s (List.mem_of_getElem? hs)
        have hsm' := hsm
        unfold maxLen at hsm'
        have HS := Lib.hid hs
        clear hs
        by_cases h60 : 60 < s.size
        · go_wp2_with fail
          refine (awake_any _).mono ?_
          rintro e w2 ⟨rfl, k2⟩
          go_wp2_with fail
          go_ret
          exact ⟨rfl, hA.kept.trans k2 (fun _ _ g => g)⟩
        · obtain ⟨m, sv, hT⟩ := hA.tab
          go_wp2_with fail
          refine (find_any hT s hsm).mono ?_
          rintro e w2 ⟨rfl, rfl⟩
          by_cases hp : 0 < pos l s
          · rw [decide_eq_true hp]
            clear hp
            go_wp2_with fail
            go_roundw
            case rel => exact ⟨j + 1, l, hlt, by omega, rfl, by go_num, hA⟩
            case measure => simp [intOf]; omega
          · rw [decide_eq_false hp]
            have HP := Lib.hid (show pos l s = 0 by omega)
            clear hp
            go_wp2_with fail
            refine (right_any s _ hsm).mono ?_
            rintro e w3 ⟨rfl, k3⟩
            have hA3 := hA.step k3
            have hT3 := hT.kept k3 (fun _ _ g => g)
            cases hok : okName s
            · clear hok
              go_wp2_with fail
              go_roundw
              case rel => exact ⟨j + 1, l, hlt, by omega, rfl, by go_num, hA3⟩
              case measure => simp [intOf]; omega
            · have HO := Lib.hid hok
              have hs32 : s.size ≤ 32 := by
                unfold okName at hok
                simp at hok
                omega
              clear hok
              go_wp2_with fail
              refine (intern_new hT3 s hs32 HO.out HP.out (by omega)).mono ?_
              rintro e w4 ⟨rfl, g4⟩
              have hA4 := hA3.grew hT3 g4
              obtain ⟨m4, sv4, hT4⟩ := hA4.tab
              clear g4
              go_wp2_with fail
              refine (len_any hT4).mono ?_
              rintro e w5 ⟨rfl, rfl⟩
              go_wp2_with fail
              go_roundw
              case rel => exact ⟨j + 1, l ++ [s], hlt, by simp; omega, by simp, by go_num, hA4⟩
              case measure => simp [intOf]; omega
      · go_wp2_with fail
        refine (awake_any _).mono ?_
        rintro e w2 ⟨rfl, k2⟩
        go_wp2_with fail
        go_ret
        exact ⟨rfl, hA.kept.trans k2 (fun _ _ g => g)⟩

set_option maxRecDepth 100000 in
theorem symOrder_lifted (os : Os) (started : os.Started) (H : Type) (enc : TypeId × Value → H) :
    ReturnsInHanded {} Try.checked os 7 .any (Rows.symOrderSpec.pre6 enc Try.prog Try.f7 Rows.symOrderRow.domain false) (Rows.symOrderSpec.post enc Try.prog Try.f7 false true false false) := by
  refine returnsInHanded_of_change (C := Try.checked) own started (by kernel_rfl) Try.func7
    (ChangeSpec.witness6 (enc := enc) (C := Try.checked) false ⟨#[], #[.slice none 0 0], []⟩ 8 (by kernel_rfl) (by kernel_rfl) (by kernel_rfl) (by kernel_rfl)) ?_
  intro W base args ds gs before hval0 hW hcnd _
  have hval : ∀ (j : Nat) t v, Try.f7.params[j]? = some t → args[j]? = some v → Value.okWide Try.prog W .any base t v := hval0
  have hW' := hW
  obtain ⟨p, q, hA0, hV, rfl, hfz, hnd⟩ := hW
  have hA : DataW.TrodAll enc Try.prog W 0 (fun _ => true) true Try.f7.params.toList args.toList ds p := hA0
  rw [Try.params7] at hA hval
  obtain ⟨v0, d0, rfl, rfl, h0⟩ := trodAll_one hA
  obtain ⟨rfl, rfl⟩ := trodVars_none hV
  obtain ⟨a, len, cap, rfl⟩ := okWide_slice Try.underlying24 (hval 0 24 v0 rfl rfl)
  have lt0 : ∀ x ∈ p, x.block < W.heap.size := by obtain ⟨m, hm⟩ := h0; exact DataW.trod_lt m _ _ _ hm
  obtain ⟨ss, hss⟩ := strs_of Try.underlying24 Try.underlying9 (by kernel_rfl) h0
  refine (symOrder_any a len cap ss W hss).mono fun e W' ⟨he, hk⟩ => ?_
  subst he
  exact ⟨_, rfl, _, _, _, [], p, [], hW', trodAll_mk1 (shut_bool Try.underlying4 _), trodAll_mk1 (Below.trod laidOut (by kernel_rfl) (of_decide_eq_true (by kernel_rfl)) h0 hk.toBelow lt0), rfl, hk.toBelow.frame _, fun h => by cases h⟩

theorem symOrder_holds : Rows.SymOrderSaid :=
  OpenClaim.holds_of_wide 7 Try.f7 rfl rfl rfl rfl rfl rfl rfl ⟨rfl, rfl, rfl, rfl, rfl⟩ rfl rfl rfl rfl rfl (by kernel_rfl) Try.func7 (by kernel_rfl)
    (of_decide_eq_true (by kernel_rfl)) (by unfold Func.isWrapper; rw [if_neg (of_decide_eq_false (by kernel_rfl))]; exact ⟨rfl, rfl⟩)
    (fun os started H enc _ => symOrder_lifted os started H enc)
#print axioms symOrder_holds
end Go.Proofs.Ytjfoimnnbkmgmaa
