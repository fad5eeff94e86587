/- Whatever terms come in, TermVars returns true, and writes nothing that was there. No condition. -/
import Derived.Test.YtkfijbinaidaiaaUOpen
import Derived.Test.YtkfijbinaidaiaaUVarM
namespace Go.Proofs.Ytkfijbinaidaiaa
open Go.RowKit Go.ChangeShapes Go.WideShapes Go.ChangeAt

/-- What stands in memory while the law goes on: the terms, and what Vars told. -/
structure VarL (w : World) (lc : Array Value) (a : Option Addr) (c : List Int) (W : World) : Prop where
  kept : Kept Nil w W
  b0 : Blk W w.heap.size 30 lc
  told : c = [] ∨ ∃ g, a = some ⟨g, 0, none⟩ ∧ ∀ i x, c[i]? = some x → W.cell? ⟨g, i, none⟩ = some (.int .i64 x)
theorem VarL.step {w : World} {lc : Array Value} {a : Option Addr} {c : List Int} {W W' : World} (h : VarL w lc a c W) (k : Kept Nil W W') : VarL w lc a c W' := by
  refine ⟨h.kept.trans k (fun _ _ g => g), h.b0.kept k id, ?_⟩
  rcases h.told with h0 | ⟨g, e, hc⟩
  · exact .inl h0
  · refine .inr ⟨g, e, fun i x hx => ?_⟩
    have := hc i x hx
    rw [k.cell (World.block_lt_of_cell? W _ this) id]
    exact this

set_option maxHeartbeats 2000000 in
theorem varsLaw_any (x0 x1 x2 : Bool) (n0 n1 n2 : Int) (w : World) :
    Calls Try.prog 6 #[valL x0 x1 x2 n0 n1 n2] w fun e w' => e = .returned (.bool true) ∧ Kept Nil w w' := by
  have HA := Lib.hid (fun W => awake_any W)
  have HF := Lib.hid (fun W => fine_any x0 x1 x2 n0 n1 n2 W)
  cases hf : fine x0 x1 x2 n0 n1 n2
  · rw [hf] at HF
    clear hf
    go_enter Try.func6, Try.ntmps6
    go_wp2_with fail
    refine (HF.out _).mono ?_
    rintro e w1 ⟨rfl, k1⟩
    go_wp2_with fail
    refine (HA.out _).mono ?_
    rintro e w2 ⟨rfl, k2⟩
    go_wp2_with fail
    go_ret
    exact ⟨rfl, (((Kept.refl Nil w).alloc _).trans k1 (fun _ _ g => g)).trans k2 (fun _ _ g => g)⟩
  · rw [hf] at HF
    have HRange := Lib.hid (varsC_range hf)
    have HMem := Lib.hid (fun j => varsC_mem x0 x1 x2 n0 n1 n2 j)
    have HRise := Lib.hid (varsC_rise x0 x1 x2 n0 n1 n2)
    have HLen := Lib.hid (varsC_len x0 x1 x2 n0 n1 n2)
    have CV := Lib.hid (fun W => vars_any x0 x1 x2 n0 n1 n2 W)
    generalize varsC x0 x1 x2 n0 n1 n2 = c at HRange HMem HRise HLen CV
    obtain ⟨len, hlen⟩ : ∃ len, len = c.length := ⟨_, rfl⟩
    have CV2 : Hid (∀ W, Calls Try.prog 23 #[valL x0 x1 x2 n0 n1 n2] W fun e w' => ∃ a cap, e = .returned (.slice a len cap) ∧ Kept Nil W w' ∧ (c = [] ∨ ∃ g, a = some ⟨g, 0, none⟩ ∧ ∀ i x, c[i]? = some x → w'.cell? ⟨g, i, none⟩ = some (.int .i64 x))) := Lib.hid fun W => by rw [hlen]; exact CV.out W
    have HN := Lib.hid hlen
    have B0 := Lib.hid (Blk.new w 30 #[.bool x0, .int .i64 n0, .bool x1, .int .i64 n1, .bool x2, .int .i64 n2])
    clear hf hlen CV
    go_enter Try.func6, Try.ntmps6
    go_wp2_with fail
    refine (HF.out _).mono ?_
    rintro e w1 ⟨rfl, k1⟩
    have B1 := B0.out.kept k1 id
    have K1 := Lib.hid (((Kept.refl Nil w).alloc (.cells #[.bool x0, .int .i64 n0, .bool x1, .int .i64 n1, .bool x2, .int .i64 n2] 30)).trans k1 (fun _ _ g => g))
    have l0c : w1.cell? ⟨w.heap.size, 0, none⟩ = some (.bool x0) := B1.cell 0
    have l1c : w1.cell? ⟨w.heap.size, 1, none⟩ = some (.int .i64 n0) := B1.cell 1
    have l2c : w1.cell? ⟨w.heap.size, 2, none⟩ = some (.bool x1) := B1.cell 2
    have l3c : w1.cell? ⟨w.heap.size, 3, none⟩ = some (.int .i64 n1) := B1.cell 3
    have l4c : w1.cell? ⟨w.heap.size, 4, none⟩ = some (.bool x2) := B1.cell 4
    have l5c : w1.cell? ⟨w.heap.size, 5, none⟩ = some (.int .i64 n2) := B1.cell 5
    have HB1 := Lib.hid B1
    clear k1 B0 B1
    go_wp2_with fail
    refine (CV2.out _).mono ?_
    rintro e w2 ⟨a, cap, rfl, k2, hc⟩
    have V2 : Hid (VarL w #[.bool x0, .int .i64 n0, .bool x1, .int .i64 n1, .bool x2, .int .i64 n2] a c w2) := Lib.hid ⟨K1.out.trans k2 (fun _ _ g => g), HB1.out.kept k2 id, hc⟩
    clear k2 hc l0c l1c l2c l3c l4c l5c
    go_wp2_with fail
    go_loopw [4, 5] (fun k i wr => ∃ (j m : Nat), 1 ≤ j ∧ j ≤ 33 ∧ i = .int .i64 j ∧ k = .int .i64 m ∧ Below_ c j m ∧ VarL w #[.bool x0, .int .i64 n0, .bool x1, .int .i64 n1, .bool x2, .int .i64 n2] a c wr) (fun _ i _ => 33 - (intOf i).toNat)
    case atStart => exact ⟨1, 0, by omega, by omega, rfl, rfl, Below_.start (fun x hx => (HRange.out x hx).1), V2.out⟩
    case round =>
      obtain ⟨j, m, hj1, hj, rfl, rfl, hb, hV⟩ := hrel
      have HV := Lib.hid hV
      have HBl := Lib.hid hb
      clear hV hb V2
      by_cases hlt : j ≤ 32
      · have l0c : wr.cell? ⟨w.heap.size, 0, none⟩ = some (.bool x0) := HV.out.b0.cell 0
        have l1c : wr.cell? ⟨w.heap.size, 1, none⟩ = some (.int .i64 n0) := HV.out.b0.cell 1
        have l2c : wr.cell? ⟨w.heap.size, 2, none⟩ = some (.bool x1) := HV.out.b0.cell 2
        have l3c : wr.cell? ⟨w.heap.size, 3, none⟩ = some (.int .i64 n1) := HV.out.b0.cell 3
        have l4c : wr.cell? ⟨w.heap.size, 4, none⟩ = some (.bool x2) := HV.out.b0.cell 4
        have l5c : wr.cell? ⟨w.heap.size, 5, none⟩ = some (.int .i64 n2) := HV.out.b0.cell 5
        obtain ⟨wo, rfl⟩ : ∃ wo : World, wo = wr := ⟨_, rfl⟩
        go_wp2_with fail
        clear l0c l1c l2c l3c l4c l5c
        go_loopw [6, 20] (fun o i wr => ∃ p : Nat, p ≤ 3 ∧ i = .int .i64 p ∧ o = .bool (ownNTo p x0 x1 x2 n0 n1 n2 j) ∧ VarL w #[.bool x0, .int .i64 n0, .bool x1, .int .i64 n1, .bool x2, .int .i64 n2] a c wr) (fun _ i _ => 3 - (intOf i).toNat)
        case atStart => exact ⟨0, by omega, rfl, by rw [ownNTo_zero], HV.out⟩
        case round =>
          obtain ⟨p, hp, rfl, rfl, hI⟩ := hrel
          have HI := Lib.hid hI
          clear hI
          by_cases hp3 : p < 3
          · obtain ⟨v, n, s, hget, hidx, _⟩ := fieldsL x0 x1 x2 n0 n1 n2 0 0 0 hp3
            have HM := Lib.hid (ownNTo_succ hp3 x0 x1 x2 n0 n1 n2 j hget)
            clear hget
            generalize ownNTo p x0 x1 x2 n0 n1 n2 j = o at HM
            cases o
            · cases v
              · go_wp2_with fail
                go_roundw
                case rel => exact ⟨p + 1, by omega, by go_num, by rw [HM.out]; rfl, HI.out.step ((Kept.refl _ _).alloc _)⟩
                case measure => simp [intOf]; omega
              · by_cases en : n = (j : Int)
                · subst en
                  go_wp2_with fail
                  go_roundw
                  case rel => exact ⟨p + 1, by omega, by go_num, by rw [HM.out]; simp, HI.out.step ((Kept.refl _ _).alloc _)⟩
                  case measure => simp [intOf]; omega
                · have hn : (n == (j : Int)) = false := by simpa using en
                  clear en
                  go_wp2_with fail
                  go_roundw
                  case rel => exact ⟨p + 1, by omega, by go_num, by rw [HM.out, hn]; rfl, HI.out.step ((Kept.refl _ _).alloc _)⟩
                  case measure => simp [intOf]; omega
            · go_wp2_with fail
              go_roundw
              case rel => exact ⟨p + 1, by omega, by go_num, by rw [HM.out]; rfl, HI.out.step ((Kept.refl _ _).alloc _)⟩
              case measure => simp [intOf]; omega
          · obtain rfl : p = 3 := by omega
            rw [ownNTo_three]
            have hm := HMem.out (j : Int)
            cases ho : ownN x0 x1 x2 n0 n1 n2 (j : Int)
            · rw [ho] at hm
              have HB2 := Lib.hid (HBl.out.no (fun h => by have := hm.1 h; cases this))
              clear hm ho
              go_wp2_with fail
              go_roundw
              case rel => exact ⟨j + 1, m, by omega, by omega, by go_num, rfl, by simpa using HB2.out, HI.out⟩
              case measure => simp [intOf]; omega
            · rw [ho] at hm
              obtain ⟨q1, q2, q3⟩ := HBl.out.yes HRise.out (hm.2 rfl)
              rcases HI.out.told with h0 | ⟨g, rfl, hcell⟩
              · rw [h0] at q1; cases q1
              · have cg := hcell m _ q2
                have hml : m < len := by rw [HN.out]; exact q1
                have hl3 : len ≤ 3 := by rw [HN.out]; exact HLen.out
                have HB2 := Lib.hid q3
                clear hm ho hcell q1 q2 q3
                go_wp2_with fail
                go_roundw
                case rel => exact ⟨j + 1, m + 1, by omega, by omega, by go_num, by go_num, by simpa using HB2.out, HI.out⟩
                case measure => simp [intOf]; omega
      · obtain rfl : j = 33 := by omega
        have hml : m = len := by rw [HN.out]; exact HBl.out.all (fun x hx => (HRange.out x hx).2)
        subst hml
        go_wp2_with fail
        refine (HA.out _).mono ?_
        rintro e w9 ⟨rfl, k9⟩
        go_wp2_with fail
        go_ret
        exact ⟨rfl, HV.out.kept.trans k9 (fun _ _ g => g)⟩

set_option maxRecDepth 100000 in
theorem termVars_lifted (os : Os) (started : os.Started) (H : Type) (enc : TypeId × Value → H) :
    ReturnsInHanded {} Try.checked os 6 .any (Rows.termVarsSpec.pre6 enc Try.prog Try.f6 Rows.termVarsRow.domain false) (Rows.termVarsSpec.post enc Try.prog Try.f6 false true false false) := by
  refine returnsInHanded_of_change (C := Try.checked) own started (by kernel_rfl) Try.func6
    (ChangeSpec.witness6 (enc := enc) (C := Try.checked) false ⟨#[], #[(valL false false false 0 0 0 : Value)], []⟩ 8 (by kernel_rfl) (by kernel_rfl) (by kernel_rfl) (by kernel_rfl)) ?_
  intro W base args ds gs before hval0 hW hcnd _
  have hval : ∀ (j : Nat) t v, Try.f6.params[j]? = some t → args[j]? = some v → Value.okWide Try.prog W .any base t v := hval0
  have hW' := hW
  obtain ⟨p, q, hA0, hV, rfl, hfz, hnd⟩ := hW
  have hA : DataW.TrodAll enc Try.prog W 0 (fun _ => true) true Try.f6.params.toList args.toList ds p := hA0
  rw [Try.params6] at hA hval
  obtain ⟨v0, vs0, d0, ds0, p0, q0, hargs, rfl, rfl, h0, r0⟩ := trodAll_cons hA
  obtain ⟨rfl, rfl, rfl⟩ := trodAll_nil r0
  obtain rfl : args = #[v0] := by cases args; simp_all
  obtain ⟨rfl, rfl⟩ := trodVars_none hV
  have lt0 : ∀ x ∈ p0, x.block < W.heap.size := by obtain ⟨m, hm⟩ := h0; exact DataW.trod_lt m _ _ _ hm
  have g0 := h0
  obtain ⟨a0, b0, c0, k0, l0, m0, rfl⟩ := open_L (hval 0 30 v0 rfl rfl) g0
  refine (varsLaw_any a0 b0 c0 k0 l0 m0 W).mono fun e W' ⟨he, hk⟩ => ?_
  subst he
  exact ⟨_, rfl, _, _, _, [], _, [], hW', trodAll_mk1 (shut_bool Try.underlying4 _), trodAll_cons_mk (Below.trod laidOut (by kernel_rfl) (of_decide_eq_true (by kernel_rfl)) h0 hk.toBelow lt0) (trodAll_mk0), rfl, hk.toBelow.frame _, fun h => by cases h⟩

theorem termVars_holds : Rows.TermVarsSaid :=
  OpenClaim.holds_of_wide 6 Try.f6 rfl rfl rfl rfl rfl rfl rfl ⟨rfl, rfl, rfl, rfl, rfl⟩ rfl rfl rfl rfl rfl (by kernel_rfl) Try.func6 (by kernel_rfl)
    (of_decide_eq_true (by kernel_rfl)) (by unfold Func.isWrapper; first | (rw [if_neg (of_decide_eq_false (by kernel_rfl))]; exact ⟨rfl, rfl⟩) | (rw [if_pos (by decide +kernel)]; kernel_rfl))
    (fun os started H enc _ => termVars_lifted os started H enc)
#print axioms termVars_holds
end Go.Proofs.Ytkfijbinaidaiaa
