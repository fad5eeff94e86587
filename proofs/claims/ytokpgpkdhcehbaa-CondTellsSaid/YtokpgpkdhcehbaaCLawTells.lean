/- Whatever condition comes in, CondTells returns true, and writes nothing that was there. No condition. -/
import Derived.Test.YtokpgpkdhcehbaaCAllVars
import Derived.Test.YtokpgpkdhcehbaaCRefHas
import Derived.Test.YtokpgpkdhcehbaaCSmall
import Derived.Test.YtokpgpkdhcehbaaCOpen
namespace Go.Proofs.Ytokpgpkdhcehbaa
open Go.RowKit Go.ChangeShapes Go.WideShapes Go.ChangeAt

/-- What is read in a region of a law: what came in, boxed; and nothing that was there has changed. -/
abbrev SeenT (w0 : World) (B : Nat) (k : Int) (x0 x1 x2 : Bool) (n0 n1 n2 : Int) (v : Value) (w' : World) : Prop :=
  w'.cell? ⟨B, 0, none⟩ = some (.int .i64 k) ∧ w'.cell? ⟨B, 1, none⟩ = some (.bool x0) ∧ w'.cell? ⟨B, 2, none⟩ = some (.int .i64 n0) ∧ w'.cell? ⟨B, 3, none⟩ = some (.bool x1) ∧ w'.cell? ⟨B, 4, none⟩ = some (.int .i64 n1) ∧ w'.cell? ⟨B, 5, none⟩ = some (.bool x2) ∧ w'.cell? ⟨B, 6, none⟩ = some (.int .i64 n2) ∧ w'.cell? ⟨B, 7, none⟩ = some v ∧ Kept Nil w0 w'
theorem SeenT.of {w0 w : World} {B : Nat} {k : Int} {x0 x1 x2 : Bool} {n0 n1 n2 : Int} {v : Value} (h : Blk w B 27 (arrA ⟨k, x0, x1, x2, n0, n1, n2⟩ v)) (kk : Kept Nil w0 w) : SeenT w0 B k x0 x1 x2 n0 n1 n2 v w :=
  ⟨h.cell 0, h.cell 1, h.cell 2, h.cell 3, h.cell 4, h.cell 5, h.cell 6, h.cell 7, kk⟩
theorem seenT_kept {w0 w w' : World} {B : Nat} {k : Int} {x0 x1 x2 : Bool} {n0 n1 n2 : Int} {v : Value} (kk : Kept Nil w w') (h : SeenT w0 B k x0 x1 x2 n0 n1 n2 v w) : SeenT w0 B k x0 x1 x2 n0 n1 n2 v w' :=
  ⟨kk.cellOf h.1, kk.cellOf h.2.1, kk.cellOf h.2.2.1, kk.cellOf h.2.2.2.1, kk.cellOf h.2.2.2.2.1, kk.cellOf h.2.2.2.2.2.1, kk.cellOf h.2.2.2.2.2.2.1, kk.cellOf h.2.2.2.2.2.2.2.1, h.2.2.2.2.2.2.2.2.trans kk (fun _ _ g => g)⟩

theorem seenT_k {w0 w : World} {B : Nat} {k : Int} {x0 x1 x2 : Bool} {n0 n1 n2 : Int} {v : Value} (h : SeenT w0 B k x0 x1 x2 n0 n1 n2 v w) : Kept Nil w0 w := h.2.2.2.2.2.2.2.2

/-- What stands in memory while the law goes on: the condition, boxed, and what Vars told. -/
structure TellL (w : World) (arr : Array Value) (a : Option Addr) (c : List Int) (W : World) : Prop where
  kept : Kept Nil w W
  b0 : Blk W w.heap.size 27 arr
  told : c = [] ∨ ∃ g, a = some ⟨g, 0, none⟩ ∧ ∀ i x, c[i]? = some x → W.cell? ⟨g, i, none⟩ = some (.int .i64 x)
theorem TellL.step {w : World} {arr : Array Value} {a : Option Addr} {c : List Int} {W W' : World} (h : TellL w arr a c W) (k : Kept Nil W W') : TellL w arr a c W' := by
  refine ⟨h.kept.trans k (fun _ _ g => g), h.b0.kept k id, ?_⟩
  rcases h.told with h0 | ⟨g, e, hc⟩
  · exact .inl h0
  · exact .inr ⟨g, e, fun i x hx => k.cellOf (hc i x hx)⟩

set_option maxHeartbeats 4000000 in
theorem tellsLaw_any (s : Sh) (a : Option Addr) (cap : Nat) (w : World) (h : Holds cA w (fun b _ => b < w.heap.size) (.slice a s.subs.length cap) s.subs) :
    Calls Try.prog 4 #[vA s.hd (.slice a s.subs.length cap)] w fun e w' => e = .returned (.bool true) ∧ Kept Nil w w' := by
  have HA := Lib.hid (fun W => awake_any W)
  have CS := Lib.hid (fun w' (k : Kept Nil w w') => small60_any s _ a cap w' (h.keptN k) (fun b o hb => Nat.lt_of_lt_of_le hb k.size))
  have CR : Hid (∀ w', Kept Nil w w' → s.count ≤ 60 → Calls Try.prog 11 #[vA s.hd (.slice a s.subs.length cap)] w' fun e w'' => ∃ a' cap', e = .returned (vR s.hd (.slice a' s.subs.length cap')) ∧ Holds cR w'' (okM w'.heap.size w'') (.slice a' s.subs.length cap') s.subs ∧ Kept Nil w' w'') := Lib.hid fun w' k hc =>
    refT_any s (by omega) _ a cap w' (h.keptN k)
  have CK : Hid (∀ w' ok a' cap', s.count ≤ 60 → Holds cR w' ok (.slice a' s.subs.length cap') s.subs → Calls Try.prog 10 #[vR s.hd (.slice a' s.subs.length cap'), .int .i64 1] w' fun e w'' => e = .returned (.int .i64 (s.chk 1)) ∧ Kept Nil w' w'') := Lib.hid fun w' ok a' cap' hc hh =>
    refCheck_any s (by omega) _ a' cap' w' 1 (by omega) hh
  have CH : Hid (∀ w' ok a' cap' (v : Int), s.count ≤ 60 → Holds cR w' ok (.slice a' s.subs.length cap') s.subs → Calls Try.prog 13 #[vR s.hd (.slice a' s.subs.length cap'), .int .i64 v] w' fun e w'' => e = .returned (.bool (s.has v)) ∧ Kept Nil w' w'') := Lib.hid fun w' ok a' cap' v hc hh =>
    refHas_any s (by omega) v _ a' cap' w' hh
  have CZ : Hid (∀ w' ok a' cap', s.count ≤ 60 → Holds cR w' ok (.slice a' s.subs.length cap') s.subs → Calls Try.prog 15 #[vR s.hd (.slice a' s.subs.length cap')] w' fun e w'' => e = .returned (.int .i64 (s.count : Int)) ∧ Kept Nil w' w'') := Lib.hid fun w' ok a' cap' hc hh =>
    refSize_any s (by omega) _ a' cap' w' hh
  have CY : Hid (∀ w', Kept Nil w w' → s.count ≤ 60 → s.chk 1 = 0 → Calls Try.prog 14 #[vA s.hd (.slice a s.subs.length cap)] w' fun e w'' => e = .returned (.int .i64 (s.count : Int)) ∧ Kept Nil w' w'') := Lib.hid fun w' k hc h1 => by
    have := bigSize_any s (by omega) _ a cap w' (h.keptN k)
    rwa [if_pos h1] at this
  have CV : Hid (∀ w', Kept Nil w w' → s.count ≤ 60 → s.chk 1 = 0 → Calls Try.prog 12 #[vA s.hd (.slice a s.subs.length cap)] w' fun e w'' => ∃ a' cap', e = .returned (.slice a' s.told.length cap') ∧ Kept Nil w' w'' ∧ (s.told = [] ∨ ∃ g, a' = some ⟨g, 0, none⟩ ∧ ∀ i x, s.told[i]? = some x → w''.cell? ⟨g, i, none⟩ = some (.int .i64 x))) := Lib.hid fun w' k hc h1 =>
    bigVars_any s (by omega) h1 _ a cap w' (h.keptN k)
  have HF := Lib.hid (fun (h1 : s.chk 1 = 0) => told_facts s h1)
  have HLen := Lib.hid (fun (h1 : s.count ≤ 60) => show s.told.length ≤ 180 by have := told_len s; omega)
  clear h
  generalize hhas : s.has = has at CH HF
  clear hhas
  generalize s.chk 1 = q at CK CY CV HF
  generalize s.subs = subs at CS CR CK CH CZ CY CV ⊢
  obtain ⟨len, hlen⟩ : ∃ len, subs.length = len := ⟨_, rfl⟩
  rw [hlen] at CS CR CK CH CZ CY CV ⊢
  clear hlen
  generalize s.count = cnt at CS CR CK CH CZ CY CV HLen
  generalize s.hd = hd at CS CR CK CH CZ CY CV ⊢
  generalize s.told = c at CV HF HLen
  obtain ⟨k, x0, x1, x2, n0, n1, n2⟩ := hd
  have K0 := Lib.hid ((Kept.refl Nil w).alloc (.cells (arrA ⟨k, x0, x1, x2, n0, n1, n2⟩ (.slice a len cap)) 27))
  have B0 := Lib.hid (Blk.new w 27 (arrA ⟨k, x0, x1, x2, n0, n1, n2⟩ (.slice a len cap)))
  go_enter Try.func4, Try.ntmps4
  go_wp2_with fail
  refine (CS.out _ K0.out).mono ?_
  rintro e w2 ⟨r, rfl, k2, hr⟩
  have K2 := Lib.hid (K0.out.trans k2 (fun _ _ g => g))
  have B2 := Lib.hid (B0.out.kept k2 id)
  have HR := Lib.hid hr
  clear k2 hr K0 B0 CS
  cases r
  · go_wp2_with fail
    refine (HA.out _).mono ?_
    rintro e w3 ⟨rfl, k3⟩
    go_wp2_with fail
    go_ret
    exact ⟨rfl, K2.out.trans k3 (fun _ _ g => g)⟩
  have HCn := Lib.hid (HR.out rfl)
  clear HR
  have CR2 := Lib.hid (fun w' k => CR.out w' k HCn.out)
  have CH2 := Lib.hid (fun w' ok a' cap' v hh => CH.out w' ok a' cap' v HCn.out hh)
  have CZ2 := Lib.hid (fun w' ok a' cap' hh => CZ.out w' ok a' cap' HCn.out hh)
  have HL180 := Lib.hid (HLen.out HCn.out)
  clear CR CH CZ HLen
  go_wp2_with (refine wpList_load_AG rfl (.tmp 1) rfl _ _ rfl ⟨k, x0, x1, x2, n0, n1, n2⟩ (.slice a len cap) (World.rangeAt_of_block B2.out 0 8) ?_)
  refine (CR2.out _ K2.out).mono ?_
  rintro e w3 ⟨a3, c3, rfl, h3, k3⟩
  have K3 := Lib.hid (K2.out.trans k3 (fun _ _ g => g))
  have B3 := Lib.hid (B2.out.kept k3 id)
  have H3 := Lib.hid h3
  clear k3 h3 K2 B2
  go_wp2_with fail
  refine (CK.out _ _ _ _ HCn.out H3.out).mono ?_
  rintro e w4 ⟨rfl, k4⟩
  have K4 := Lib.hid (K3.out.trans k4 (fun _ _ g => g))
  have B4 := Lib.hid (B3.out.kept k4 id)
  clear k4 K3 B3 H3 CK
  by_cases hq : q = 0
  rotate_left
  · have hq' : (q == 0) = false := by simpa using hq
    go_wp2_with fail
    refine (HA.out _).mono ?_
    rintro e w5 ⟨rfl, k5⟩
    go_wp2_with fail
    go_ret
    exact ⟨rfl, K4.out.trans k5 (fun _ _ g => g)⟩
  have CY2 := Lib.hid (fun w' k => CY.out w' k HCn.out hq)
  have CV2 := Lib.hid (fun w' k => CV.out w' k HCn.out hq)
  obtain ⟨f1, f2, f3⟩ := HF.out hq
  have HMem := Lib.hid f1
  have HRange := Lib.hid f2
  have HRise := Lib.hid f3
  clear CY CV HF HCn f1 f2 f3
  subst hq
  obtain ⟨tl, htl⟩ : ∃ tl, c.length = tl := ⟨_, rfl⟩
  rw [htl] at CV2 HL180
  have HN := Lib.hid htl
  have hl180 : tl ≤ 180 := HL180.out
  clear htl HL180
  go_wp2_with (first
    | ((with_reducible refine wpList_load_A rfl (.tmp 1) rfl _ _ rfl ⟨k, x0, x1, x2, n0, n1, n2⟩ (.slice a len cap) ?_ ?_)
       · exact World.rangeAt_of_block B4.out 0 8))
  refine (CV2.out _ K4.out).mono ?_
  rintro e w5 ⟨a5, c5, rfl, k5, hc5⟩
  have V5 : Hid (TellL w (arrA ⟨k, x0, x1, x2, n0, n1, n2⟩ (.slice a len cap)) a5 c w5) := Lib.hid ⟨K4.out.trans k5 (fun _ _ g => g), B4.out.kept k5 id, hc5⟩
  clear k5 hc5 K4 B4 CV2
  go_wp2_with fail
  go_loopw [4, 5] (fun kk i wr => ∃ (j m : Nat), 1 ≤ j ∧ j ≤ 33 ∧ i = .int .i64 j ∧ kk = .int .i64 m ∧ Below_ c j m ∧ TellL w (arrA ⟨k, x0, x1, x2, n0, n1, n2⟩ (.slice a len cap)) a5 c wr) (fun _ i _ => 33 - (intOf i).toNat)
  case atStart => exact ⟨1, 0, by omega, by omega, rfl, rfl, Below_.start (fun x hx => (HRange.out x hx).1), V5.out⟩
  case round =>
    obtain ⟨j, m, hj1, hj, rfl, rfl, hb, hV⟩ := hrel
    have HV := Lib.hid hV
    have HBl := Lib.hid hb
    clear hV hb V5
    by_cases hlt : j ≤ 32
    · go_wp2_with ((with_reducible refine wpList_load_A rfl (.tmp 1) rfl _ _ rfl ⟨k, x0, x1, x2, n0, n1, n2⟩ (.slice a len cap) ?_ ?_)
                   · exact World.rangeAt_of_block HV.out.b0 0 8)
      refine (CR2.out _ HV.out.kept).mono ?_
      rintro e w6 ⟨a6, c6, rfl, h6, k6⟩
      have V6 := Lib.hid (HV.out.step k6)
      have H6 := Lib.hid h6
      clear k6 h6
      go_wp2_with fail
      refine (CH2.out _ _ _ _ (j : Int) H6.out).mono ?_
      rintro e w7 ⟨rfl, k7⟩
      have V7 := Lib.hid (V6.out.step k7)
      clear k7 V6 H6
      have hm := HMem.out (j : Int)
      cases ho : has (j : Int)
      · rw [ho] at hm
        have HB2 := Lib.hid (HBl.out.no (fun h => by have := hm.1 h; cases this))
        clear hm ho
        go_wp2_with fail
        go_roundw
        case rel => exact ⟨j + 1, m, by omega, by omega, by go_num, rfl, by simpa using HB2.out, V7.out⟩
        case measure => simp [intOf]; omega
      · rw [ho] at hm
        obtain ⟨q1, q2, q3⟩ := HBl.out.yes HRise.out (hm.2 rfl)
        rcases V7.out.told with h0 | ⟨g, rfl, hcell⟩
        · rw [h0] at q1; cases q1
        · have cg := hcell m _ q2
          have hml : m < tl := by rw [← HN.out]; exact q1
          have HB2 := Lib.hid q3
          clear hm ho hcell q1 q2 q3
          have hge : decide ((tl : Int) ≤ (m : Int)) = false := decide_eq_false (by omega)
          go_wp2_with fail
          go_roundw
          case rel => exact ⟨j + 1, m + 1, by omega, by omega, by go_num, by go_num, by simpa using HB2.out, V7.out⟩
          case measure => simp [intOf]; omega
    · obtain rfl : j = 33 := by omega
      have hml : m = tl := by rw [← HN.out]; exact HBl.out.all (fun x hx => (HRange.out x hx).2)
      subst hml
      go_wp2_with fail
      have S0 := Lib.hid (SeenT.of HV.out.b0.drew HV.out.kept.drew)
      go_region_held3 (SeenT w w.heap.size k x0 x1 x2 n0 n1 n2 (.slice a len cap))
        (first | (with_reducible assumption) | (with_reducible exact S0.out) | (with_reducible exact seenT_kept k11 (by with_reducible assumption)) | (with_reducible exact seenT_kept k10 (by with_reducible assumption)) | (with_reducible exact seenT_kept k9 (by with_reducible assumption)) | (with_reducible exact seenT_kept k8 (by with_reducible assumption)))
        (first
          | (go_at_call 14; refine (CY2.out _ (seenT_k (by with_reducible assumption))).mono ?_; rintro e w8 ⟨rfl, k8⟩; (first | (have h9 := h9.keptN k8) | skip))
          | (go_at_call 11; refine (CR2.out _ (seenT_k (by with_reducible assumption))).mono ?_; rintro e w9 ⟨a9, c9, rfl, h9, k9⟩)
          | (go_at_call 15; (with_reducible refine (CZ2.out _ _ _ _ h9).mono ?_); rintro e w10 ⟨rfl, k10⟩)
          | (go_at_call 8; refine (HA.out _).mono ?_; rintro e w11 ⟨rfl, k11⟩))
      all_goals
        have HK := Lib.hid (seenT_k (by with_reducible assumption))
        go_wp2_with fail
        go_ret
        exact ⟨rfl, HK.out⟩

set_option maxRecDepth 100000 in
theorem condTells_lifted (os : Os) (started : os.Started) (H : Type) (enc : TypeId × Value → H) :
    ReturnsInHanded {} Try.checked os 4 .any (Rows.condTellsSpec.pre6 enc Try.prog Try.f4 Rows.condTellsRow.domain false) (Rows.condTellsSpec.post enc Try.prog Try.f4 false true false false) := by
  refine returnsInHanded_of_change (C := Try.checked) own started (by kernel_rfl) Try.func4
    (ChangeSpec.witness6 (enc := enc) (C := Try.checked) false ⟨#[], #[(vA ⟨0, false, false, false, 0, 0, 0⟩ (.slice none 0 0) : Value)], []⟩ 8 (by kernel_rfl) (by kernel_rfl) (by kernel_rfl) (by kernel_rfl)) ?_
  intro W base args ds gs before hval0 hW hcnd _
  have hval : ∀ (j : Nat) t v, Try.f4.params[j]? = some t → args[j]? = some v → Value.okWide Try.prog W .any base t v := hval0
  have hW' := hW
  obtain ⟨p, q, hA0, hV, rfl, hfz, hnd⟩ := hW
  have hA : DataW.TrodAll enc Try.prog W 0 (fun _ => true) true Try.f4.params.toList args.toList ds p := hA0
  rw [Try.params4] at hA hval
  obtain ⟨v0, vs0, d0, ds0, p0, q0, hargs, rfl, rfl, h0, r0⟩ := trodAll_cons hA
  obtain ⟨rfl, rfl, rfl⟩ := trodAll_nil r0
  obtain rfl : args = #[v0] := by cases args; simp_all
  obtain ⟨rfl, rfl⟩ := trodVars_none hV
  have lt0 : ∀ x ∈ p0, x.block < W.heap.size := by obtain ⟨m, hm⟩ := h0; exact DataW.trod_lt m _ _ _ hm
  have g0 := h0
  obtain ⟨s0, a0, c0, rfl, hh0⟩ := open_C (hval 0 27 v0 rfl rfl) g0
  refine (tellsLaw_any s0 a0 c0 W hh0).mono fun e W' ⟨he, hk⟩ => ?_
  subst he
  exact ⟨_, rfl, _, _, _, [], _, [], hW', trodAll_mk1 (shut_bool Try.underlying4 _), trodAll_cons_mk (Below.trod laidOut (by kernel_rfl) (of_decide_eq_true (by kernel_rfl)) h0 hk.toBelow lt0) (trodAll_mk0), rfl, hk.toBelow.frame _, fun h => by cases h⟩

theorem condTells_holds : Rows.CondTellsSaid :=
  OpenClaim.holds_of_wide 4 Try.f4 rfl rfl rfl rfl rfl rfl rfl ⟨rfl, rfl, rfl, rfl, rfl⟩ rfl rfl rfl rfl rfl (by kernel_rfl) Try.func4 (by kernel_rfl)
    (of_decide_eq_true (by kernel_rfl)) (by unfold Func.isWrapper; first | (rw [if_neg (of_decide_eq_false (by kernel_rfl))]; exact ⟨rfl, rfl⟩) | (rw [if_pos (by decide +kernel)]; kernel_rfl))
    (fun os started H enc _ => condTells_lifted os started H enc)
#print axioms condTells_holds
end Go.Proofs.Ytokpgpkdhcehbaa
