/- Whatever condition comes in, at whatever depth, CondChecks returns true, and writes nothing that was there. No condition. -/
import Derived.Test.YtokpgpkdhcehbaaCRefCheck
import Derived.Test.YtokpgpkdhcehbaaCSmall
import Derived.Test.YtokpgpkdhcehbaaCOpen
namespace Go.Proofs.Ytokpgpkdhcehbaa
open Go.RowKit Go.ChangeShapes Go.WideShapes Go.ChangeAt

/-- What is read in a region of a law: what came in, boxed; and nothing that was there has changed. -/
abbrev Seen8 (w0 : World) (B : Nat) (k : Int) (x0 x1 x2 : Bool) (n0 n1 n2 : Int) (v : Value) (w' : World) : Prop :=
  w'.cell? ⟨B, 0, none⟩ = some (.int .i64 k) ∧ w'.cell? ⟨B, 1, none⟩ = some (.bool x0) ∧ w'.cell? ⟨B, 2, none⟩ = some (.int .i64 n0) ∧ w'.cell? ⟨B, 3, none⟩ = some (.bool x1) ∧ w'.cell? ⟨B, 4, none⟩ = some (.int .i64 n1) ∧ w'.cell? ⟨B, 5, none⟩ = some (.bool x2) ∧ w'.cell? ⟨B, 6, none⟩ = some (.int .i64 n2) ∧ w'.cell? ⟨B, 7, none⟩ = some v ∧ Kept Nil w0 w'
theorem Seen8.of {w0 w : World} {B : Nat} {k : Int} {x0 x1 x2 : Bool} {n0 n1 n2 : Int} {v : Value} (h : Blk w B 27 (arrA ⟨k, x0, x1, x2, n0, n1, n2⟩ v)) (kk : Kept Nil w0 w) : Seen8 w0 B k x0 x1 x2 n0 n1 n2 v w :=
  ⟨h.cell 0, h.cell 1, h.cell 2, h.cell 3, h.cell 4, h.cell 5, h.cell 6, h.cell 7, kk⟩
theorem seen8_kept {w0 w w' : World} {B : Nat} {k : Int} {x0 x1 x2 : Bool} {n0 n1 n2 : Int} {v : Value} (kk : Kept Nil w w') (h : Seen8 w0 B k x0 x1 x2 n0 n1 n2 v w) : Seen8 w0 B k x0 x1 x2 n0 n1 n2 v w' :=
  ⟨kk.cellOf h.1, kk.cellOf h.2.1, kk.cellOf h.2.2.1, kk.cellOf h.2.2.2.1, kk.cellOf h.2.2.2.2.1, kk.cellOf h.2.2.2.2.2.1, kk.cellOf h.2.2.2.2.2.2.1, kk.cellOf h.2.2.2.2.2.2.2.1, h.2.2.2.2.2.2.2.2.trans kk (fun _ _ g => g)⟩

theorem seen8_k {w0 w : World} {B : Nat} {k : Int} {x0 x1 x2 : Bool} {n0 n1 n2 : Int} {v : Value} (h : Seen8 w0 B k x0 x1 x2 n0 n1 n2 v w) : Kept Nil w0 w := h.2.2.2.2.2.2.2.2

set_option maxHeartbeats 4000000 in
theorem checksLaw_any (s : Sh) (a : Option Addr) (cap : Nat) (d : Int) (w : World) (h : Holds cA w (fun b _ => b < w.heap.size) (.slice a s.subs.length cap) s.subs) :
    Calls Try.prog 3 #[vA s.hd (.slice a s.subs.length cap), .int .i64 d] w fun e w' => e = .returned (.bool true) ∧ Kept Nil w w' := by
  have HA := Lib.hid (fun W => awake_any W)
  have CS := Lib.hid (fun w' (k : Kept Nil w w') => small60_any s _ a cap w' (h.keptN k) (fun b o hb => Nat.lt_of_lt_of_le hb k.size))
  obtain ⟨m, hm⟩ : ∃ m, m = max d 1 := ⟨_, rfl⟩
  have hmx : (if d < 1 then 1 else d) = m := by rw [hm]; omega
  have hm1 : 1 ≤ m := by rw [hm]; omega
  have CC := Lib.hid (fun w' (k : Kept Nil w w') (hc : s.count ≤ 60) => check_any s (by omega) _ a cap w' d (h.keptN k))
  rw [← hm] at CC
  have CR : Hid (∀ w', Kept Nil w w' → s.count ≤ 60 → Calls Try.prog 11 #[vA s.hd (.slice a s.subs.length cap)] w' fun e w'' => ∃ a' cap', e = .returned (vR s.hd (.slice a' s.subs.length cap')) ∧ Holds cR w'' (fun _ _ => True) (.slice a' s.subs.length cap') s.subs ∧ Kept Nil w' w'') := Lib.hid fun w' k hc =>
    (refT_any s (by omega) _ a cap w' (h.keptN k)).mono fun e w'' ⟨a', cap', h1, h2, h3⟩ => ⟨a', cap', h1, h2.mono (fun _ _ _ => trivial), h3⟩
  have CK : Hid (∀ w' a' cap', s.count ≤ 60 → Holds cR w' (fun _ _ => True) (.slice a' s.subs.length cap') s.subs → Calls Try.prog 10 #[vR s.hd (.slice a' s.subs.length cap'), .int .i64 m] w' fun e w'' => e = .returned (.int .i64 (s.chk m)) ∧ Kept Nil w' w'') := Lib.hid fun w' a' cap' hc hh =>
    refCheck_any s (by omega) _ a' cap' w' m hm1 hh
  clear hm h
  generalize s.chk m = q at CC CK
  generalize s.subs = subs at CS CC CR CK ⊢
  obtain ⟨len, hlen⟩ : ∃ len, subs.length = len := ⟨_, rfl⟩
  rw [hlen] at CS CC CR CK ⊢
  clear hlen
  generalize s.count = cnt at CS CC CR CK
  generalize s.hd = hd at CS CC CR CK ⊢
  obtain ⟨k, x0, x1, x2, n0, n1, n2⟩ := hd
  have K0 := Lib.hid ((Kept.refl Nil w).alloc (.cells (arrA ⟨k, x0, x1, x2, n0, n1, n2⟩ (.slice a len cap)) 27))
  have B0 := Lib.hid (Blk.new w 27 (arrA ⟨k, x0, x1, x2, n0, n1, n2⟩ (.slice a len cap)))
  go_enter Try.func3, Try.ntmps3
  go_wp2_with fail
  refine (CS.out _ K0.out).mono ?_
  rintro e w2 ⟨r, rfl, k2, hr⟩
  have K2 := Lib.hid (K0.out.trans k2 (fun _ _ g => g))
  have B2 := Lib.hid (B0.out.kept k2 id)
  have HR := Lib.hid hr
  clear k2 hr K0 B0
  cases r
  · go_wp2_with fail
    refine (HA.out _).mono ?_
    rintro e w3 ⟨rfl, k3⟩
    go_wp2_with fail
    go_ret
    exact ⟨rfl, K2.out.trans k3 (fun _ _ g => g)⟩
  · have CC2 := Lib.hid (fun w' k => CC.out w' k (HR.out rfl))
    have CR2 := Lib.hid (fun w' k => CR.out w' k (HR.out rfl))
    have CK2 := Lib.hid (fun w' a' cap' hh => CK.out w' a' cap' (HR.out rfl) hh)
    clear CC CR CK HR CS
    go_wp2_with fail
    have S0 := Lib.hid (Seen8.of B2.out.drew K2.out.drew)
    go_region_held3 (Seen8 w w.heap.size k x0 x1 x2 n0 n1 n2 (.slice a len cap))
      (first | (with_reducible assumption) | (with_reducible exact S0.out) | (with_reducible exact seen8_kept k11 (by with_reducible assumption)) | (with_reducible exact seen8_kept k10 (by with_reducible assumption)) | (with_reducible exact seen8_kept k9 (by with_reducible assumption)) | (with_reducible exact seen8_kept k8 (by with_reducible assumption)))
      (first
        | (go_at_call 9; refine (CC2.out _ (seen8_k (by with_reducible assumption))).mono ?_; rintro e w8 ⟨rfl, k8⟩; first | (have h8 := h9.keptN k8) | skip)
        | (go_at_call 11; refine (CR2.out _ (seen8_k (by with_reducible assumption))).mono ?_; rintro e w9 ⟨a9, c9, rfl, h9, k9⟩)
        | (go_at_call 10; (first | (with_reducible refine (CK2.out _ _ _ h9).mono ?_) | (with_reducible refine (CK2.out _ _ _ h8).mono ?_)); rintro e w10 ⟨rfl, k10⟩)
        | (go_at_call 8; refine (HA.out _).mono ?_; rintro e w11 ⟨rfl, k11⟩))
    all_goals
      have HK := Lib.hid (seen8_k (by with_reducible assumption))
      go_wp2_with fail
      go_ret
      exact ⟨rfl, HK.out⟩

set_option maxRecDepth 100000 in
theorem condChecks_lifted (os : Os) (started : os.Started) (H : Type) (enc : TypeId × Value → H) :
    ReturnsInHanded {} Try.checked os 3 .any (Rows.condChecksSpec.pre6 enc Try.prog Try.f3 Rows.condChecksRow.domain false) (Rows.condChecksSpec.post enc Try.prog Try.f3 false true false false) := by
  refine returnsInHanded_of_change (C := Try.checked) own started (by kernel_rfl) Try.func3
    (ChangeSpec.witness6 (enc := enc) (C := Try.checked) false ⟨#[], #[(vA ⟨0, false, false, false, 0, 0, 0⟩ (.slice none 0 0) : Value), (.int .i64 0 : Value)], []⟩ 8 (by kernel_rfl) (by kernel_rfl) (by kernel_rfl) (by kernel_rfl)) ?_
  intro W base args ds gs before hval0 hW hcnd _
  have hval : ∀ (j : Nat) t v, Try.f3.params[j]? = some t → args[j]? = some v → Value.okWide Try.prog W .any base t v := hval0
  have hW' := hW
  obtain ⟨p, q, hA0, hV, rfl, hfz, hnd⟩ := hW
  have hA : DataW.TrodAll enc Try.prog W 0 (fun _ => true) true Try.f3.params.toList args.toList ds p := hA0
  rw [Try.params3] at hA hval
  obtain ⟨v0, vs0, d0, ds0, p0, q0, hargs, rfl, rfl, h0, r0⟩ := trodAll_cons hA
  obtain ⟨v1, vs1, d1, ds1, p1, q1, rfl, rfl, rfl, h1, r1⟩ := trodAll_cons r0
  obtain ⟨rfl, rfl, rfl⟩ := trodAll_nil r1
  obtain rfl : args = #[v0, v1] := by cases args; simp_all
  obtain ⟨rfl, rfl⟩ := trodVars_none hV
  have lt0 : ∀ x ∈ p0, x.block < W.heap.size := by obtain ⟨m, hm⟩ := h0; exact DataW.trod_lt m _ _ _ hm
  have g0 := h0
  obtain ⟨s0, a0, c0, rfl, hh0⟩ := open_C (hval 0 27 v0 rfl rfl) g0
  have lt1 : ∀ x ∈ p1, x.block < W.heap.size := by obtain ⟨m, hm⟩ := h1; exact DataW.trod_lt m _ _ _ hm
  have g1 := h1
  obtain ⟨x1, rfl⟩ := okWide_int Try.underlying3 (hval 1 3 v1 rfl rfl)
  refine (checksLaw_any s0 a0 c0 x1 W hh0).mono fun e W' ⟨he, hk⟩ => ?_
  subst he
  exact ⟨_, rfl, _, _, _, [], _, [], hW', trodAll_mk1 (shut_bool Try.underlying4 _), trodAll_cons_mk (Below.trod laidOut (by kernel_rfl) (of_decide_eq_true (by kernel_rfl)) h0 hk.toBelow lt0) (trodAll_cons_mk (Below.trod laidOut (by kernel_rfl) (of_decide_eq_true (by kernel_rfl)) h1 hk.toBelow lt1) (trodAll_mk0)), rfl, hk.toBelow.frame _, fun h => by cases h⟩

theorem condChecks_holds : Rows.CondChecksSaid :=
  OpenClaim.holds_of_wide 3 Try.f3 rfl rfl rfl rfl rfl rfl rfl ⟨rfl, rfl, rfl, rfl, rfl⟩ rfl rfl rfl rfl rfl (by kernel_rfl) Try.func3 (by kernel_rfl)
    (of_decide_eq_true (by kernel_rfl)) (by unfold Func.isWrapper; first | (rw [if_neg (of_decide_eq_false (by kernel_rfl))]; exact ⟨rfl, rfl⟩) | (rw [if_pos (by decide +kernel)]; kernel_rfl))
    (fun os started H enc _ => condChecks_lifted os started H enc)
#print axioms condChecks_holds
end Go.Proofs.Ytokpgpkdhcehbaa
