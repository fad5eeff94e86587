/- RuleChecks, given that the program's Check and Ids tell what the document says. -/
import Derived.Test.YtpdofapbbpihlaaDAwake
import Derived.Deep.RegionHeld3
namespace Go.Proofs.Ytpdofapbbpihlaa
open Go.RowKit

/-- What is read in a region of a law: a rule, boxed; and nothing that was there has changed. -/
abbrev SeenR (w0 : World) (B : Nat) (nm : ByteArray) (v : Value) (w' : World) : Prop := w'.cell? ⟨B, 0, none⟩ = some (.string nm) ∧ w'.cell? ⟨B, 1, none⟩ = some v ∧ Kept Nil w0 w'
theorem seenR_kept {w0 w w' : World} {B : Nat} {nm : ByteArray} {v : Value} (kk : Kept Nil w w') (h : SeenR w0 B nm v w) : SeenR w0 B nm v w' := ⟨kk.cellOf h.1, kk.cellOf h.2.1, h.2.2.trans kk (fun _ _ g => g)⟩
theorem seenR_k {w0 w : World} {B : Nat} {nm : ByteArray} {v : Value} (h : SeenR w0 B nm v w) : Kept Nil w0 w := h.2.2
set_option maxHeartbeats 4000000 in
theorem checksRule_any (hCheck : CheckOK) (hIds : IdsOK) (nm : ByteArray) (hnm : nm.size ≤ maxLen) (l : List Sh) (a : Option Addr) (cap : Nat) (_hcap : l.length ≤ cap ∧ cap ≤ maxLen) (w : World) (h : Holds cA w (fun b _ => b < w.heap.size) (.slice a l.length cap) l) :
    Calls Try.prog 3 #[vRule nm (.slice a l.length cap)] w fun e w' => e = .returned (.bool true) ∧ Kept Nil w w' := by
  have HA := Lib.hid (fun W => awakeRule_any hCheck hIds W)
  have CS := Lib.hid (fun w' (k : Kept Nil w w') => smallRule_any 60 (by decide) nm hnm l _ a cap w' (h.keptN k) (fun b o hb => Nat.lt_of_lt_of_le hb k.size))
  unfold BoolEnd at CS
  have CC : Hid (∀ w', Kept Nil w w' → countL l ≤ 60 ∧ nm.size ≤ 200 → Calls Try.prog 9 #[vRule nm (.slice a l.length cap)] w' fun e w'' => e = .returned (.int .i64 (chkRule (okName nm) l)) ∧ Kept Nil w' w'') := Lib.hid fun w' k hc => hCheck nm l _ a cap w' hc.2 hc.1 (h.keptN k)
  have CR : Hid (∀ w', Kept Nil w w' → countL l ≤ 60 ∧ nm.size ≤ 200 → Calls Try.prog 11 #[vRule nm (.slice a l.length cap)] w' fun e w'' => ∃ a' cap', e = .returned (vRule nm (.slice a' l.length cap')) ∧ Holds cR w'' (okM w'.heap.size w'') (.slice a' l.length cap') l ∧ Kept Nil w' w'') := Lib.hid fun w' k hc => refRuleOf_any nm l (by omega) _ a cap w' (h.keptN k)
  have CK : Hid (∀ w' ok' a' cap', countL l ≤ 60 ∧ nm.size ≤ 200 → Holds cR w' ok' (.slice a' l.length cap') l → Calls Try.prog 10 #[vRule nm (.slice a' l.length cap')] w' fun e w'' => e = .returned (.int .i64 (chkRule (okName nm) l)) ∧ Kept Nil w' w'') := Lib.hid fun w' ok' a' cap' hc hh => refRule_any nm hnm l (by omega) ok' a' cap' w' hh
  clear hCheck hIds h hnm
  generalize chkRule (okName nm) l = q at CC CK
  obtain ⟨len, hlen⟩ : ∃ len, l.length = len := ⟨_, rfl⟩
  rw [hlen] at CS CC CR CK ⊢
  clear hlen
  generalize hT : (countL l ≤ 60 ∧ nm.size ≤ 200) = T at CS CC CR CK
  clear hT
  have K0 := Lib.hid ((Kept.refl Nil w).alloc (.cells #[.string nm, .slice a len cap] 24))
  have B0 := Lib.hid (Blk.new w 24 #[.string nm, .slice a len cap])
  go_enter Try.func3, Try.ntmps3
  go_wp2_with fail
  refine (CS.out _ K0.out).mono ?_
  rintro e w1 ⟨b, rfl, k1, hb⟩
  have K1 := Lib.hid (K0.out.trans k1 (fun _ _ g => g))
  have B1 := Lib.hid (B0.out.kept k1 id)
  have HB := Lib.hid hb
  clear k1 hb K0 B0 CS
  cases b
  · go_wp2_with fail
    refine (HA.out _).mono ?_
    rintro e w3 ⟨rfl, k3⟩
    go_wp2_with fail
    go_ret
    exact ⟨rfl, K1.out.trans k3 (fun _ _ g => g)⟩
  · have HT := HB.out rfl
    have CC2 := Lib.hid (fun w' k => CC.out w' k HT)
    have CR2 := Lib.hid (fun w' k => CR.out w' k HT)
    have CK2 := Lib.hid (fun w' ok' a' cap' hh => CK.out w' ok' a' cap' HT hh)
    clear CC CR CK HB HT
    go_wp2_with fail
    have S0 : Hid (SeenR w w.heap.size nm (.slice a len cap) w1.drew) := Lib.hid ⟨B1.out.drew.cell 0, B1.out.drew.cell 1, K1.out.drew⟩
    go_region_held3 (SeenR w w.heap.size nm (.slice a len cap))
      (first | (with_reducible assumption) | (with_reducible exact S0.out) | (with_reducible exact seenR_kept k11 (by with_reducible assumption)) | (with_reducible exact seenR_kept k10 (by with_reducible assumption)) | (with_reducible exact seenR_kept k9 (by with_reducible assumption)) | (with_reducible exact seenR_kept k8 (by with_reducible assumption)))
      (first
        | (go_at_call 9; refine (CC2.out _ (seenR_k (by with_reducible assumption))).mono ?_; rintro e w8 ⟨rfl, k8⟩; (first | (have h9 := h9.keptN k8) | skip))
        | (go_at_call 11; refine (CR2.out _ (seenR_k (by with_reducible assumption))).mono ?_; rintro e w9 ⟨a9, c9, rfl, h9, k9⟩)
        | (go_at_call 10; (with_reducible refine (CK2.out _ _ _ _ h9).mono ?_); rintro e w10 ⟨rfl, k10⟩)
        | (go_at_call 8; refine (HA.out _).mono ?_; rintro e w11 ⟨rfl, k11⟩))
    all_goals
      have HK := Lib.hid (seenR_k (by with_reducible assumption))
      go_wp2_with fail
      go_ret
      exact ⟨rfl, HK.out⟩
end Go.Proofs.Ytpdofapbbpihlaa
