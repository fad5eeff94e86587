/- Layer rule: the law's own Small and Fine. -/
import Derived.Test.YtpdofapbbpihlaaDRef
import Derived.Test.YtpdofapbbpihlaaCSmall
namespace Go.Proofs.Ytpdofapbbpihlaa
open Go.RowKit

/-- A bool; where it is true, something holds. -/
def BoolEnd (T : Prop) (w : World) (e : Ending) (w' : World) : Prop := ∃ b : Bool, e = .returned (.bool b) ∧ Kept Nil w w' ∧ (b = true → T)
set_option maxHeartbeats 1000000 in
theorem smallRule_any (M : Nat) (hM : M ≤ 4000) (nm : ByteArray) (hnm : nm.size ≤ maxLen) (l : List Sh) (ok : Nat → Nat → Prop) (a : Option Addr) (cap : Nat) (w : World) (h : Holds cA w ok (.slice a l.length cap) l) (hok : ∀ b o, ok b o → b < w.heap.size) :
    Calls Try.prog 7 #[vRule nm (.slice a l.length cap), .int .i64 M] w (BoolEnd (countL l ≤ M ∧ nm.size ≤ 200) w) := by
  have C : Hid (∀ w', Kept Nil w w' → Calls Try.prog 17 #[vA zeroH (.slice a l.length cap), .int .i64 ((M : Int) + 1)] w' fun e w'' => ∃ b : Bool, e = .returned (.bool b) ∧ Kept Nil w' w'' ∧ (b = true → 1 + countL l ≤ M + 1)) := Lib.hid fun w' k => by
    have := smallM_any (M + 1) (by omega) (.mk zeroH l) ok a cap w' (h.keptN k) (fun b o hb => Nat.lt_of_lt_of_le (hok b o hb) k.size)
    rw [Int.natCast_add, show ((1 : Nat) : Int) = 1 from rfl] at this
    refine this.mono ?_
    rintro e w'' ⟨b, h1, h2, h3⟩
    exact ⟨b, h1, h2, fun hb => by have := h3 hb; simpa only [Sh.count] using this⟩
  unfold maxLen at hnm
  generalize l.length = len at C ⊢
  generalize countL l = cl at C ⊢
  have K0 := Lib.hid ((Kept.refl Nil w).alloc (.cells #[.string nm, .slice a len cap] 24))
  have B0 := Lib.hid (Blk.new w 24 #[.string nm, .slice a len cap])
  clear h hok
  go_enter Try.func7, Try.ntmps7
  go_wp2_with fail
  refine (C.out _ K0.out).mono ?_
  rintro e w1 ⟨b, rfl, k1, hb⟩
  have K1 := Lib.hid (K0.out.trans k1 (fun _ _ g => g))
  have c0 := (B0.out.kept k1 id).cell 0
  simp at c0
  have HB := Lib.hid hb
  clear k1 hb K0 B0
  cases b
  · go_wp2_with fail
    go_ret
    exact ⟨false, rfl, K1.out, fun h => by cases h⟩
  · by_cases h2 : nm.size ≤ 200
    · go_wp2_with fail
      go_ret
      exact ⟨true, by simp; omega, K1.out, fun _ => ⟨by have := HB.out (by simp); omega, by omega⟩⟩
    · have h2' : decide ((nm.size : Int) ≤ 200) = false := decide_eq_false (by omega)
      go_wp2_with fail
      go_ret
      exact ⟨false, by simp, K1.out, fun h => by cases h⟩
set_option maxHeartbeats 1000000 in
theorem fine_any (nm : ByteArray) (hnm : nm.size ≤ maxLen) (l : List Sh) (ok : Nat → Nat → Prop) (a : Option Addr) (cap : Nat) (w : World) (h : Holds cA w ok (.slice a l.length cap) l) (hok : ∀ b o, ok b o → b < w.heap.size) :
    Calls Try.prog 12 #[vRule nm (.slice a l.length cap)] w (BoolEnd (countL l ≤ 20 ∧ nm.size ≤ 200 ∧ chkRule (okName nm) l = 0) w) := by
  have CS := Lib.hid (fun w' (k : Kept Nil w w') => smallRule_any 20 (by decide) nm hnm l ok a cap w' (h.keptN k) (fun b o hb => Nat.lt_of_lt_of_le (hok b o hb) k.size))
  have CR : Hid (∀ w', Kept Nil w w' → countL l ≤ 20 → Calls Try.prog 11 #[vRule nm (.slice a l.length cap)] w' fun e w'' => ∃ a' cap', e = .returned (vRule nm (.slice a' l.length cap')) ∧ Holds cR w'' (okM w'.heap.size w'') (.slice a' l.length cap') l ∧ Kept Nil w' w'') := Lib.hid fun w' k hc => refRuleOf_any nm l (by omega) ok a cap w' (h.keptN k)
  have CK : Hid (∀ w' ok' a' cap', countL l ≤ 20 → Holds cR w' ok' (.slice a' l.length cap') l → Calls Try.prog 10 #[vRule nm (.slice a' l.length cap')] w' fun e w'' => e = .returned (.int .i64 (chkRule (okName nm) l)) ∧ Kept Nil w' w'') := Lib.hid fun w' ok' a' cap' hc hh => refRule_any nm hnm l (by omega) ok' a' cap' w' hh
  generalize chkRule (okName nm) l = q at CK ⊢
  obtain ⟨len, hlen⟩ : ∃ len, l.length = len := ⟨_, rfl⟩
  rw [hlen] at CS CR CK ⊢
  generalize countL l = cl at CS CR CK ⊢
  have K0 := Lib.hid ((Kept.refl Nil w).alloc (.cells #[.string nm, .slice a len cap] 24))
  have B0 := Lib.hid (Blk.new w 24 #[.string nm, .slice a len cap])
  clear h hok hlen hnm
  go_enter Try.func12, Try.ntmps12
  go_wp2_with fail
  refine (CS.out _ K0.out).mono ?_
  rintro e w1 ⟨b, rfl, k1, hb⟩
  have K1 := Lib.hid (K0.out.trans k1 (fun _ _ g => g))
  have c0 := (B0.out.kept k1 id).cell 0
  have c1 := (B0.out.kept k1 id).cell 1
  simp at c0 c1
  have HB := Lib.hid hb
  clear k1 hb K0 B0 CS
  cases b
  · go_wp2_with fail
    go_ret
    exact ⟨false, rfl, K1.out, fun h => by cases h⟩
  · have HB2 := Lib.hid (HB.out (by simp))
    go_wp2_with fail
    refine (CR.out _ K1.out HB2.out.1).mono ?_
    rintro e w2 ⟨a2, c2, rfl, h2, k2⟩
    have K2 := Lib.hid (K1.out.trans k2 (fun _ _ g => g))
    have H2 := Lib.hid h2
    clear k2 h2 c0 c1
    go_wp2_with fail
    refine (CK.out _ _ _ _ HB2.out.1 H2.out).mono ?_
    rintro e w3 ⟨rfl, k3⟩
    have K3 := Lib.hid (K2.out.trans k3 (fun _ _ g => g))
    clear k3
    by_cases hq : q = 0
    · subst hq
      go_wp2_with fail
      go_ret
      exact ⟨true, rfl, K3.out, fun _ => ⟨HB2.out.1, HB2.out.2, by simp⟩⟩
    · have hq' : (q == 0) = false := by simpa using hq
      clear hq
      go_wp2_with fail
      go_ret
      exact ⟨false, rfl, K3.out, fun h => by cases h⟩
end Go.Proofs.Ytpdofapbbpihlaa
