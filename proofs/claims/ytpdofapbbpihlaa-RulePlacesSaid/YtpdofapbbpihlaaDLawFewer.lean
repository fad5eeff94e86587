/- RuleFewer, given that the program's Check and Ids tell what the document says. -/
import Derived.Test.YtpdofapbbpihlaaDLawChecks
import Derived.Deep.DeepCutAuto
namespace Go.Proofs.Ytpdofapbbpihlaa
open Go.RowKit

theorem Holds.take {E : Hd → Value → List Value} {w : World} {ok : Nat → Nat → Prop} {a : Option Addr} {cap : Nat} {l : List Sh} (h : Holds E w ok (.slice a l.length cap) l) (k : Nat) (hk : k ≤ l.length) : Holds E w ok (.slice a k cap) (l.take k) := by
  have hl : (l.take k).length = k := by rw [List.length_take]; omega
  generalize e : Value.slice a l.length cap = v at h
  cases h with
  | nil a' cap' =>
    cases e
    have : k = 0 := by simpa using hk
    subst this
    exact .nil _ _
  | row b o cap' _ u hok hr hs =>
    cases e
    have := Holds.row (E := E) (w := w) (ok := ok) b o cap (l.take k) u hok (fun i x hi => hr i x (by
      rw [List.getElem?_take] at hi
      split at hi
      · exact hi
      · cases hi)) (fun i x hi => hs i x (by
      rw [List.getElem?_take] at hi
      split at hi
      · exact hi
      · cases hi))
    rwa [hl] at this
/-- Two rules, boxed. -/
abbrev SeenR2 (w0 : World) (B : Nat) (nm : ByteArray) (v : Value) (B' : Nat) (nm' : ByteArray) (v' : Value) (w' : World) : Prop := w'.cell? ⟨B, 0, none⟩ = some (.string nm) ∧ w'.cell? ⟨B, 1, none⟩ = some v ∧ w'.cell? ⟨B', 0, none⟩ = some (.string nm') ∧ w'.cell? ⟨B', 1, none⟩ = some v' ∧ Kept Nil w0 w'
theorem seenR2_kept {w0 w w' : World} {B : Nat} {nm : ByteArray} {v : Value} {B' : Nat} {nm' : ByteArray} {v' : Value} (kk : Kept Nil w w') (h : SeenR2 w0 B nm v B' nm' v' w) : SeenR2 w0 B nm v B' nm' v' w' := ⟨kk.cellOf h.1, kk.cellOf h.2.1, kk.cellOf h.2.2.1, kk.cellOf h.2.2.2.1, h.2.2.2.2.trans kk (fun _ _ g => g)⟩
theorem seenR2_k {w0 w : World} {B : Nat} {nm : ByteArray} {v : Value} {B' : Nat} {nm' : ByteArray} {v' : Value} (h : SeenR2 w0 B nm v B' nm' v' w) : Kept Nil w0 w := h.2.2.2.2
set_option maxHeartbeats 4000000 in
theorem fewerRule_any (hCheck : CheckOK) (hIds : IdsOK) (nm : ByteArray) (hnm : nm.size ≤ maxLen) (l : List Sh) (a : Option Addr) (cap : Nat) (hcap : l.length ≤ cap ∧ cap ≤ maxLen) (k : Int) (hk : 0 ≤ k ∧ k < 256) (w : World) (h : Holds cA w (fun b _ => b < w.heap.size) (.slice a l.length cap) l) :
    Calls Try.prog 5 #[vRule nm (.slice a l.length cap), .int .u8 k] w fun e w' => e = .returned (.bool true) ∧ Kept Nil w w' := by
  have HA := Lib.hid (fun W => awakeRule_any hCheck hIds W)
  have CF := Lib.hid (fun w' (kk : Kept Nil w w') => fine_any nm hnm l _ a cap w' (h.keptN kk) (fun b o hb => Nat.lt_of_lt_of_le hb kk.size))
  unfold BoolEnd at CF
  have CC : Hid (∀ w' m, Kept Nil w w' → (countL l ≤ 20 ∧ nm.size ≤ 200 ∧ chkRule (okName nm) l = 0) → 1 ≤ m → m ≤ l.length → Calls Try.prog 9 #[vRule nm (.slice a m cap)] w' fun e w'' => e = .returned (.int .i64 0) ∧ Kept Nil w' w'') := Lib.hid fun w' m kk hc h1 h2 => by
    have := hCheck nm (l.take m) (fun b _ => b < w.heap.size) a cap w' hc.2.1 (Nat.le_trans (countL_take_le l m) (by omega)) (by rw [show (l.take m).length = m by rw [List.length_take]; omega]; exact (h.keptN kk).take m h2)
    rwa [chkRule_take hc.2.2 h1, show (l.take m).length = m by rw [List.length_take]; omega] at this
  have CI : Hid (∀ w' m, Kept Nil w w' → (countL l ≤ 20 ∧ nm.size ≤ 200 ∧ chkRule (okName nm) l = 0) → 1 ≤ m → m ≤ l.length → Calls Try.prog 15 #[vRule nm (.slice a m cap)] w' fun e w'' => e = .returned (.int .i64 (idsL (l.take m) : Int)) ∧ Kept Nil w' w'') := Lib.hid fun w' m kk hc h1 h2 => by
    have := hIds nm (l.take m) (fun b _ => b < w.heap.size) a cap w' hc.2.1 (Nat.le_trans (countL_take_le l m) (by omega)) (chkRule_take hc.2.2 h1) (by rw [show (l.take m).length = m by rw [List.length_take]; omega]; exact (h.keptN kk).take m h2)
    rwa [show (l.take m).length = m by rw [List.length_take]; omega] at this
  have HPos : Hid ((countL l ≤ 20 ∧ nm.size ≤ 200 ∧ chkRule (okName nm) l = 0) → 0 < l.length ∧ l.length ≤ 20) := Lib.hid fun hc => by
    have := chkRule_zero.1 hc.2.2
    have := length_countL l
    omega
  have HIt := Lib.hid (fun m => idsL_take l m)
  have HFull : Hid (l.take l.length = l) := Lib.hid (by simp)
  have HAd : Hid (0 < l.length → ∃ b o, a = some ⟨b, o, none⟩) := Lib.hid fun hp => by
    obtain ⟨⟨hd, sb⟩, hx⟩ : ∃ x, l[0]? = some x := ⟨_, List.getElem?_eq_getElem hp⟩
    obtain ⟨b, o, _, _, e, _⟩ := h.at_ hx
    exact ⟨b, o, e⟩
  clear hCheck hIds h hnm
  generalize hT : (countL l ≤ 20 ∧ nm.size ≤ 200 ∧ chkRule (okName nm) l = 0) = T at CF CC CI HPos
  clear hT
  obtain ⟨len, hlen⟩ : ∃ len, l.length = len := ⟨_, rfl⟩
  rw [hlen] at CF CC CI HPos HFull HAd hcap ⊢
  clear hlen
  have hcl : len ≤ cap := hcap.1
  have hcm : cap ≤ 2 ^ 63 - 1 := hcap.2
  clear hcap
  have K0 := Lib.hid ((Kept.refl Nil w).alloc (.cells #[.string nm, .slice a len cap] 24))
  have B0 := Lib.hid (Blk.new w 24 #[.string nm, .slice a len cap])
  go_enter Try.func5, Try.ntmps5
  go_wp2_with fail
  refine (CF.out _ K0.out).mono ?_
  rintro e w1 ⟨b, rfl, k1, hb⟩
  have K1 := Lib.hid (K0.out.trans k1 (fun _ _ g => g))
  have B1 := B0.out.kept k1 id
  have c0 := B1.cell 0
  have c1 := B1.cell 1
  simp at c0 c1
  have HB1 := Lib.hid B1
  have HB := Lib.hid hb
  clear k1 hb K0 B0 CF B1
  cases b
  · go_wp2_with fail
    refine (HA.out _).mono ?_
    rintro e w3 ⟨rfl, k3⟩
    go_wp2_with fail
    go_ret
    exact ⟨rfl, K1.out.trans k3 (fun _ _ g => g)⟩
  · have HT := HB.out rfl
    obtain ⟨hpos, hl20⟩ := HPos.out HT
    obtain ⟨b, o, rfl⟩ := HAd.out hpos
    obtain ⟨m, hm⟩ : ∃ m : Nat, m = (k % (len : Int)).toNat := ⟨_, rfl⟩
    have hmr : 0 ≤ k % (len : Int) ∧ k % (len : Int) < (len : Int) := ⟨Int.emod_nonneg _ (by omega), Int.emod_lt_of_pos _ (by omega)⟩
    have ht : k.tmod (len : Int) = (m : Int) := by rw [Int.tmod_eq_emod_of_nonneg hk.1]; omega
    have hml : m < len := by omega
    clear hm hmr
    have hlz : ((len : Int) == 0) = false := by simp; omega
    have CC2 := Lib.hid (fun w' kk => CC.out w' (1 + m) kk HT (by omega) (by omega))
    have CI2 := Lib.hid (fun w' kk => CI.out w' (1 + m) kk HT (by omega) (by omega))
    have CI3 := Lib.hid (fun w' kk => CI.out w' len kk HT (by omega) (Nat.le_refl _))
    rw [HFull.out] at CI3
    have HIm := Lib.hid (HIt.out (1 + m))
    generalize idsL (l.take (1 + m)) = i1 at CI2 HIm
    generalize idsL l = i2 at CI3 HIm
    have hwr : IntKind.i64.wrap (1 + (m : Int)) = 1 + (m : Int) := by rw [IntKind.wrap_i64]; omega
    clear CC CI HB HT HPos HIt HFull
    have hl1 : w.heap.size < w1.heap.size := HB1.out.lt
    have hne1 : w.heap.size ≠ w1.heap.size := by omega
    go_wp2_with fail
    go_region
    have hle : ((i1 : Int) ≤ (i2 : Int)) := by have := HIm.out; omega
    have hled : decide ((i1 : Int) ≤ (i2 : Int)) = true := decide_eq_true hle
    go_wp2_with fail
    have S0 : Hid (SeenR2 w w.heap.size nm (.slice (some ⟨b, o, none⟩) len cap) w1.heap.size nm (.slice (some ⟨b, o, none⟩) (1 + m) cap) ((w1.alloc (.cells #[.string nm, .slice (some ⟨b, o, none⟩) (1 + m) cap] 24)).drew.drew)) :=
      Lib.hid ⟨((HB1.out.alloc _).drew.drew).cell 0, ((HB1.out.alloc _).drew.drew).cell 1, ((Blk.new w1 _ _).drew.drew).cell 0, ((Blk.new w1 _ _).drew.drew).cell 1, ((K1.out.alloc _).drew).drew⟩
    clear c0 c1 HB1 hle
    go_region_held3 (SeenR2 w w.heap.size nm (.slice (some ⟨b, o, none⟩) len cap) w1.heap.size nm (.slice (some ⟨b, o, none⟩) (1 + m) cap))
      (first | (with_reducible assumption) | (with_reducible exact S0.out) | (with_reducible exact seenR2_kept k11 (by with_reducible assumption)) | (with_reducible exact seenR2_kept k10 (by with_reducible assumption)) | (with_reducible exact seenR2_kept k9 (by with_reducible assumption)) | (with_reducible exact seenR2_kept k8 (by with_reducible assumption)))
      (first
        | (go_at_call 9; refine (CC2.out _ (seenR2_k (by with_reducible assumption))).mono ?_; rintro e w8 ⟨rfl, k8⟩)
        | (go_at_call 15; (with_reducible refine (CI2.out _ (seenR2_k (by with_reducible assumption))).mono ?_); rintro e w9 ⟨rfl, k9⟩)
        | (go_at_call 15; (with_reducible refine (CI3.out _ (seenR2_k (by with_reducible assumption))).mono ?_); rintro e w10 ⟨rfl, k10⟩)
        | (go_at_call 8; refine (HA.out _).mono ?_; rintro e w11 ⟨rfl, k11⟩))
    all_goals
      have HK := Lib.hid (seenR2_k (by with_reducible assumption))
      go_wp2_with fail
      go_ret
      exact ⟨rfl, HK.out⟩
end Go.Proofs.Ytpdofapbbpihlaa
