/- Layer cond: the reference's Has. -/
import Derived.Test.YtpdofapbbpihlaaCHasM
import Derived.Test.YtpdofapbbpihlaaCRefCheck
namespace Go.Proofs.Ytpdofapbbpihlaa
open Go.RowKit

abbrev HasIH (subs : List Sh) (v : Int) : Prop := ∀ hd sb, Sh.mk hd sb ∈ subs → ∀ ok a cap w, Holds cR w ok (.slice a sb.length cap) sb →
  Calls Try.prog 42 #[vR hd (.slice a sb.length cap), .int .i64 v] w fun e w' => e = .returned (.bool ((Sh.mk hd sb).has v)) ∧ Kept Nil w w'
set_option maxHeartbeats 2000000 in
theorem refHas_step (k : Int) (x0 x1 x2 : Bool) (n0 n1 n2 : Int) (subs : List Sh) (len : Nat) (HL : Hid (subs.length = len)) (hLen : len ≤ 5000) (v : Int) (IH : Hid (HasIH subs v))
    (ok : Nat → Nat → Prop) (a : Option Addr) (cap : Nat) (w : World) (HH : Hid (Holds cR w ok (.slice a len cap) subs)) :
    Calls Try.prog 42 #[vR ⟨k, x0, x1, x2, n0, n1, n2⟩ (.slice a len cap), .int .i64 v] w fun e w' => e = .returned (.bool ((decide (k < 3) && ownN x0 x1 x2 n0 n1 n2 v) || hasL subs v)) ∧ Kept Nil w w' := by
  have B0 := Lib.hid (Blk.new w 59 (arrR ⟨k, x0, x1, x2, n0, n1, n2⟩ (.slice a len cap)))
  have K0 := Lib.hid ((Kept.refl Nil w).alloc (.cells (arrR ⟨k, x0, x1, x2, n0, n1, n2⟩ (.slice a len cap)) 59))
  have e1 := isV_true
  have e0 := isV_false
  have HO : Hid (ownN x0 x1 x2 n0 n1 n2 v = ((x0 && n0 == v) || ((x1 && n1 == v) || (x2 && n2 == v)))) := Lib.hid rfl
  go_enter Try.func42, Try.ntmps42
  go_wp2_with fail
  go_loopw [5] (fun i wr => ((i = .int .i64 0) ∨ (i = .int .i64 1 ∧ (decide (k < 3) && (x0 && n0 == v)) = false) ∨ (i = .int .i64 2 ∧ (decide (k < 3) && (x0 && n0 == v)) = false ∧ (decide (k < 3) && (x1 && n1 == v)) = false) ∨ (i = .int .i64 3 ∧ (decide (k < 3) && ownN x0 x1 x2 n0 n1 n2 v) = false)) ∧ Blk wr w.heap.size 59 (arrR ⟨k, x0, x1, x2, n0, n1, n2⟩ (.slice a len cap)) ∧ Kept Nil w wr) (fun i _ => (3 - intOf i).toNat)
  case atStart => exact ⟨.inl rfl, B0.out, K0.out⟩
  case round =>
    obtain ⟨hrel, hB, hK⟩ := hrel
    have HB := Lib.hid hB
    have HK := Lib.hid hK
    have c0 := hB.cell 0
    have c1 := hB.cell 1
    have c2 := hB.cell 2
    have c3 := hB.cell 3
    have c4 := hB.cell 4
    have c5 := hB.cell 5
    have c6 := hB.cell 6
    have c7 := hB.cell 7
    simp only [arrR] at c0 c1 c2 c3 c4 c5 c6 c7
    simp at c0 c1 c2 c3 c4 c5 c6 c7
    clear hB hK B0 K0
    rcases hrel with rfl | ⟨rfl, h0⟩ | ⟨rfl, h0, h1⟩ | ⟨rfl, h0⟩
    · by_cases hk : k < 3
      · cases x0
        · have Q : Hid ((decide (k < 3) && (false && n0 == v)) = false) := Lib.hid (by simp)
          go_wp2_with fail
          go_roundw
          case rel => exact ⟨.inr (.inl ⟨rfl, Q.out⟩), HB.out, HK.out⟩
          case measure => decide
        · by_cases hn : n0 = v
          · subst hn
            go_wp2_with fail
            go_ret
            exact ⟨by rw [HO.out]; simp [hk], HK.out⟩
          · have hn' : (n0 == v) = false := by simpa using hn
            have Q : Hid ((decide (k < 3) && (true && n0 == v)) = false) := Lib.hid (by rw [hn']; simp)
            clear hn
            go_wp2_with fail
            go_roundw
            case rel => exact ⟨.inr (.inl ⟨rfl, Q.out⟩), HB.out, HK.out⟩
            case measure => decide
      · have hk' : decide (k < 3) = false := decide_eq_false hk
        have Q : Hid ((decide (k < 3) && (x0 && n0 == v)) = false) := Lib.hid (by rw [hk']; rfl)
        clear hk
        go_wp2_with fail
        go_roundw
        case rel => exact ⟨.inr (.inl ⟨rfl, Q.out⟩), HB.out, HK.out⟩
        case measure => decide
    · have P0 := Lib.hid h0
      clear h0
      by_cases hk : k < 3
      · cases x1
        · have Q : Hid ((decide (k < 3) && (false && n1 == v)) = false) := Lib.hid (by simp)
          go_wp2_with fail
          go_roundw
          case rel => exact ⟨.inr (.inr (.inl ⟨rfl, P0.out, Q.out⟩)), HB.out, HK.out⟩
          case measure => decide
        · by_cases hn : n1 = v
          · subst hn
            go_wp2_with fail
            go_ret
            exact ⟨by rw [HO.out]; simp [hk], HK.out⟩
          · have hn' : (n1 == v) = false := by simpa using hn
            have Q : Hid ((decide (k < 3) && (true && n1 == v)) = false) := Lib.hid (by rw [hn']; simp)
            clear hn
            go_wp2_with fail
            go_roundw
            case rel => exact ⟨.inr (.inr (.inl ⟨rfl, P0.out, Q.out⟩)), HB.out, HK.out⟩
            case measure => decide
      · have hk' : decide (k < 3) = false := decide_eq_false hk
        have Q : Hid ((decide (k < 3) && (x1 && n1 == v)) = false) := Lib.hid (by rw [hk']; rfl)
        clear hk
        go_wp2_with fail
        go_roundw
        case rel => exact ⟨.inr (.inr (.inl ⟨rfl, P0.out, Q.out⟩)), HB.out, HK.out⟩
        case measure => decide
    · have P0 := Lib.hid h0
      clear h0
      have P1 := Lib.hid h1
      clear h1
      by_cases hk : k < 3
      · cases x2
        · have Q : Hid ((decide (k < 3) && (false && n2 == v)) = false) := Lib.hid (by simp)
          go_wp2_with fail
          go_roundw
          case rel => exact ⟨.inr (.inr (.inr ⟨rfl, by rw [HO.out, Bool.and_or_distrib_left, Bool.and_or_distrib_left, P0.out, P1.out, show (decide (k < 3) && (false && n2 == v)) = false from Q.out]; rfl⟩)), HB.out, HK.out⟩
          case measure => decide
        · by_cases hn : n2 = v
          · subst hn
            go_wp2_with fail
            go_ret
            exact ⟨by rw [HO.out]; simp [hk], HK.out⟩
          · have hn' : (n2 == v) = false := by simpa using hn
            have Q : Hid ((decide (k < 3) && (true && n2 == v)) = false) := Lib.hid (by rw [hn']; simp)
            clear hn
            go_wp2_with fail
            go_roundw
            case rel => exact ⟨.inr (.inr (.inr ⟨rfl, by rw [HO.out, Bool.and_or_distrib_left, Bool.and_or_distrib_left, P0.out, P1.out, show (decide (k < 3) && (true && n2 == v)) = false from Q.out]; rfl⟩)), HB.out, HK.out⟩
            case measure => decide
      · have hk' : decide (k < 3) = false := decide_eq_false hk
        have Q : Hid ((decide (k < 3) && (x2 && n2 == v)) = false) := Lib.hid (by rw [hk']; rfl)
        clear hk
        go_wp2_with fail
        go_roundw
        case rel => exact ⟨.inr (.inr (.inr ⟨rfl, by rw [HO.out, Bool.and_or_distrib_left, Bool.and_or_distrib_left, P0.out, P1.out, show (decide (k < 3) && (x2 && n2 == v)) = false from Q.out]; rfl⟩)), HB.out, HK.out⟩
        case measure => decide
    · have HE := Lib.hid h0
      clear h0 c0 c1 c2 c3 c4 c5 c6
      go_wp2_with fail
      go_loopw [35] (fun i wr => ∃ j : Nat, j ≤ len ∧ i = .int .i64 j ∧ hasL subs v = hasL (subs.drop j) v ∧ Kept Nil w wr) (fun i _ => len - (intOf i).toNat)
      case atStart => exact ⟨0, by omega, rfl, rfl, HK.out⟩
      case round =>
        obtain ⟨j, hj, rfl, hch, hK⟩ := hrel
        have HK := Lib.hid hK
        have HCh := Lib.hid hch
        clear hK hch c7
        by_cases hlt : j < len
        · obtain ⟨⟨⟨k', x0', x1', x2', n0', n1', n2'⟩, sb⟩, hx⟩ : ∃ x, subs[j]? = some x := ⟨_, List.getElem?_eq_getElem (by have := HL.out; omega)⟩
          obtain ⟨b, o, a', cap', rfl, hok, hr, hs⟩ := (HH.out.keptN HK.out).at_ hx
          have HX := Lib.hid (IH.out _ _ (List.mem_of_getElem? hx))
          have HR := Lib.hid hr
          have HS := Lib.hid hs
          have HN := Lib.hid (hasL_drop hx v)
          clear hx hr hs hok
          generalize (Sh.mk ⟨k', x0', x1', x2', n0', n1', n2'⟩ sb).has v = q at HX HN
          generalize sb.length = len' at HR HS HX
          go_wp2_with ((with_reducible refine wpList_load_R rfl (.tmp 37) rfl _ _ rfl ⟨k', x0', x1', x2', n0', n1', n2'⟩ (.slice a' len' cap') ?_ ?_)
                       · exact HR.out)
          refine (HX.out _ _ _ _ (HS.out.keptN ((Kept.refl Nil _).alloc _))).mono ?_
          rintro e w2 ⟨rfl, k2⟩
          cases q
          · go_wp2_with fail
            go_roundw
            case rel => exact ⟨j + 1, by omega, by go_num, by rw [HCh.out, HN.out]; rfl, (HK.out.alloc _).trans k2 (fun _ _ g => g)⟩
            case measure => simp [intOf]; omega
          · go_wp2_with fail
            go_ret
            exact ⟨by rw [HE.out, HCh.out, HN.out]; rfl, (HK.out.alloc _).trans k2 (fun _ _ g => g)⟩
        · obtain rfl : j = len := by omega
          have HE2 : Hid (hasL (subs.drop j) v = false) := Lib.hid (by rw [← HL.out, List.drop_length]; rfl)
          go_wp2_with fail
          go_ret
          exact ⟨by rw [HE.out, HCh.out, HE2.out]; rfl, HK.out⟩
theorem refHas_any : ∀ s : Sh, s.count ≤ 5000 → ∀ (v : Int), ∀ ok a cap w, Holds cR w ok (.slice a s.subs.length cap) s.subs →
    Calls Try.prog 42 #[vR s.hd (.slice a s.subs.length cap), .int .i64 v] w fun e w' => e = .returned (.bool (s.has v)) ∧ Kept Nil w w' := by
  refine Sh.ind fun hd subs ih hc v ok a cap w h => ?_
  have hc' : 1 + countL subs ≤ 5000 := by simpa [Sh.count] using hc
  have hl := length_countL subs
  rw [has_mk]
  exact refHas_step hd.k hd.x0 hd.x1 hd.x2 hd.n0 hd.n1 hd.n2 subs _ rfl (by omega) v (fun hd' sb hx => ih _ hx (by have := count_mem hx; omega) v) ok a cap w h
end Go.Proofs.Ytpdofapbbpihlaa
