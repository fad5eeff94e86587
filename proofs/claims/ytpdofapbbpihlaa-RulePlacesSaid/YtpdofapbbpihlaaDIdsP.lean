/- Layer rule: the contracts of the program's right, Ids and Places. -/
import Derived.Test.YtpdofapbbpihlaaDCheckP
namespace Go.Proofs.Ytpdofapbbpihlaa
open Go.RowKit

theorem ruleRight_any (nm : ByteArray) (l : List Sh) (ok : Nat → Nat → Prop) (a : Option Addr) (cap : Nat) (w : World) (hnm : nm.size ≤ 200) (hc : countL l ≤ 60) (hk : chkRule (okName nm) l = 0) (h : Holds cA w ok (.slice a l.length cap) l) :
    Calls Try.prog 29 #[vRule nm (.slice a l.length cap)] w fun e w' => e = .returned (.bool true) ∧ Kept Nil w w' := by
  have K0 := Lib.hid ((Kept.refl Nil w).alloc (.cells #[.string nm, .slice a l.length cap] 24))
  have HC := Lib.hid (ruleCheck_any nm l ok a cap _ hnm hc (h.keptN K0.out))
  rw [hk] at HC
  generalize l.length = n at *
  clear h hk hc
  go_enter Try.func29, Try.ntmps29
  go_wp2_with fail
  refine HC.out.mono ?_
  rintro e w2 ⟨rfl, k2⟩
  go_wp2_with fail
  go_ret
  exact ⟨rfl, K0.out.trans k2 (fun _ _ g => g)⟩
set_option maxHeartbeats 1000000 in
theorem ruleIds_any : IdsOK := by
  intro nm l ok a cap w hnm hc hk h
  have K0 := Lib.hid ((Kept.refl Nil w).alloc (.cells #[.string nm, .slice a l.length cap] 24))
  have B0 := Lib.hid (Blk.new w 24 #[.string nm, .slice a l.length cap])
  have HC := Lib.hid (ruleRight_any nm l ok a cap _ hnm hc hk (h.keptN K0.out))
  have HH := Lib.hid h
  have HI := Lib.hid (idsL_le (l.take l.length))
  have hlen := length_countL l
  generalize hn : l.length = len at *
  have HL := Lib.hid hn
  have hLen : len ≤ 60 := by omega
  clear h hk hn HI hlen
  have HIl : Hid (∀ j, idsL (l.take j) ≤ 60) := Lib.hid (fun j => Nat.le_trans (idsL_le _) (Nat.le_trans (countL_take_le l j) hc))
  clear hc
  go_enter Try.func15, Try.ntmps15
  go_wp2_with fail
  refine HC.out.mono ?_
  rintro e w2 ⟨rfl, k2⟩
  have K2 := Lib.hid (K0.out.trans k2 (fun _ _ g => g))
  have z1 := (B0.out.kept k2 id).cell 1
  simp at z1
  clear k2 B0 K0 HC
  go_wp2_with fail
  go_loopw [3, 12] (fun n i wr => ∃ j : Nat, j ≤ len ∧ i = .int .i64 j ∧ n = .int .i64 ((idsL (l.take j) : Nat) : Int) ∧ Kept Nil w wr) (fun _ i _ => len - (intOf i).toNat)
  case atStart => exact ⟨0, by omega, rfl, rfl, K2.out⟩
  case round =>
    obtain ⟨j, hj, rfl, rfl, hK⟩ := hrel
    have HK := Lib.hid hK
    clear hK z1 K2
    by_cases hlt : j < len
    · obtain ⟨⟨⟨k', x0', x1', x2', n0', n1', n2'⟩, sb⟩, hx⟩ : ∃ x, l[j]? = some x := ⟨_, List.getElem?_eq_getElem (by have := HL.out; omega)⟩
      obtain ⟨b, o, a', cap', rfl, hok, hr, hs⟩ := (HH.out.keptN HK.out).at_ hx
      have HR := Lib.hid hr
      have HN : Hid (idsL (l.take (j + 1)) = idsL (l.take j) + (if k' = 1 then 1 else 0)) := Lib.hid (idsL_take_succ l j hx)
      have hI : idsL (l.take j) ≤ 60 := HIl.out j
      clear hx hr hs hok
      generalize sb.length = len' at HR
      generalize idsL (l.take j) = m at *
      by_cases hk1 : k' = 1
      · subst hk1
        go_wp2_with ((with_reducible refine wpList_load_A rfl (.tmp 14) rfl _ _ rfl ⟨1, x0', x1', x2', n0', n1', n2'⟩ (.slice a' len' cap') ?_ ?_)
                     · exact HR.out)
        go_roundw
        case rel => exact ⟨j + 1, by omega, by go_num, by rw [HN.out]; go_num, HK.out.alloc _⟩
        case measure => simp [intOf]; omega
      · have hk2 : (k' == 1) = false := by simpa using hk1
        go_wp2_with ((with_reducible refine wpList_load_A rfl (.tmp 14) rfl _ _ rfl ⟨k', x0', x1', x2', n0', n1', n2'⟩ (.slice a' len' cap') ?_ ?_)
                     · exact HR.out)
        go_roundw
        case rel => exact ⟨j + 1, by omega, by go_num, by rw [HN.out, if_neg hk1]; rfl, HK.out.alloc _⟩
        case measure => simp [intOf]; omega
    · obtain rfl : j = len := by omega
      have HE : Hid (l.take j = l) := Lib.hid (by rw [← HL.out]; simp)
      go_wp2_with fail
      go_ret
      exact ⟨by rw [HE.out]; rfl, HK.out⟩
theorem WRow.ways {w : World} {B n cap : Nat} {a : Option Addr} {ws : List (List Nat)} (h : WRow w B (.slice a n cap) ws) : Ways w a ws := by
  cases hw : ws with
  | nil => exact .inl rfl
  | cons p r =>
    obtain ⟨g, u0, ha, _⟩ := WRow.at_ h (i := 0) (way := p) (by rw [hw]; rfl)
    refine .inr ⟨g, 0, ha, fun i way hi => ?_⟩
    rw [← hw] at hi
    obtain ⟨g', u, ha', hc, gi, ci, cs, rfl, _, _, hb, hcs⟩ := WRow.at_ h hi
    rw [ha] at ha'
    cases ha'
    exact ⟨_, ci, by rw [Nat.zero_add]; exact hc, .inr ⟨gi, 0, rfl, fun j x hx => by rw [Nat.zero_add, hb.cell j]; exact hcs j x hx⟩⟩
set_option maxHeartbeats 1000000 in
theorem rulePlaces_any : PlacesOK := by
  intro nm l ok a cap v w hnm hc hk h
  have K0 := Lib.hid ((Kept.refl Nil w).alloc (.cells #[.string nm, .slice a l.length cap] 24))
  have B0 := Lib.hid (Blk.new w 24 #[.string nm, .slice a l.length cap])
  have HR := Lib.hid (ruleRight_any nm l ok a cap _ hnm (by omega) hk (h.keptN K0.out))
  obtain ⟨_, _, hk1, _, _⟩ := chkRule_zero.1 hk
  have HS := Lib.hid (fun w' (k : Kept Nil w w') => seek_any l (by omega) hk1 ok a cap v w' (h.keptN k))
  have HE : Hid ((wayL l 0 v []).map encW = plcL l 0 v ⟨#[]⟩) := Lib.hid ((wayL_enc v).2 l 1 hk1 0 [])
  have HX : Hid (∀ way ∈ wayL l 0 v [], ∀ x ∈ way, x ≤ 20) := Lib.hid ((wayL_small v).2 l 20 [] (fun y hy => by cases hy) 0 (by omega))
  generalize wayL l 0 v [] = ws at *
  generalize plcL l 0 v ⟨#[]⟩ = out at *
  generalize l.length = n at *
  clear h hk hk1 hc
  go_enter Try.func13, Try.ntmps13
  go_wp2_with fail
  refine HR.out.mono ?_
  rintro e w2 ⟨rfl, k2⟩
  have K2 := Lib.hid (K0.out.trans k2 (fun _ _ g => g))
  have z1 := (B0.out.kept k2 id).cell 1
  simp at z1
  clear k2 B0 K0 HR
  go_wp2_with fail
  refine (HS.out _ K2.out).mono ?_
  rintro e w3 ⟨r, rfl, h3, k3⟩
  obtain ⟨a3, c3, rfl⟩ := h3.shape
  have H3 := Lib.hid h3.ways
  clear h3
  have HZ : Hid (∃ a' cap' ways, Ending.returned (.slice a3 ws.length c3) = .returned (.slice a' (List.length ways) cap') ∧ Kept Nil w w3 ∧ Ways w3 a' ways ∧ (∀ way ∈ ways, ∀ x ∈ way, x ≤ 20) ∧ ways.map encW = out) := Lib.hid ⟨a3, c3, ws, rfl, K2.out.trans k3 (fun _ _ g => g), H3.out, HX.out, HE.out⟩
  generalize hm : ws.length = m at HZ ⊢
  clear hm
  generalize ((fun e w' => ∃ a' cap' ways, e = Ending.returned (.slice a' (List.length ways) cap') ∧ Kept Nil w w' ∧ Ways w' a' ways ∧ (∀ way ∈ ways, ∀ x ∈ way, x ≤ 20) ∧ ways.map encW = out) : Ending → World → Prop) = Q at *
  go_wp2_with fail
  go_ret
  exact HZ.out
end Go.Proofs.Ytpdofapbbpihlaa
