/- Layer scope: the law's own Ref of conditions: the reference's conditions, in new memory. -/
import Derived.Test.YtefojaeinhgeiaaERows
namespace Go.Proofs.Ytefojaeinhgeiaa
open Go.RowKit
set_option maxRecDepth 100000

theorem mem_count {l : List Sh} {x : Sh} {n : Nat} (hc : countL l ≤ n) (h : x ∈ l) : x.count ≤ n := Nat.le_trans (count_mem h) hc
/-- The reference's conditions, in memory behind the call's beginning. -/
def ListEnd (l : List Sh) (w : World) (e : Ending) (w' : World) : Prop :=
  ∃ a' cap', e = .returned (.slice a' l.length cap') ∧ Holds cR w' (okM w.heap.size w') (.slice a' l.length cap') l ∧ Kept Nil w w'
set_option maxHeartbeats 4000000 in
theorem refL_any (l : List Sh) (hc : countL l ≤ 5000) (ok : Nat → Nat → Prop) (a : Option Addr) (cap : Nat) (w : World) (h : Holds cA w ok (.slice a l.length cap) l) :
    Calls Try.prog 11 #[.slice a l.length cap] w (ListEnd l w) := by
  have HH := Lib.hid h
  have HC := Lib.hid hc
  obtain ⟨len, hlen⟩ : ∃ len, l.length = len := ⟨_, rfl⟩
  rw [hlen] at HH ⊢
  have HL := Lib.hid hlen
  have hLen : len ≤ 5000 := by have := length_countL l; omega
  clear h hc hlen
  go_enter Try.func11, Try.ntmps11
  go_wp2_with fail
  go_loopw [3, 8] (fun u i wr => ∃ (j : Nat) (ps : Prs), j ≤ len ∧ i = .int .i64 j ∧ ps.map (·.1) = l.take j ∧ CRow cR 45 wr w.heap.size u ps ∧ Kept Nil w wr) (fun _ i _ => len - (intOf i).toNat)
  case atStart => exact ⟨0, [], by omega, rfl, rfl, .nil _ _ _ _, Kept.refl _ _⟩
  case round =>
    obtain ⟨j, ps, hj, rfl, hps, hCr, hK⟩ := hrel
    have HCr := Lib.hid hCr
    have HK := Lib.hid hK
    have HP := Lib.hid hps
    clear hCr hps hK
    by_cases hlt : j < len
    · obtain ⟨⟨⟨k', x0', x1', x2', n0', n1', n2'⟩, sb⟩, hx⟩ : ∃ x, l[j]? = some x := ⟨_, List.getElem?_eq_getElem (by have := HL.out; omega)⟩
      obtain ⟨b, o, a', cap', rfl, hok, hr, hs⟩ := (HH.out.keptN HK.out).at_ hx
      have hcx : (Sh.mk ⟨k', x0', x1', x2', n0', n1', n2'⟩ sb).count ≤ 5000 := mem_count HC.out (List.mem_of_getElem? hx)
      have HX2 : Hid (∀ w, Holds cA w ok (.slice a' sb.length cap') sb → Calls Try.prog 13 #[vA ⟨k', x0', x1', x2', n0', n1', n2'⟩ (.slice a' sb.length cap')] w fun e w' => ∃ a2 c2, e = .returned (vR ⟨k', x0', x1', x2', n0', n1', n2'⟩ (.slice a2 sb.length c2)) ∧ Holds cR w' (okM w.heap.size w') (.slice a2 sb.length c2) sb ∧ Kept Nil w w') := Lib.hid fun w h => refT_any (.mk ⟨k', x0', x1', x2', n0', n1', n2'⟩ sb) hcx ok a' cap' w h
      have HRow := Lib.hid hr
      have HS := Lib.hid hs
      have HN : Hid (l.take (j + 1) = l.take j ++ [Sh.mk ⟨k', x0', x1', x2', n0', n1', n2'⟩ sb]) := Lib.hid (by rw [List.take_add_one, hx]; rfl)
      have HPL : Hid (ps.length ≤ 5000) := Lib.hid (by have := congrArg List.length HP.out; rw [List.length_map, List.length_take] at this; omega)
      clear hx hr hs hok hcx
      generalize hl' : sb.length = len' at HRow HS HX2
      clear hl'
      go_wp2_with ((with_reducible refine wpList_load_A rfl (.tmp 10) rfl _ _ rfl ⟨k', x0', x1', x2', n0', n1', n2'⟩ (.slice a' len' cap') ?_ ?_)
                   · exact HRow.out)
      have KA := Lib.hid ((Kept.refl Nil wr).alloc (.cells (arrA ⟨k', x0', x1', x2', n0', n1', n2'⟩ (.slice a' len' cap')) 38))
      refine (HX2.out _ (HS.out.keptN KA.out)).mono ?_
      rintro e w2 ⟨a2, c2, rfl, h2, k2⟩
      have K02 := Lib.hid (KA.out.trans k2 (fun _ _ g => g))
      obtain ⟨W3, hW3⟩ : ∃ W3, w2.alloc (.cells (arrR ⟨k', x0', x1', x2', n0', n1', n2'⟩ (.slice a2 len' c2)) 45) = W3 := ⟨_, rfl⟩
      have k3 : Kept Nil w2 W3 := by rw [← hW3]; exact (Kept.refl Nil w2).alloc _
      have b3 : Blk W3 w2.heap.size 45 (arrR ⟨k', x0', x1', x2', n0', n1', n2'⟩ (.slice a2 len' c2)) := by rw [← hW3]; exact Blk.new _ _ _
      have hsz := HK.out.size
      have hs0 := KA.out.size
      have hs2 := k2.size
      have hs3 := k3.size
      obtain ⟨g, cap3, w4, r4, c4, k4⟩ := appendR ((HCr.out.kept K02.out).kept k3) HPL.out (by omega) (.mk ⟨k', x0', x1', x2', n0', n1', n2'⟩ sb) (.slice a2 len' c2) w2.heap.size (fun i x hi => by rw [b3.cell i]; simpa [Sh.hd] using hi)
        ((h2.keptN k3).mono (fun b' o hb' => ⟨(hb'.kept k3 id).less (by omega), fun eo => by have := HCr.out.lt b' eo; have := hb'.1; omega⟩))
      have RR := Lib.hid r4
      have C4 := Lib.hid c4
      have K4 := Lib.hid ((HK.out.trans (K02.out.trans k3 (fun _ _ g => g)) (fun _ _ g => g)).trans k4 (fun i hi eo => by have := HCr.out.base i eo; omega))
      rw [← hW3] at RR
      clear r4 c4 k4 k3 b3 hW3 h2 k2 hs0 hs2 hs3 hsz
      go_wp2_with (at_builtin; refine wpList_append_run rfl (.tmp 12) (.tmp 15) 31 rfl _ _ rfl rfl RR.out ?_)
      go_roundw
      case rel =>
        refine ⟨j + 1, _, by omega, by go_num, ?_, C4.out, K4.out⟩
        rw [List.map_append, HP.out, HN.out]; rfl
      case measure => simp [intOf]; omega
    · obtain rfl : j = len := by omega
      have HE : Hid (ps.map (·.1) = l) := Lib.hid (by rw [HP.out, ← HL.out]; simp)
      obtain ⟨av, capv, rfl⟩ := HCr.out.shape
      have HPl : Hid (ps.length = j) := Lib.hid (by rw [← HL.out, ← HE.out]; simp)
      rw [HPl.out] at HCr ⊢
      go_wp2_with fail
      go_ret
      have hh := HCr.out.holds kindR
      rw [HE.out] at hh
      exact ⟨av, capv, by rw [HL.out]; rfl, by rw [HL.out]; exact hh, HK.out⟩
end Go.Proofs.Ytefojaeinhgeiaa
