/- Layer cond: the contracts of size, of the program and of the reference. -/
import Derived.Test.YtefojaeinhgeiaaCTree
namespace Go.Proofs.Ytefojaeinhgeiaa
open Go.RowKit
set_option maxRecDepth 100000

set_option maxHeartbeats 1000000 in
theorem refSize_step (k : Int) (x0 x1 x2 : Bool) (n0 n1 n2 : Int) (subs : List Sh) (len : Nat) (HL : Hid (subs.length = len)) (HC : Hid (countL subs ≤ 5000))
    (IH : Hid (∀ hd sb, Sh.mk hd sb ∈ subs → ∀ ok a cap w, Holds cR w ok (.slice a sb.length cap) sb → Calls Try.prog 20 #[vR hd (.slice a sb.length cap)] w fun e w' => e = .returned (.int .i64 ((Sh.mk hd sb).count : Int)) ∧ Kept Nil w w'))
    (ok : Nat → Nat → Prop) (a : Option Addr) (cap : Nat) (w : World) (HH : Hid (Holds cR w ok (.slice a len cap) subs)) :
    Calls Try.prog 20 #[vR ⟨k, x0, x1, x2, n0, n1, n2⟩ (.slice a len cap)] w fun e w' => e = .returned (.int .i64 ((1 + countL subs : Nat) : Int)) ∧ Kept Nil w w' := by
  have hLen : len ≤ 5000 := by have := length_countL subs; have := HL.out; have := HC.out; omega
  have K0 := Lib.hid ((Kept.refl Nil w).alloc (.cells #[.int .i64 k, .int .i64 (isV x0), .int .i64 n0, .int .i64 (isV x1), .int .i64 n1, .int .i64 (isV x2), .int .i64 n2, .slice a len cap] 45))
  go_enter Try.func20, Try.ntmps20
  go_wp2_with fail
  go_loopw [3, 9] (fun n i wr => ∃ j : Nat, j ≤ len ∧ i = .int .i64 j ∧ n = .int .i64 ((1 + countL (subs.take j) : Nat) : Int) ∧ Kept Nil w wr) (fun _ i _ => len - (intOf i).toNat)
  case atStart => exact ⟨0, by omega, rfl, by simp [countL], K0.out⟩
  case round =>
    obtain ⟨j, hj, rfl, rfl, hK⟩ := hrel
    have HK := Lib.hid hK
    clear hK K0
    by_cases hlt : j < len
    · obtain ⟨⟨⟨k', x0', x1', x2', n0', n1', n2'⟩, sb⟩, hx⟩ : ∃ x, subs[j]? = some x := ⟨_, List.getElem?_eq_getElem (by have := HL.out; omega)⟩
      obtain ⟨b, o, a', cap', rfl, hok, hr, hs⟩ := (HH.out.keptN HK.out).at_ hx
      have HX := Lib.hid (IH.out _ _ (List.mem_of_getElem? hx))
      have HR := Lib.hid hr
      have HS := Lib.hid hs
      have HN := Lib.hid (countL_take_succ hx)
      have HB := Lib.hid (countL_take_le subs (j + 1))
      clear hx hr hs hok
      generalize hcn : countL (subs.take j) = cn at HN
      have HCN := Lib.hid hcn
      clear hcn
      have HC' : (Sh.mk ⟨k', x0', x1', x2', n0', n1', n2'⟩ sb).count + cn ≤ 5000 := by have := HN.out; have := HB.out; have := HC.out; omega
      generalize (Sh.mk ⟨k', x0', x1', x2', n0', n1', n2'⟩ sb).count = cx at HX HN HC'
      generalize sb.length = len' at HR HS HX
      go_wp2_with ((with_reducible refine wpList_load_R rfl (.tmp 11) rfl _ _ rfl ⟨k', x0', x1', x2', n0', n1', n2'⟩ (.slice a' len' cap') ?_ ?_)
                   · exact HR.out)
      refine (HX.out _ _ _ _ (HS.out.keptN ((Kept.refl Nil _).alloc _))).mono ?_
      rintro e w2 ⟨rfl, k2⟩
      go_wp2_with fail
      go_roundw
      case rel => exact ⟨j + 1, by omega, by go_num, by rw [HN.out]; go_num, (HK.out.alloc _).trans k2 (fun _ _ g => g)⟩
      case measure => simp [intOf]; omega
    · obtain rfl : j = len := by omega
      have HE : Hid (subs.take j = subs) := Lib.hid (by rw [← HL.out]; simp)
      go_wp2_with fail
      go_ret
      exact ⟨by rw [HE.out]; rfl, HK.out⟩
theorem refSize_any : ∀ s : Sh, s.count ≤ 5000 → ∀ ok a cap w, Holds cR w ok (.slice a s.subs.length cap) s.subs →
    Calls Try.prog 20 #[vR s.hd (.slice a s.subs.length cap)] w fun e w' => e = .returned (.int .i64 (s.count : Int)) ∧ Kept Nil w w' := by
  refine Sh.ind fun hd subs ih hc ok a cap w h => ?_
  have hc' : 1 + countL subs ≤ 5000 := by simpa [Sh.count] using hc
  have := refSize_step hd.k hd.x0 hd.x1 hd.x2 hd.n0 hd.n1 hd.n2 subs _ rfl (show _ ≤ _ by omega) (fun hd' sb hx => ih _ hx (by have := count_mem hx; omega)) ok a cap w h
  rw [show (Sh.mk hd subs).count = 1 + countL subs by simp [Sh.count]]
  exact this
end Go.Proofs.Ytefojaeinhgeiaa
