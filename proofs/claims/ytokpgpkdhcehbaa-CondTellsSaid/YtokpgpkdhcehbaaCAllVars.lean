/- Layer cond: allVars and Vars, of the program; Has, of the reference. -/
import Derived.Test.YtokpgpkdhcehbaaCVarM
import Derived.Test.YtokpgpkdhcehbaaCRefCheck
namespace Go.Proofs.Ytokpgpkdhcehbaa
open Go.RowKit

def AllEnd (l : List Int) (w : World) (e : Ending) (w' : World) : Prop := ∃ v, e = .returned v ∧ IRow w' w.heap.size v l ∧ Kept Nil w w'
abbrev AllIH (subs : List Sh) : Prop := ∀ hd sb, Sh.mk hd sb ∈ subs → ∀ ok a cap w, Holds cA w ok (.slice a sb.length cap) sb →
  Calls Try.prog 26 #[vA hd (.slice a sb.length cap)] w (AllEnd (Sh.mk hd sb).allV w)
theorem IRow.less {w : World} {B B' : Nat} {v : Value} {l : List Int} (h : IRow w B v l) (hB : B' ≤ B) : IRow w B' v l := by
  refine ⟨h.1, ?_⟩
  rcases h.2 with hn | ⟨g, cap, cur, e, hb, rest⟩
  · exact .inl hn
  · exact .inr ⟨g, cap, cur, e, by omega, rest⟩
set_option maxHeartbeats 2000000 in
theorem allVars_step (k : Int) (x0 x1 x2 : Bool) (n0 n1 n2 : Int) (subs : List Sh) (len : Nat) (HL : Hid (subs.length = len)) (HC : Hid (countL subs ≤ 5000)) (IH : Hid (AllIH subs))
    (ok : Nat → Nat → Prop) (a : Option Addr) (cap : Nat) (w : World) (HH : Hid (Holds cA w ok (.slice a len cap) subs)) :
    Calls Try.prog 26 #[vA ⟨k, x0, x1, x2, n0, n1, n2⟩ (.slice a len cap)] w (AllEnd (varsC x0 x1 x2 n0 n1 n2 ++ allVL subs) w) := by
  have hLen : len ≤ 5000 := by have := length_countL subs; have := HL.out; have := HC.out; omega
  have CV := Lib.hid (fun W => vars_any x0 x1 x2 n0 n1 n2 W)
  have HVL := Lib.hid (varsC_len x0 x1 x2 n0 n1 n2)
  generalize varsC x0 x1 x2 n0 n1 n2 = c0 at CV HVL ⊢
  have K0 := Lib.hid ((Kept.refl Nil w).alloc (.cells (arrA ⟨k, x0, x1, x2, n0, n1, n2⟩ (.slice a len cap)) 27))
  have B0 := Lib.hid (Blk.new w 27 (arrA ⟨k, x0, x1, x2, n0, n1, n2⟩ (.slice a len cap)))
  go_enter Try.func26, Try.ntmps26
  go_wp2_with fail
  refine (CV.out _).mono ?_
  rintro e w1 ⟨v1, rfl, h1, k1⟩
  have K1 := Lib.hid (K0.out.trans k1 (fun _ _ g => g))
  have H1 := Lib.hid (h1.less (B' := w.heap.size) (by simp))
  have c7 := (B0.out.kept k1 id).cell 7
  simp at c7
  clear h1 k1 K0 B0
  go_wp2_with fail
  go_loopw [3, 12] (fun v i wr => ∃ j : Nat, j ≤ len ∧ i = .int .i64 j ∧ IRow wr w.heap.size v (c0 ++ allVL (subs.take j)) ∧ Kept Nil w wr) (fun _ i _ => len - (intOf i).toNat)
  case atStart => exact ⟨0, by omega, rfl, by simpa [allVL] using H1.out, K1.out⟩
  case round =>
    obtain ⟨j, hj, rfl, hR, hK⟩ := hrel
    have HR := Lib.hid hR
    have HK := Lib.hid hK
    clear hR hK K1 H1 c7
    by_cases hlt : j < len
    · obtain ⟨⟨⟨k', x0', x1', x2', n0', n1', n2'⟩, sb⟩, hx⟩ : ∃ x, subs[j]? = some x := ⟨_, List.getElem?_eq_getElem (by have := HL.out; omega)⟩
      obtain ⟨b, o, a', cap', rfl, hok, hr, hs⟩ := (HH.out.keptN HK.out).at_ hx
      have HX : Hid (∀ w, Holds cA w ok (.slice a' sb.length cap') sb → Calls Try.prog 26 #[vA ⟨k', x0', x1', x2', n0', n1', n2'⟩ (.slice a' sb.length cap')] w fun e w' => ∃ v, e = .returned v ∧ IRow w' w.heap.size v (Sh.mk ⟨k', x0', x1', x2', n0', n1', n2'⟩ sb).allV ∧ Kept Nil w w') := Lib.hid fun w h => IH.out _ _ (List.mem_of_getElem? hx) ok a' cap' w h
      have HRow := Lib.hid hr
      have HS := Lib.hid hs
      have HN := Lib.hid (allVL_take_succ hx)
      have HB : Hid ((c0 ++ allVL (subs.take j)).length + (Sh.mk ⟨k', x0', x1', x2', n0', n1', n2'⟩ sb).allV.length ≤ 50000) := Lib.hid (by
        have h1 := allV_len.2 (subs.take (j + 1))
        rw [HN.out, List.length_append] at h1
        have h2 := countL_take_le subs (j + 1)
        have h3 := HC.out
        have h4 := HVL.out
        rw [List.length_append]
        omega)
      clear hx hr hs hok
      generalize (Sh.mk ⟨k', x0', x1', x2', n0', n1', n2'⟩ sb).allV = l2 at HX HN HB
      generalize sb.length = len' at HRow HS HX
      go_wp2_with ((with_reducible refine wpList_load_A rfl (.tmp 14) rfl _ _ rfl ⟨k', x0', x1', x2', n0', n1', n2'⟩ (.slice a' len' cap') ?_ ?_)
                   · exact HRow.out)
      refine (HX.out _ (HS.out.keptN ((Kept.refl Nil _).alloc _))).mono ?_
      rintro e w2 ⟨v2, rfl, h2, k2⟩
      have k02 : Kept Nil wr w2 := ((Kept.refl Nil wr).alloc _).trans k2 (fun _ _ g => g)
      obtain ⟨v', w', r1, o1, kk⟩ := appendI_all w2 (HR.out.kept k02) h2 (by have := HK.out.size; have := k02.size; omega) HB.out
      have RR := Lib.hid r1
      have O1 := Lib.hid o1
      have HO := HR.out.own
      have K2 := Lib.hid ((HK.out.trans k02 (fun _ _ g => g)).trans kk (fun i hi e => by have := HO i e; omega))
      clear h2 k2 k02 r1 o1 kk HO
      go_wp2_with (at_builtin; refine wpList_append_run rfl (.tmp 16) (.tmp 18) 40 rfl _ _ rfl rfl RR.out ?_)
      go_roundw
      case rel => exact ⟨j + 1, by omega, by go_num, by rw [HN.out, ← List.append_assoc]; exact O1.out, K2.out⟩
      case measure => simp [intOf]; omega
    · obtain rfl : j = len := by omega
      have HE : Hid (subs.take j = subs) := Lib.hid (by rw [← HL.out]; simp)
      go_wp2_with fail
      go_ret
      exact ⟨_, rfl, by have := HR.out; rwa [HE.out] at this, HK.out⟩
theorem allVars_any : ∀ s : Sh, s.count ≤ 5000 → ∀ ok a cap w, Holds cA w ok (.slice a s.subs.length cap) s.subs →
    Calls Try.prog 26 #[vA s.hd (.slice a s.subs.length cap)] w (AllEnd s.allV w) := by
  refine Sh.ind fun hd subs ih hc ok a cap w h => ?_
  have hc' : 1 + countL subs ≤ 5000 := by simpa [Sh.count] using hc
  rw [allV_mk]
  exact allVars_step hd.k hd.x0 hd.x1 hd.x2 hd.n0 hd.n1 hd.n2 subs _ rfl (show _ ≤ _ by omega) (fun hd' sb hx => ih _ hx (by have := count_mem hx; omega)) ok a cap w h
set_option maxHeartbeats 2000000 in
theorem bigVars_any (s : Sh) (hc : s.count ≤ 5000) (h1 : s.chk 1 = 0) (ok : Nat → Nat → Prop) (a : Option Addr) (cap : Nat) (w : World) (h : Holds cA w ok (.slice a s.subs.length cap) s.subs) :
    Calls Try.prog 12 #[vA s.hd (.slice a s.subs.length cap)] w fun e w' => ∃ a cap, e = .returned (.slice a s.told.length cap) ∧ Kept Nil w w' ∧ (s.told = [] ∨ ∃ g, a = some ⟨g, 0, none⟩ ∧ ∀ i x, s.told[i]? = some x → w'.cell? ⟨g, i, none⟩ = some (.int .i64 x)) := by
  have C := Lib.hid (fun w' (k : Kept Nil w w') => right_any s hc ok a cap w' (h.keptN k))
  have D : Hid (∀ w', Kept Nil w w' → Calls Try.prog 26 #[vA s.hd (.slice a s.subs.length cap)] w' fun e w'' => ∃ v, e = .returned v ∧ IRow w'' w'.heap.size v s.allV ∧ Kept Nil w' w'') := Lib.hid (fun w' k => allVars_any s hc ok a cap w' (h.keptN k))
  have HT : Hid (s.told = Lib.compact (s.allV.mergeSort fun x y => decide (x ≤ y))) := Lib.hid rfl
  have HAL : Hid (s.allV.length ≤ 50000) := Lib.hid (by have := allV_len.1 s; omega)
  rw [h1] at C
  generalize s.told = c at HT ⊢
  generalize s.allV = l at D HT HAL
  generalize s.subs.length = len at C D ⊢
  generalize s.hd = hd at C D ⊢
  obtain ⟨k, x0, x1, x2, n0, n1, n2⟩ := hd
  have K0 := Lib.hid ((Kept.refl Nil w).alloc (.cells (arrA ⟨k, x0, x1, x2, n0, n1, n2⟩ (.slice a len cap)) 27))
  have B0 := Lib.hid (Blk.new w 27 (arrA ⟨k, x0, x1, x2, n0, n1, n2⟩ (.slice a len cap)))
  clear h h1
  go_enter Try.func12, Try.ntmps12
  go_wp2_with fail
  refine (C.out _ K0.out).mono ?_
  rintro e w2 ⟨rfl, k2⟩
  have K2 := Lib.hid (K0.out.trans k2 (fun _ _ g => g))
  have B2 := Lib.hid (B0.out.kept k2 id)
  clear k2 K0 B0
  go_wp2_with ((with_reducible refine wpList_load_A rfl (.tmp 1) rfl _ _ rfl ⟨k, x0, x1, x2, n0, n1, n2⟩ (.slice a len cap) ?_ ?_)
               · exact World.rangeAt_of_block B2.out 0 8)
  refine (D.out _ K2.out).mono ?_
  rintro e w3 ⟨v3, rfl, h3, k3⟩
  have h3' := h3.less (B' := w.heap.size) K2.out.size
  have HO := Lib.hid (fun i (hi : v3.ownBlock = some i) => h3'.own i hi)
  have CS := Lib.hid (sort_any h3' HAL.out)
  have K3 := Lib.hid (K2.out.trans k3 (fun _ _ g => g))
  clear h3 h3' k3
  go_wp2_with fail
  refine CS.out.mono ?_
  rintro e w4 ⟨rfl, h4, k4⟩
  have CC := Lib.hid (compact_any h4 (by rw [List.length_mergeSort]; exact HAL.out))
  have K4 := Lib.hid (K3.out.trans k4 (fun i hi e => by have := HO.out i e; omega))
  clear h4 k4 CS
  go_wp2_with fail
  refine CC.out.mono ?_
  rintro e w5 ⟨a5, c5, rfl, h5, k5⟩
  have H5 := Lib.hid h5
  have K5 := Lib.hid (K4.out.trans k5 (fun i hi e => by have := HO.out i e; omega))
  clear h5 k5 CC
  go_wp2_with fail
  go_ret
  refine ⟨a5, c5, by rw [HT.out]; rfl, K5.out, ?_⟩
  rw [HT.out]
  have hh := H5.out
  generalize Lib.compact (l.mergeSort fun x y => decide (x ≤ y)) = c' at hh
  rcases hh.2 with ⟨_, e0⟩ | ⟨g, cap', cur, e, _⟩
  · exact .inl (List.length_eq_zero_iff.1 e0)
  · cases e
    exact .inr ⟨g, rfl, fun i x hx => hh.cellAt hx⟩
end Go.Proofs.Ytokpgpkdhcehbaa
