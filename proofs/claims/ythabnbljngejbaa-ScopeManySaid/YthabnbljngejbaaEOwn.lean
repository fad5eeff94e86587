/- Layer scope: rows of numbers; the program's Own. -/
import Derived.Test.YthabnbljngejbaaERight
namespace Go.Proofs.Ythabnbljngejbaa
open Go.RowKit

theorem infoI : (Try.prog.info? 3).map (fun i => (i.zero, i.size, i.bytes)) = some (some (.int .i64 0), 1, 8) := by kernel_rfl
theorem elsI : Els Try.prog 32 3 1 := Els.of Try.underlying32 infoI rfl (by decide) (by decide)
abbrev valI (x : Nat) : Value := .int .i64 (x : Int)
/-- A row of the call's own that holds numbers. -/
abbrev NRow (w : World) (B : Nat) (v : Value) (ns : List Nat) : Prop := w.ownsRow B 3 1 v ns.length (ns.map valI)
/-- What a law sees of it. -/
def Ints (w : World) (v : Value) (ns : List Nat) : Prop := ∃ a c, v = .slice a ns.length c ∧ ∀ (i x : Nat), ns[i]? = some x → ∃ g, a = some ⟨g, 0, none⟩ ∧ w.cell? ⟨g, i, none⟩ = some (valI x)
theorem Ints.kept {w w' : World} {v : Value} {ns : List Nat} (h : Ints w v ns) (k : Kept Nil w w') : Ints w' v ns := by
  obtain ⟨a, c, e, h⟩ := h
  exact ⟨a, c, e, fun i x hi => by obtain ⟨g, e2, hc⟩ := h i x hi; exact ⟨g, e2, k.cellOf hc⟩⟩
theorem NRow.ints {w : World} {B : Nat} {v : Value} {ns : List Nat} (h : NRow w B v ns) : Ints w v ns := by
  rcases h.2 with ⟨e1, e0⟩ | ⟨g, cap, cur, e1, _⟩
  · obtain rfl := List.length_eq_zero_iff.1 e0
    exact ⟨none, 0, e1, fun i x hi => by simp at hi⟩
  · refine ⟨_, cap, e1, fun i x hi => ⟨g, rfl, ?_⟩⟩
    have := h.cells (g := g) (by rw [e1]; rfl) i (valI x) (by rw [List.getElem?_map, hi]; rfl)
    rwa [Addr.add_mid, Nat.zero_add] at this
theorem NRow.append_one {w : World} {B : Nat} {v : Value} {ns : List Nat} (h : NRow w B v ns) (hB : B ≤ w.heap.size) (hl : ns.length ≤ 10000) (x : Nat) :
    ∃ a n c w', (Builtin.append_ #[32, 32] 32 #[v, .slice (some ⟨w.heap.size, 0, none⟩) 1 1]).run Try.prog (w.alloc (.cells #[valI x] 3)) = .ok (.slice a n c) w' ∧ NRow w' B (.slice a n c) (ns ++ [x]) ∧ Kept (fun k => v.ownBlock = some k) w w' := by
  have ka := (Kept.refl Nil w).alloc (.cells #[valI x] 3)
  obtain ⟨v', w', r, o, k, _⟩ := append_any (P := Try.prog) elsI 32 (Kept.row ka h (fun _ _ g => g)) (At.lit w 3 #[valI x] [valI x] rfl) rfl (fun y hy => by simp at hy; subst hy; rfl) (by omega) (by simp; omega)
  obtain ⟨a, n, c, rfl⟩ : ∃ a n c, v' = .slice a n c := by obtain ⟨y, z, e⟩ := (At.own o).shape; exact ⟨y, _, z, e⟩
  exact ⟨a, n, c, w', r, by simpa [NRow] using o, (ka.mono (fun _ _ g => g.elim)).trans k (fun _ _ g => g)⟩
/-- Which chain each condition ends itself. -/
def ownL (l : List Sh) (j : Nat) : List Nat := (List.range j).map fun i => countL (l.take (i + 1)) - 1
theorem ownL_succ (l : List Sh) (j : Nat) : ownL l (j + 1) = ownL l j ++ [countL (l.take (j + 1)) - 1] := by
  unfold ownL
  rw [List.range_succ, List.map_append]; rfl
theorem ownL_len (l : List Sh) (j : Nat) : (ownL l j).length = j := by unfold ownL; simp
theorem ownL_at (l : List Sh) {i j : Nat} (h : i < j) : (ownL l j)[i]? = some (countL (l.take (i + 1)) - 1) := by
  unfold ownL
  simp [h]
set_option maxHeartbeats 2000000 in
theorem own_any (l : List Sh) (hc : countL l ≤ 16) (hk : chkL l 1 = 0) (ok : Nat → Nat → Prop) (a : Option Addr) (cap : Nat) (w : World) (h : Holds cA w ok (.slice a l.length cap) l) :
    Calls Try.prog 12 #[.slice a l.length cap] w fun e w' => ∃ a' n' c', e = .returned (.slice a' n' c') ∧ Ints w' (.slice a' n' c') (ownL l l.length) ∧ Kept Nil w w' := by
  have CR := Lib.hid (scopeRight_any l hc hk ok a cap w h)
  obtain ⟨len, hlen⟩ : ∃ n, l.length = n := ⟨_, rfl⟩
  have HH := Lib.hid h
  have HC := Lib.hid hc
  have HCk := Lib.hid hk
  rw [hlen] at HH CR ⊢
  have HL := Lib.hid hlen
  have hLen : len ≤ 16 := by have := length_countL l; omega
  clear h hc hk hlen
  go_enter Try.func12, Try.ntmps12
  go_wp2_with fail
  refine CR.out.mono ?_
  rintro e w1 ⟨rfl, k1⟩
  have K1 := Lib.hid k1
  clear k1
  go_wp2_with fail
  go_loopw [3, 4, 12] (fun u n i wr => ∃ j m : Nat, j ≤ len ∧ i = .int .i64 j ∧ n = .int .i64 m ∧ m = countL (l.take j) ∧ NRow wr w1.heap.size u (ownL l j) ∧ Kept Nil w1 wr) (fun _ _ i _ => len - (intOf i).toNat)
  case atStart => exact ⟨0, 0, by omega, rfl, rfl, by rw [List.take_zero]; rfl, World.ownsRow_nil _ _ _ _, Kept.refl _ _⟩
  case round =>
    obtain ⟨j, m, hj, rfl, rfl, hm, hR, hK⟩ := hrel
    have HK := Lib.hid hK
    have HM := Lib.hid hm
    have HR := Lib.hid hR
    clear hK hm hR
    obtain ⟨ar, nr, cr, rfl⟩ : ∃ ar nr cr, u3 = .slice ar nr cr := by obtain ⟨x, y, e⟩ := (At.own HR.out).shape; exact ⟨x, _, y, e⟩
    by_cases hlt : j < len
    · obtain ⟨⟨⟨k', x0', x1', x2', n0', n1', n2'⟩, sb⟩, hx⟩ : ∃ x, l[j]? = some x := ⟨_, List.getElem?_eq_getElem (by have := HL.out; omega)⟩
      obtain ⟨b, o, a', cap', rfl, hok, hr, hs⟩ := (HH.out.keptN (K1.out.trans HK.out (fun _ _ g => g))).at_ hx
      have hm5 := mem_count5 (Nat.le_trans HC.out (show 16 ≤ 5000 by decide)) (List.mem_of_getElem? hx)
      have hck := chkL_all.1 HCk.out _ (List.mem_of_getElem? hx)
      have hsum := countL_take_succ hx
      have hle := countL_take_le l (j + 1)
      have hpos := count_pos (Sh.mk ⟨k', x0', x1', x2', n0', n1', n2'⟩ sb)
      have HX2 : Hid (∀ W, Kept Nil wr W → Calls Try.prog 24 #[vA ⟨k', x0', x1', x2', n0', n1', n2'⟩ (.slice a' sb.length cap')] W fun e w' => e = .returned (.int .i64 ((Sh.mk ⟨k', x0', x1', x2', n0', n1', n2'⟩ sb).count : Int)) ∧ Kept Nil W w') := Lib.hid fun W kW => by
        have := bigSize_any _ hm5 ok a' cap' W (hs.keptN kW)
        rw [if_pos hck] at this
        exact this
      have HRng := Lib.hid hr
      have h16 : m + (Sh.mk ⟨k', x0', x1', x2', n0', n1', n2'⟩ sb).count ≤ 16 := by have := HC.out; have := HM.out; omega
      have HS : Hid (m + (Sh.mk ⟨k', x0', x1', x2', n0', n1', n2'⟩ sb).count = countL (l.take (j + 1))) := Lib.hid (by rw [HM.out, hsum])
      generalize (Sh.mk ⟨k', x0', x1', x2', n0', n1', n2'⟩ sb).count = c at HX2 HS h16 hpos
      generalize sb.length = len' at HX2 HRng
      clear hx hr hs hok hm5 hck hsum hle
      obtain ⟨d, hd⟩ : ∃ d, m + c = d := ⟨_, rfl⟩
      obtain ⟨f, hf⟩ : ∃ f, d = f + 1 := ⟨d - 1, by omega⟩
      have hw : IntKind.i64.wrap ((m : Int) + (c : Int)) = (d : Int) := by rw [IntKind.wrap_i64]; omega
      have hw2 : IntKind.i64.wrap ((d : Int) - 1) = (f : Int) := by rw [IntKind.wrap_i64]; omega
      have hmc : (m : Int) + (c : Int) = (d : Int) := by omega
      have hd1 : (d : Int) - 1 = (f : Int) := by omega
      have HE : Hid (ownL l (j + 1) = ownL l j ++ [f]) := Lib.hid (by rw [ownL_succ, ← HS.out, hd, hf]; simp)
      have HS' : Hid (d = countL (l.take (j + 1))) := Lib.hid (by rw [← hd]; exact HS.out)
      go_wp2_with ((with_reducible refine wpList_load_A rfl (.tmp 14) rfl _ _ rfl ⟨k', x0', x1', x2', n0', n1', n2'⟩ (.slice a' len' cap') ?_ ?_)
                   · exact HRng.out)
      have KA := Lib.hid ((Kept.refl Nil wr).alloc (.cells (arrA ⟨k', x0', x1', x2', n0', n1', n2'⟩ (.slice a' len' cap')) 38))
      refine (HX2.out _ KA.out).mono ?_
      rintro e w3 ⟨rfl, k3⟩
      have K3 := Lib.hid (KA.out.trans k3 (fun _ _ g => g))
      obtain ⟨a5, n5, c5, w5, r5, o5, k5⟩ := NRow.append_one (Kept.row K3.out HR.out (fun _ _ g => g)) (by have := HK.out.size; have := K3.out.size; omega) (by rw [ownL_len]; omega) f
      have RR5 := Lib.hid r5
      have O5 := Lib.hid o5
      have K5 := Lib.hid ((HK.out.trans K3.out (fun _ _ g => g)).trans k5 (fun i hi e => by have := (ownsBlk HR.out i e).1; omega))
      clear k3 r5 o5 k5
      go_wp2_with (at_builtin; refine wpList_append_run rfl (.tmp 20) (.tmp 23) 32 rfl _ _ rfl rfl RR5.out ?_)
      go_roundw
      case rel => exact ⟨j + 1, d, by omega, by go_num, by go_num, HS'.out, by rw [HE.out]; exact O5.out, K5.out⟩
      case measure => simp [intOf]; omega
    · obtain rfl : j = len := by omega
      go_wp2_with fail
      go_ret
      exact ⟨ar, nr, cr, rfl, HR.out.ints, K1.out.trans HK.out (fun _ _ g => g)⟩
end Go.Proofs.Ythabnbljngejbaa
