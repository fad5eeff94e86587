/- A store: Touched, atEach with Put, and with Take; Add, Remove. -/
import Derived.Test.YthiijlngoikhkaaOD
namespace Go.Proofs.Ythiijlngoikhkaa
open Go.RowKit Go.Maps Go.WideMaps
set_option maxRecDepth 100000

/-- A triple's cells. -/
def cT (k : T3) : List Value := [.int .i64 k.1, .int .i64 k.2.1, .int .i64 k.2.2]
theorem cT_len (x : T3) : (cT x).length = 3 := rfl
theorem cT_one (x : T3) : ∀ v ∈ cT x, v.oneCell' = true := fun v hv => by
  simp only [cT, List.mem_cons, List.not_mem_nil, or_false] at hv
  rcases hv with rfl | rfl | rfl <;> rfl
theorem In.three {w : World} {a : Option Addr} {len : Nat} {ks : List T3} (h : In cT 3 w a len ks) {j : Nat} {k : T3} (hj : ks[j]? = some k) : ∃ b o, a = some ⟨b, o, none⟩ ∧ b < w.heap.size ∧
    w.cell? ⟨b, o + j * 3, none⟩ = some (.int .i64 k.1) ∧ w.cell? ⟨b, o + j * 3 + 1, none⟩ = some (.int .i64 k.2.1) ∧ w.cell? ⟨b, o + j * 3 + 2, none⟩ = some (.int .i64 k.2.2) := by
  obtain ⟨b, o, e, hb, hc⟩ := h.at_ hj
  exact ⟨b, o, e, hb, hc 0 _ rfl, hc 1 _ rfl, hc 2 _ rfl⟩
/-- One element more, whatever has become of all else. -/
theorem Row.pushB {α : Type} {cells : α → List Value} {e : TypeId} {size B : Nat} {l : List α} {P : Program} {t : TypeId} (T : Els P t e size) (hsz : ∀ x, (cells x).length = size) (h1 : ∀ x, ∀ u ∈ cells x, u.oneCell' = true) (ty : TypeId) {wr : World} {n cap : Nat} {a : Option Addr} (h : Row cells e size wr B (.slice a n cap) l) (hn : n = l.length) (hl : l.length ≤ 5000) (hB : B ≤ wr.heap.size) (x : α) (cs : Array Value) (hcs : cs.toList = cells x) :
    ∃ a' cap' w', (Builtin.append_ #[t, t] ty #[.slice a n cap, .slice (some ⟨wr.heap.size, 0, none⟩) 1 1]).run P (wr.alloc (.cells cs e)) = .ok (.slice a' (n + 1) cap') w' ∧
      Row cells e size w' B (.slice a' (n + 1) cap') (l ++ [x]) ∧ Kept (fun k => B ≤ k) wr w' := by
  subst hn
  have h2 : Row cells e size (wr.alloc (.cells cs e)) B (.slice a l.length cap) l := h.keptN ((Kept.refl _ _).alloc _)
  obtain ⟨v', w', r, o, k, _⟩ := append_any T ty h2 (At.lit wr e cs (cells x) hcs) (by rw [hsz, Nat.one_mul]) (h1 x) (by omega) (by simp; omega)
  have o2 : Row cells e size w' B v' (l ++ [x]) := by simpa [Row] using o
  obtain ⟨a', cap', e⟩ := o2.shape
  rw [List.length_append] at e
  subst e
  exact ⟨a', cap', w', r, o2, ((Kept.refl _ _).alloc _).trans k (fun i _ e => (h.lt i e).1)⟩
theorem ok3_of {k : T3} (h : okKT k = true) : K3.ok k := by
  obtain ⟨⟨a, a'⟩, ⟨b, b'⟩, c, c'⟩ := okKT_iff.1 h
  exact ⟨WalkArith.wf_i64 (by omega), WalkArith.wf_i64 (by omega), WalkArith.wf_i64 (by omega)⟩
theorem keyF_wf {x : Int} (h : (Lit.int .i64 x).wf = true) (n : Nat) : (Lit.int .i64 (keyF x n)).wf = true := by
  unfold keyF
  split
  · exact h
  · exact WalkArith.wf_i64 (by omega)
theorem key_ok3 {t : T3} (h : K3.ok t) (n : Nat) : K3.ok (keyT t n) := ⟨keyF_wf h.1 n, keyF_wf h.2.1 _, keyF_wf h.2.2 _⟩
theorem touchedN_ok {L : List Mem} {t : T3} (h : K3.ok t) : ∀ n, ∀ k ∈ touchedN L t n, K3.ok k
  | 0, k, hk => by simp [touchedN] at hk
  | n + 1, k, hk => by
    rw [touchedN, List.mem_append] at hk
    rcases hk with hk | hk
    · exact touchedN_ok h n k hk
    · split at hk
      · rw [List.mem_singleton.1 hk]; exact key_ok3 h n
      · simp at hk

section
variable {w : World} {F : Nat → Prop} {p : Nat} {l : List T3} {L : List Mem}
theorem Sto.some_iff (h : Sto w F p l L) (k : T3) : (mem L k).isSome = decide (0 < wanted L k) := by
  have := h.mem_iff k
  have hc := h.1 k
  cases hm : mem L k with
  | none => rw [wanted_none hm]; rfl
  | some m =>
    have h0 : wanted L k ≠ 0 := fun e => by rw [← hc] at e; have := this.2 e; rw [hm] at this; cases this
    exact (decide_eq_true (by omega)).symm
set_option maxHeartbeats 4000000 in
theorem touchedS_any (h : Sto w F p l L) {t : T3} (ht : K3.ok t) :
    Calls Try.prog 29 #[.pointer (some ⟨p, 0, none⟩), av t] w fun e w' => ∃ a cap, e = .returned (.slice a (touched L t).length cap) ∧ Row cT 31 3 w' w.heap.size (.slice a (touched L t).length cap) (touched L t) ∧ Kept Nil w w' := by
  have B1 := Lib.hid (Box.new w t)
  have HS := Lib.hid h
  have hle := touchedN_le L t
  clear h
  go_enter Try.func29, Try.ntmps29
  have ⟨b0, b1, b2⟩ := B1.out.three
  go_wp2_with fail
  refine (all_any t _).mono ?_
  rintro e w1 ⟨g, cap8, rfl, hc8, h8, k1⟩
  have H8 := Lib.hid h8
  have K1 := Lib.hid (B1.out.kept.trans k1 (fun _ _ e => e))
  have HS1 := Lib.hid (HS.out.keptN K1.out)
  clear h8 k1 b0 b1 b2 B1 HS
  go_wp2_with fail
  go_loopw [5, 11] (fun v i wr => ∃ (j : Nat) (a : Option Addr) (cap : Nat), j ≤ 8 ∧ i = .int .i64 j ∧ v = .slice a (touchedN L t j).length cap ∧ Row cT 31 3 wr w1.heap.size (.slice a (touchedN L t j).length cap) (touchedN L t j) ∧ Kept Nil w1 wr) (fun _ i _ => 8 - (intOf i).toNat)
  case atStart => exact ⟨0, none, 0, Nat.zero_le _, rfl, rfl, Row.nil _ _, Kept.refl _ _⟩
  case round =>
    obtain ⟨j, a, cap, hj, rfl, rfl, hR, hK⟩ := hrel
    have HR := Lib.hid hR
    have HK := Lib.hid hK
    clear hR hK
    by_cases hj8 : j < 8
    · obtain ⟨k0, k1, k2⟩ := H8.out.kept HK.out j hj8
      have hgl : g < wr.heap.size := World.block_lt_of_cell? wr _ k0
      obtain ⟨⟨x, y, z⟩, hxyz⟩ : ∃ q, keyT t j = q := ⟨_, rfl⟩
      have hok := key_ok3 ht j
      have HE := Lib.hid (show touchedN L t (j + 1) = touchedN L t j ++ if (mem L (keyT t j)).isSome then [keyT t j] else [] from rfl)
      rw [hxyz] at k0 k1 k2 hok HE
      simp only at k0 k1 k2
      have hlj := hle j
      generalize hT : touchedN L t j = T at *
      generalize hn : T.length = n at *
      have HTT := Lib.hid hT
      have HNN := Lib.hid hn
      clear hxyz hT hn
      have Bx := Lib.hid (Box.new wr (x, y, z))
      go_wp2_with fail
      refine (wanted_any (k := (x, y, z)) ((HS1.out.keptN HK.out).keptN Bx.out.kept) hok).mono ?_
      rintro e w3 ⟨rfl, k3⟩
      have K3 := Lib.hid (Bx.out.kept.trans k3 (fun _ _ e => e))
      have ⟨c0, c1, c2⟩ := Bx.out.three.kept k3 (fun e => e)
      have hso := (HS1.out.some_iff (x, y, z))
      clear k3 Bx k0 k1 k2
      by_cases hm : (mem L (x, y, z)).isSome = true
      · have hd : decide (0 < wanted L (x, y, z)) = true := by rw [← hso]; exact hm
        obtain ⟨a', cap', w4, hrun, hrow, hk4⟩ := (HR.out.keptN K3.out).pushB elsT cT_len cT_one 45 HNN.out.symm (by rw [HNN.out]; omega) (Nat.le_trans HK.out.size K3.out.size) (x, y, z) #[.int .i64 x, .int .i64 y, .int .i64 z] rfl
        have HR4 := Lib.hid hrow
        have R4 := Lib.hid hrun
        have K4 := Lib.hid ((HK.out.trans K3.out (fun _ _ e => e)).trans hk4 (fun i hi e => absurd hi (Nat.not_lt.2 e)))
        have HE2 := Lib.hid (show touchedN L t (j + 1) = T ++ [(x, y, z)] from by rw [HE.out, if_pos hm])
        clear hrun hrow hk4 hso hm
        go_wp2_with (at_builtin; refine wpList_append_run rfl (.tmp 19) (.tmp 21) 45 rfl _ _ rfl rfl R4.out ?_)
        go_roundw
        case rel =>
          have e3 : (touchedN L t (j + 1)).length = n + 1 := by rw [HE2.out, List.length_append, HNN.out]; rfl
          refine ⟨j + 1, a', cap', hj8, by go_num, by rw [e3], ?_, K4.out⟩
          rw [e3, HE2.out]; exact HR4.out
        case measure => simp [intOf]; omega
      · have hd : decide (0 < wanted L (x, y, z)) = false := by rw [← hso]; simpa using hm
        have HE2 := Lib.hid (show touchedN L t (j + 1) = T from by rw [HE.out, if_neg hm, List.append_nil])
        clear hso hm
        go_wp2_with fail
        go_roundw
        case rel =>
          refine ⟨j + 1, a, cap, hj8, by go_num, by rw [HE2.out, HNN.out], ?_, HK.out.trans K3.out (fun _ _ e => e)⟩
          rw [HE2.out, HNN.out]; exact HR.out.keptN K3.out
        case measure => simp [intOf]; omega
    · obtain rfl : j = 8 := by omega
      go_wp2_with fail
      go_ret
      exact ⟨a, cap, rfl, HR.out.down K1.out.size, K1.out.trans HK.out (fun _ _ e => e)⟩
end
end Go.Proofs.Ythiijlngoikhkaa
