/- CompRight: the walk over the law's own code. -/
import Derived.Test.YtoceogbanlmnoaaGRefRight
import Derived.Test.YtoceogbanlmnoaaGFew
import Derived.Test.YtoceogbanlmnoaaGD
import Derived.Test.YtoceogbanlmnoaaGE
import Derived.Test.YtoceogbanlmnoaaGG
import Derived.Deep.RegionHeld3
namespace Go.Proofs.Ytoceogbanlmnoaa
open Go.RowKit
set_option maxRecDepth 100000

/-- What is read: the two boxes; and nothing that was there has changed. -/
abbrev SeenW (w0 : World) (B B' : Nat) (c0 c1 c2 c3 c4 c5 d0 d1 d2 d3 d4 d5 : Value) (w' : World) : Prop :=
  w'.cell? ⟨B, 0, none⟩ = some c0 ∧ w'.cell? ⟨B, 1, none⟩ = some c1 ∧ w'.cell? ⟨B, 2, none⟩ = some c2 ∧ w'.cell? ⟨B, 3, none⟩ = some c3 ∧ w'.cell? ⟨B, 4, none⟩ = some c4 ∧ w'.cell? ⟨B, 5, none⟩ = some c5 ∧
  w'.cell? ⟨B', 0, none⟩ = some d0 ∧ w'.cell? ⟨B', 1, none⟩ = some d1 ∧ w'.cell? ⟨B', 2, none⟩ = some d2 ∧ w'.cell? ⟨B', 3, none⟩ = some d3 ∧ w'.cell? ⟨B', 4, none⟩ = some d4 ∧ w'.cell? ⟨B', 5, none⟩ = some d5 ∧ Kept Nil w0 w'
section
variable {w0 w w' : World} {B B' : Nat} {c0 c1 c2 c3 c4 c5 d0 d1 d2 d3 d4 d5 : Value}
theorem seenW_of {t t' : TypeId} (r : Blk w B t #[c0, c1, c2, c3, c4, c5]) (r' : Blk w B' t' #[d0, d1, d2, d3, d4, d5]) (k : Kept Nil w0 w) : SeenW w0 B B' c0 c1 c2 c3 c4 c5 d0 d1 d2 d3 d4 d5 w :=
  ⟨r.cell 0, r.cell 1, r.cell 2, r.cell 3, r.cell 4, r.cell 5, r'.cell 0, r'.cell 1, r'.cell 2, r'.cell 3, r'.cell 4, r'.cell 5, k⟩
theorem seenW_kept (k : Kept Nil w w') (h : SeenW w0 B B' c0 c1 c2 c3 c4 c5 d0 d1 d2 d3 d4 d5 w) : SeenW w0 B B' c0 c1 c2 c3 c4 c5 d0 d1 d2 d3 d4 d5 w' := by
  obtain ⟨h2, h3, h4, h5, h6, h7, g0, g1, g2, g3, g4, g5, kk⟩ := h
  exact ⟨k.cellOf h2, k.cellOf h3, k.cellOf h4, k.cellOf h5, k.cellOf h6, k.cellOf h7, k.cellOf g0, k.cellOf g1, k.cellOf g2, k.cellOf g3, k.cellOf g4, k.cellOf g5, kk.trans k (fun _ _ g => g)⟩
theorem seenW_k (h : SeenW w0 B B' c0 c1 c2 c3 c4 c5 d0 d1 d2 d3 d4 d5 w) : Kept Nil w0 w := h.2.2.2.2.2.2.2.2.2.2.2.2
end
/-- The four blocks that the law makes. -/
structure Four (w : World) (x y : Array Value) (a b : Int) (W : World) : Prop where
  kept : Kept Nil w W
  b0 : Blk W w.heap.size 42 x
  b1 : Blk W (w.heap.size + 1) 42 y
  b2 : Blk W (w.heap.size + 1 + 1) 3 #[.int .i64 a]
  b3 : Blk W (w.heap.size + 1 + 1 + 1) 3 #[.int .i64 b]
theorem Four.start (w : World) (x y : Array Value) : Four w x y 0 0 ((((w.alloc (.cells x 42)).alloc (.cells y 42)).alloc (.cells #[.int .i64 0] 3)).alloc (.cells #[.int .i64 0] 3)) := by
  refine ⟨((((Kept.refl Nil w).alloc _).alloc _).alloc _).alloc _, (((Blk.new w _ _).alloc _).alloc _).alloc _, ?_, ?_, ?_⟩
  · have := ((Blk.new (w.alloc (.cells x 42)) 42 y).alloc (.cells #[.int .i64 0] 3)).alloc (.cells #[.int .i64 0] 3)
    simpa using this
  · have := (Blk.new ((w.alloc (.cells x 42)).alloc (.cells y 42)) 3 #[.int .i64 0]).alloc (.cells #[.int .i64 0] 3)
    simpa using this
  · have := Blk.new (((w.alloc (.cells x 42)).alloc (.cells y 42)).alloc (.cells #[.int .i64 0] 3)) 3 #[.int .i64 0]
    simpa using this
theorem Four.lt {w W : World} {x y : Array Value} {a b : Int} (h : Four w x y a b W) : w.heap.size + 1 + 1 + 1 < W.heap.size := h.b3.lt
theorem Four.step {w W W' : World} {x y : Array Value} {a b : Int} (h : Four w x y a b W) (k : Kept Nil W W') : Four w x y a b W' := ⟨h.kept.trans k (fun _ _ g => g), h.b0.kept k id, h.b1.kept k id, h.b2.kept k id, h.b3.kept k id⟩
theorem Four.one {w W W' : World} {x y : Array Value} {a a' b : Int} (h : Four w x y a b W) (k : Kept (fun i => i = w.heap.size + 1 + 1) W W') (n : Blk W' (w.heap.size + 1 + 1) 3 #[.int .i64 a']) : Four w x y a' b W' :=
  ⟨h.kept.trans k (fun i hi e => by omega), h.b0.kept k (fun e => by omega), h.b1.kept k (fun e => by omega), n, h.b3.kept k (fun e => by omega)⟩
theorem Four.two {w W W' : World} {x y : Array Value} {a b b' : Int} (h : Four w x y a b W) (k : Kept (fun i => i = w.heap.size + 1 + 1 + 1) W W') (n : Blk W' (w.heap.size + 1 + 1 + 1) 3 #[.int .i64 b']) : Four w x y a b' W' :=
  ⟨h.kept.trans k (fun i hi e => by omega), h.b0.kept k (fun e => by omega), h.b1.kept k (fun e => by omega), h.b2.kept k (fun e => by omega), n⟩
theorem keptStep {w : World} : ∀ W W' : World, Kept Nil w W → Kept Nil W W' → Kept Nil w W' := fun _ _ h k => h.trans k (fun _ _ g => g)
set_option maxHeartbeats 8000000 in
theorem lawRight_any (s1 : St) (ta1 : Option Addr) (tc1 : Nat) (a1 : Option Addr) (c1 : Nat) (hw1 : s1.wide) (s2 : St) (ta2 : Option Addr) (tc2 : Nat) (a2 : Option Addr) (c2 : Nat) (hw2 : s2.wide) (w : World)
    (h1 : TsAt w (fun b _ => b < w.heap.size) (.slice ta1 s1.hd.ts.length tc1) s1.hd.ts) (g1 : SHolds w (fun b _ => b < w.heap.size) (.slice a1 s1.subs.length c1) s1.subs) (h2 : TsAt w (fun b _ => b < w.heap.size) (.slice ta2 s2.hd.ts.length tc2) s2.hd.ts) (g2 : SHolds w (fun b _ => b < w.heap.size) (.slice a2 s2.subs.length c2) s2.subs) :
    Calls Try.prog 4 #[vS s1.hd (.slice ta1 s1.hd.ts.length tc1) (.slice a1 s1.subs.length c1), vS s2.hd (.slice ta2 s2.hd.ts.length tc2) (.slice a2 s2.subs.length c2)] w fun e w' => e = .returned (.bool true) ∧ Kept Nil w w' := by
  have HA := Lib.hid (fun W => awakeComp_any W)
  have CF1 := Lib.hid (fun W (kW : Kept Nil w W) (b : Blk W (w.heap.size + 1 + 1) 3 #[.int .i64 0]) => few_any s1 hw1 _ ta1 tc1 a1 c1 W (w.heap.size + 1 + 1) 0 5 (h1.keptN kW) (g1.keptN kW) (fun b _ hb => by omega) b (by omega) (by omega) (by omega))
  have CF2 := Lib.hid (fun W (kW : Kept Nil w W) (b : Blk W (w.heap.size + 1 + 1 + 1) 3 #[.int .i64 0]) => few_any s2 hw2 _ ta2 tc2 a2 c2 W (w.heap.size + 1 + 1 + 1) 0 5 (h2.keptN kW) (g2.keptN kW) (fun b _ hb => by omega) b (by omega) (by omega) (by omega))
  unfold FewEnd at CF1 CF2
  have H1 := Lib.hid h1
  have G1 := Lib.hid g1
  have H2 := Lib.hid h2
  have G2 := Lib.hid g2
  clear h1 g1 h2 g2
  have HM1 : Hid (∀ n : Nat, n = 0 + s1.mass ∧ n ≤ 90 → s1.mass ≤ 5000) := Lib.hid fun n h => by omega
  have HM2 : Hid (∀ n : Nat, n = 0 + s2.mass ∧ n ≤ 90 → s2.mass ≤ 5000) := Lib.hid fun n h => by omega
  obtain ⟨⟨k, k0, k1, k2, ts1⟩, sb1⟩ := s1
  obtain ⟨⟨j, j0, j1, j2, ts2⟩, sb2⟩ := s2
  have T0 := Lib.hid (Four.start w (arrS ⟨k, k0, k1, k2, ts1⟩ (.slice ta1 ts1.length tc1) (.slice a1 sb1.length c1)) (arrS ⟨j, j0, j1, j2, ts2⟩ (.slice ta2 ts2.length tc2) (.slice a2 sb2.length c2)))
  replace CF1 : Hid (∀ W, Kept Nil w W → Blk W (w.heap.size + 1 + 1) 3 #[.int .i64 0] → Calls Try.prog 22 #[vS ⟨k, k0, k1, k2, ts1⟩ (.slice ta1 ts1.length tc1) (.slice a1 sb1.length c1), .int .i64 5, .pointer (some ⟨w.heap.size + 1 + 1, 0, none⟩)] W fun e w' => ∃ (b : Bool) (m' : Nat), e = .returned (.bool b) ∧ Blk w' (w.heap.size + 1 + 1) 3 #[.int .i64 m'] ∧ Kept (fun k => k = w.heap.size + 1 + 1) W w' ∧ (b = true → m' = 0 + (St.mk ⟨k, k0, k1, k2, ts1⟩ sb1).mass ∧ m' ≤ 90)) := CF1
  replace CF2 : Hid (∀ W, Kept Nil w W → Blk W (w.heap.size + 1 + 1 + 1) 3 #[.int .i64 0] → Calls Try.prog 22 #[vS ⟨j, j0, j1, j2, ts2⟩ (.slice ta2 ts2.length tc2) (.slice a2 sb2.length c2), .int .i64 5, .pointer (some ⟨w.heap.size + 1 + 1 + 1, 0, none⟩)] W fun e w' => ∃ (b : Bool) (m' : Nat), e = .returned (.bool b) ∧ Blk w' (w.heap.size + 1 + 1 + 1) 3 #[.int .i64 m'] ∧ Kept (fun k => k = w.heap.size + 1 + 1 + 1) W w' ∧ (b = true → m' = 0 + (St.mk ⟨j, j0, j1, j2, ts2⟩ sb2).mass ∧ m' ≤ 90)) := CF2
  replace H1 : Hid (TsAt w (fun b _ => b < w.heap.size) (.slice ta1 ts1.length tc1) ts1) := H1
  replace H2 : Hid (TsAt w (fun b _ => b < w.heap.size) (.slice ta2 ts2.length tc2) ts2) := H2
  replace G1 : Hid (SHolds w (fun b _ => b < w.heap.size) (.slice a1 sb1.length c1) sb1) := G1
  replace G2 : Hid (SHolds w (fun b _ => b < w.heap.size) (.slice a2 sb2.length c2) sb2) := G2
  change Calls Try.prog 4 #[vS ⟨k, k0, k1, k2, ts1⟩ (.slice ta1 ts1.length tc1) (.slice a1 sb1.length c1), vS ⟨j, j0, j1, j2, ts2⟩ (.slice ta2 ts2.length tc2) (.slice a2 sb2.length c2)] w fun e w' => e = .returned (.bool true) ∧ Kept Nil w w'
  have CR1 : Hid (∀ W, Kept Nil w W → (St.mk ⟨k, k0, k1, k2, ts1⟩ sb1).mass ≤ 5000 → Calls Try.prog 18 #[vS ⟨k, k0, k1, k2, ts1⟩ (.slice ta1 ts1.length tc1) (.slice a1 sb1.length c1)] W fun e w' => ∃ ta tc a cap, e = .returned (vS ⟨k, k0, k1, k2, ts1⟩ (.slice ta ts1.length tc) (.slice a sb1.length cap)) ∧ TsAt w' (okM W.heap.size w') (.slice ta ts1.length tc) ts1 ∧ SHolds w' (okM W.heap.size w') (.slice a sb1.length cap) sb1 ∧ Kept Nil W w') := Lib.hid fun W kW hm => refSt_any (.mk ⟨k, k0, k1, k2, ts1⟩ sb1) hm _ ta1 tc1 a1 c1 W (H1.out.keptN kW) (G1.out.keptN kW)
  have CR2 : Hid (∀ W, Kept Nil w W → (St.mk ⟨j, j0, j1, j2, ts2⟩ sb2).mass ≤ 5000 → Calls Try.prog 18 #[vS ⟨j, j0, j1, j2, ts2⟩ (.slice ta2 ts2.length tc2) (.slice a2 sb2.length c2)] W fun e w' => ∃ ta tc a cap, e = .returned (vS ⟨j, j0, j1, j2, ts2⟩ (.slice ta ts2.length tc) (.slice a sb2.length cap)) ∧ TsAt w' (okM W.heap.size w') (.slice ta ts2.length tc) ts2 ∧ SHolds w' (okM W.heap.size w') (.slice a sb2.length cap) sb2 ∧ Kept Nil W w') := Lib.hid fun W kW hm => refSt_any (.mk ⟨j, j0, j1, j2, ts2⟩ sb2) hm _ ta2 tc2 a2 c2 W (H2.out.keptN kW) (G2.out.keptN kW)
  have CQ1 : Hid (∀ W ok ta tc a cap, (St.mk ⟨k, k0, k1, k2, ts1⟩ sb1).mass ≤ 5000 → TsAt W ok (.slice ta ts1.length tc) ts1 → SHolds W ok (.slice a sb1.length cap) sb1 → Calls Try.prog 23 #[vS ⟨k, k0, k1, k2, ts1⟩ (.slice ta ts1.length tc) (.slice a sb1.length cap), .int .i64 1] W fun e w' => e = .returned (.bool (St.mk ⟨k, k0, k1, k2, ts1⟩ sb1).right) ∧ Kept Nil W w') := Lib.hid fun W ok ta tc a cap hm x y => by
    have := refRightS_any (.mk ⟨k, k0, k1, k2, ts1⟩ sb1) hm ok ta tc a cap 1 W x y (by omega) (by omega)
    rw [St.eta, rAt_right] at this
    exact this
  have CQ2 : Hid (∀ W ok ta tc a cap, (St.mk ⟨j, j0, j1, j2, ts2⟩ sb2).mass ≤ 5000 → TsAt W ok (.slice ta ts2.length tc) ts2 → SHolds W ok (.slice a sb2.length cap) sb2 → Calls Try.prog 23 #[vS ⟨j, j0, j1, j2, ts2⟩ (.slice ta ts2.length tc) (.slice a sb2.length cap), .int .i64 1] W fun e w' => e = .returned (.bool (St.mk ⟨j, j0, j1, j2, ts2⟩ sb2).right) ∧ Kept Nil W w') := Lib.hid fun W ok ta tc a cap hm x y => by
    have := refRightS_any (.mk ⟨j, j0, j1, j2, ts2⟩ sb2) hm ok ta tc a cap 1 W x y (by omega) (by omega)
    rw [St.eta, rAt_right] at this
    exact this
  have CP1 : Hid (∀ W, Kept Nil w W → (St.mk ⟨k, k0, k1, k2, ts1⟩ sb1).mass ≤ 5000 → Calls Try.prog 15 #[vS ⟨k, k0, k1, k2, ts1⟩ (.slice ta1 ts1.length tc1) (.slice a1 sb1.length c1)] W fun e w' => e = .returned (.bool (St.mk ⟨k, k0, k1, k2, ts1⟩ sb1).right) ∧ Kept Nil W w') := Lib.hid fun W kW hm => stRight_any (.mk ⟨k, k0, k1, k2, ts1⟩ sb1) hm _ ta1 tc1 a1 c1 W (H1.out.keptN kW) (G1.out.keptN kW)
  have CP2 : Hid (∀ W, Kept Nil w W → (St.mk ⟨j, j0, j1, j2, ts2⟩ sb2).mass ≤ 5000 → Calls Try.prog 15 #[vS ⟨j, j0, j1, j2, ts2⟩ (.slice ta2 ts2.length tc2) (.slice a2 sb2.length c2)] W fun e w' => e = .returned (.bool (St.mk ⟨j, j0, j1, j2, ts2⟩ sb2).right) ∧ Kept Nil W w') := Lib.hid fun W kW hm => stRight_any (.mk ⟨j, j0, j1, j2, ts2⟩ sb2) hm _ ta2 tc2 a2 c2 W (H2.out.keptN kW) (G2.out.keptN kW)
  have CS : Hid (∀ W, Kept Nil w W → (St.mk ⟨k, k0, k1, k2, ts1⟩ sb1).mass ≤ 5000 → (St.mk ⟨j, j0, j1, j2, ts2⟩ sb2).mass ≤ 5000 → (St.mk ⟨k, k0, k1, k2, ts1⟩ sb1).right = true → (St.mk ⟨j, j0, j1, j2, ts2⟩ sb2).right = true → Calls Try.prog 24 #[vS ⟨k, k0, k1, k2, ts1⟩ (.slice ta1 ts1.length tc1) (.slice a1 sb1.length c1), vS ⟨j, j0, j1, j2, ts2⟩ (.slice ta2 ts2.length tc2) (.slice a2 sb2.length c2)] W fun e w' => e = .returned (.bool ((St.mk ⟨k, k0, k1, k2, ts1⟩ sb1).same (.mk ⟨j, j0, j1, j2, ts2⟩ sb2))) ∧ Kept Nil W w') := Lib.hid fun W kW hm hm' hr hr' => bigSameS_any (.mk ⟨k, k0, k1, k2, ts1⟩ sb1) (.mk ⟨j, j0, j1, j2, ts2⟩ sb2) hm hm' hr hr' _ _ ta1 tc1 a1 c1 ta2 tc2 a2 c2 W (H1.out.keptN kW) (G1.out.keptN kW) (H2.out.keptN kW) (G2.out.keptN kW)
  have CT : Hid (∀ W ok ok' ta tc a cap ta' tc' a' cap', (St.mk ⟨k, k0, k1, k2, ts1⟩ sb1).mass ≤ 5000 → (St.mk ⟨j, j0, j1, j2, ts2⟩ sb2).mass ≤ 5000 → TsAt W ok (.slice ta ts1.length tc) ts1 → SHolds W ok (.slice a sb1.length cap) sb1 → TsAt W ok' (.slice ta' ts2.length tc') ts2 → SHolds W ok' (.slice a' sb2.length cap') sb2 → Calls Try.prog 17 #[vS ⟨k, k0, k1, k2, ts1⟩ (.slice ta ts1.length tc) (.slice a sb1.length cap), vS ⟨j, j0, j1, j2, ts2⟩ (.slice ta' ts2.length tc') (.slice a' sb2.length cap')] W fun e w' => e = .returned (.bool ((St.mk ⟨k, k0, k1, k2, ts1⟩ sb1).same (.mk ⟨j, j0, j1, j2, ts2⟩ sb2))) ∧ Kept Nil W w') := Lib.hid fun W ok ok' ta tc a cap ta' tc' a' cap' hm hm' x y x' y' => refSameS_any (.mk ⟨k, k0, k1, k2, ts1⟩ sb1) hm (.mk ⟨j, j0, j1, j2, ts2⟩ sb2) hm' ok ok' ta tc a cap ta' tc' a' cap' W x y x' y'
  clear H1 H2 G1 G2 hw1 hw2
  generalize (St.mk ⟨k, k0, k1, k2, ts1⟩ sb1).same (.mk ⟨j, j0, j1, j2, ts2⟩ sb2) = q at CS CT
  generalize (St.mk ⟨k, k0, k1, k2, ts1⟩ sb1).right = r1 at CQ1 CP1 CS
  generalize (St.mk ⟨j, j0, j1, j2, ts2⟩ sb2).right = r2 at CQ2 CP2 CS
  generalize (St.mk ⟨k, k0, k1, k2, ts1⟩ sb1).mass = z1 at *
  generalize (St.mk ⟨j, j0, j1, j2, ts2⟩ sb2).mass = z2 at *
  generalize ts1.length = tn1 at *
  generalize ts2.length = tn2 at *
  generalize sb1.length = n1 at *
  generalize sb2.length = n2 at *
  go_enter Try.func4, Try.ntmps4
  go_wp2_with fail
  obtain ⟨W0, hW0⟩ : ∃ W0, ((((w.alloc (.cells (arrS ⟨k, k0, k1, k2, ts1⟩ (.slice ta1 tn1 tc1) (.slice a1 n1 c1)) 42)).alloc (.cells (arrS ⟨j, j0, j1, j2, ts2⟩ (.slice ta2 tn2 tc2) (.slice a2 n2 c2)) 42)).alloc (.cells #[.int .i64 0] 3)).alloc (.cells #[.int .i64 0] 3)) = W0 := ⟨_, rfl⟩
  rw [hW0] at T0
  rw [show ((((w.alloc (.cells #[.int .i64 k, .int .i64 k0, .int .i64 k1, .int .i64 k2, .slice ta1 tn1 tc1, .slice a1 n1 c1] 42)).alloc (.cells #[.int .i64 j, .int .i64 j0, .int .i64 j1, .int .i64 j2, .slice ta2 tn2 tc2, .slice a2 n2 c2] 42)).alloc (.cells #[.int .i64 0] 3)).alloc (.cells #[.int .i64 0] 3)) = W0 from hW0]
  clear hW0
  refine (CF1.out _ T0.out.kept T0.out.b2).mono ?_
  rintro e w1 ⟨b1, m1, rfl, i1, k1, e1⟩
  have T1 := Lib.hid (T0.out.one k1 i1)
  have E1 := Lib.hid e1
  clear i1 k1 e1 T0 CF1
  cases b1
  · go_wp2_with fail
    refine (HA.out _).mono ?_
    rintro e w3 ⟨rfl, k3⟩
    go_wp2_with fail
    go_ret
    exact ⟨rfl, T1.out.kept.trans k3 (fun _ _ g => g)⟩
  · have hz1 := HM1.out m1 (E1.out rfl)
    have d0 := T1.out.b1.cell 0
    have d1 := T1.out.b1.cell 1
    have d2 := T1.out.b1.cell 2
    have d3 := T1.out.b1.cell 3
    have d4 := T1.out.b1.cell 4
    have d5 := T1.out.b1.cell 5
    simp at d0 d1 d2 d3 d4 d5
    go_wp2_with fail
    refine (CF2.out _ T1.out.kept T1.out.b3).mono ?_
    rintro e w2 ⟨b2, m2, rfl, i2, k2', e2⟩
    have T2 := Lib.hid (T1.out.two k2' i2)
    have E2 := Lib.hid e2
    clear i2 k2' e2 T1 CF2 d0 d1 d2 d3 d4 d5
    cases b2
    · go_wp2_with fail
      refine (HA.out _).mono ?_
      rintro e w3 ⟨rfl, k3⟩
      go_wp2_with fail
      go_ret
      exact ⟨rfl, T2.out.kept.trans k3 (fun _ _ g => g)⟩
    · have hz2 := HM2.out m2 (E2.out rfl)
      have KT : Hid (∀ W, Kept Nil w2 W → Kept Nil w W) := Lib.hid fun W kW => T2.out.kept.trans kW (fun _ _ g => g)
      have S0 := Lib.hid (seenW_of (w0 := w2) T2.out.b0.drew T2.out.b1.drew (Kept.refl Nil w2).drew)
      go_wp2_with fail
      go_region_held3 (SeenW w2 w.heap.size (w.heap.size + 1) (.int .i64 k) (.int .i64 k0) (.int .i64 k1) (.int .i64 k2) (.slice ta1 tn1 tc1) (.slice a1 n1 c1) (.int .i64 j) (.int .i64 j0) (.int .i64 j1) (.int .i64 j2) (.slice ta2 tn2 tc2) (.slice a2 n2 c2))
        (first | (with_reducible assumption) | (with_reducible exact S0.out) | (with_reducible exact seenW_kept k7 (by with_reducible assumption)) | (with_reducible exact seenW_kept k8 (by with_reducible assumption)) | (with_reducible exact seenW_kept k9 (by with_reducible assumption)) | (with_reducible exact seenW_kept k10 (by with_reducible assumption)))
        (first
          | (go_at_call 18; (with_reducible refine (CR1.out _ (KT.out _ (seenW_k (by with_reducible assumption))) hz1).mono ?_); rintro e w7 ⟨ta7, tc7, a7, c7, rfl, h7, g7, k7⟩)
          | (go_at_call 18; (with_reducible refine (CR2.out _ (KT.out _ (seenW_k (by with_reducible assumption))) hz2).mono ?_); rintro e w8 ⟨ta8, tc8, a8, c8, rfl, h8, g8, k8⟩)
          | (go_at_call 23; (with_reducible refine (CQ1.out _ _ _ _ _ _ hz1 h7 g7).mono ?_); rintro e w9 ⟨rfl, k9⟩)
          | (go_at_call 23; (with_reducible refine (CQ2.out _ _ _ _ _ _ hz2 h8 g8).mono ?_); rintro e w10 ⟨rfl, k10⟩))
      have T10 := Lib.hid (T2.out.step (seenW_k (by with_reducible assumption)))
      have x0 := T10.out.b0.cell 0
      have x1 := T10.out.b0.cell 1
      have x2 := T10.out.b0.cell 2
      have x3 := T10.out.b0.cell 3
      have x4 := T10.out.b0.cell 4
      have x5 := T10.out.b0.cell 5
      simp at x0 x1 x2 x3 x4 x5
      have K10 : Hid (Kept Nil w2 w10) := Lib.hid (seenW_k (by with_reducible assumption))
      clear h7 g7 k7 h8 g8 k8 k9 k10 S0
      cases r1 <;> cases r2
      all_goals
        go_wp2_with fail
        refine (CP1.out _ T10.out.kept hz1).mono ?_
        rintro e w11 ⟨rfl, k11⟩
        have T11 := Lib.hid (T10.out.step k11)
        have K11 := Lib.hid (K10.out.trans k11 (fun _ _ g => g))
        have y0 := T11.out.b1.cell 0
        have y1 := T11.out.b1.cell 1
        have y2 := T11.out.b1.cell 2
        have y3 := T11.out.b1.cell 3
        have y4 := T11.out.b1.cell 4
        have y5 := T11.out.b1.cell 5
        simp at y0 y1 y2 y3 y4 y5
        clear k11
        go_wp2_with fail
        refine (CP2.out _ T11.out.kept hz2).mono ?_
        rintro e w12 ⟨rfl, k12⟩
        have T12 := Lib.hid (T11.out.step k12)
        have S1 := Lib.hid (seenW_of (w0 := w2) T12.out.b0.drew T12.out.b1.drew (K11.out.trans k12 (fun _ _ g => g)).drew)
        clear k12 x0 x1 x2 x3 x4 x5 y0 y1 y2 y3 y4 y5 T10 T11 K10 K11
        go_wp2_with fail
      · have O := Lib.hid (show Kept Nil w12 w12.drew from (Kept.refl Nil w12).drew)
        refine wp_region_in (Kept Nil w12) (by kernel_rfl) (by kernel_rfl) O.out ?_
        have inst : Nonempty (CW (Kept Nil w12)) := ⟨⟨_, O.out⟩⟩
        repeat (go_big_quiet_step ((go_at_call 9; with_reducible exact call_in keptStep (HA.out _))))
        refine wpQuiet_nil ?_
        rintro _ ⟨n, rfl⟩
        go_wp2_with fail
        go_ret
        exact ⟨rfl, T12.out.kept.trans n.of (fun _ _ g => g)⟩
      · have O := Lib.hid (show Kept Nil w12 w12.drew from (Kept.refl Nil w12).drew)
        refine wp_region_in (Kept Nil w12) (by kernel_rfl) (by kernel_rfl) O.out ?_
        have inst : Nonempty (CW (Kept Nil w12)) := ⟨⟨_, O.out⟩⟩
        repeat (go_big_quiet_step ((go_at_call 9; with_reducible exact call_in keptStep (HA.out _))))
        refine wpQuiet_nil ?_
        rintro _ ⟨n, rfl⟩
        go_wp2_with fail
        go_ret
        exact ⟨rfl, T12.out.kept.trans n.of (fun _ _ g => g)⟩
      · have O := Lib.hid (show Kept Nil w12 w12.drew from (Kept.refl Nil w12).drew)
        refine wp_region_in (Kept Nil w12) (by kernel_rfl) (by kernel_rfl) O.out ?_
        have inst : Nonempty (CW (Kept Nil w12)) := ⟨⟨_, O.out⟩⟩
        repeat (go_big_quiet_step ((go_at_call 9; with_reducible exact call_in keptStep (HA.out _))))
        refine wpQuiet_nil ?_
        rintro _ ⟨n, rfl⟩
        go_wp2_with fail
        go_ret
        exact ⟨rfl, T12.out.kept.trans n.of (fun _ _ g => g)⟩
      · have CS2 := Lib.hid (fun W kW => CS.out W kW hz1 hz2 (by first | rfl | trivial) (by first | rfl | trivial))
        cases q
        · go_region_held3 (SeenW w2 w.heap.size (w.heap.size + 1) (.int .i64 k) (.int .i64 k0) (.int .i64 k1) (.int .i64 k2) (.slice ta1 tn1 tc1) (.slice a1 n1 c1) (.int .i64 j) (.int .i64 j0) (.int .i64 j1) (.int .i64 j2) (.slice ta2 tn2 tc2) (.slice a2 n2 c2))
            (first | (with_reducible assumption) | (with_reducible exact S1.out) | (with_reducible exact seenW_kept k13 (by with_reducible assumption)) | (with_reducible exact seenW_kept k14 (by with_reducible assumption)) | (with_reducible exact seenW_kept k15 (by with_reducible assumption)) | (with_reducible exact seenW_kept k16 (by with_reducible assumption)) | (with_reducible exact seenW_kept k17 (by with_reducible assumption)))
            (first
          | (go_at_call 24; (with_reducible refine (CS2.out _ (KT.out _ (seenW_k (by with_reducible assumption)))).mono ?_); rintro e w13 ⟨rfl, k13⟩)
          | (go_at_call 18; (with_reducible refine (CR1.out _ (KT.out _ (seenW_k (by with_reducible assumption))) hz1).mono ?_); rintro e w14 ⟨ta14, tc14, a14, c14, rfl, h14, g14, k14⟩)
          | (go_at_call 18; (with_reducible refine (CR2.out _ (KT.out _ (seenW_k (by with_reducible assumption))) hz2).mono ?_); rintro e w15 ⟨ta15, tc15, a15, c15, rfl, h15, g15, k15⟩)
          | (go_at_call 17; (with_reducible refine (CT.out _ _ _ _ _ _ _ _ _ _ _ hz1 hz2 (h14.keptN k15) (g14.keptN k15) h15 g15).mono ?_); rintro e w16 ⟨rfl, k16⟩)
          | (go_at_call 9; refine (HA.out _).mono ?_; rintro e w17 ⟨rfl, k17⟩))
          all_goals
            have HK := Lib.hid (KT.out _ (seenW_k (by with_reducible assumption)))
            go_wp2_with fail
            go_ret
            exact ⟨rfl, HK.out⟩
        · go_region_held3 (SeenW w2 w.heap.size (w.heap.size + 1) (.int .i64 k) (.int .i64 k0) (.int .i64 k1) (.int .i64 k2) (.slice ta1 tn1 tc1) (.slice a1 n1 c1) (.int .i64 j) (.int .i64 j0) (.int .i64 j1) (.int .i64 j2) (.slice ta2 tn2 tc2) (.slice a2 n2 c2))
            (first | (with_reducible assumption) | (with_reducible exact S1.out) | (with_reducible exact seenW_kept k13 (by with_reducible assumption)) | (with_reducible exact seenW_kept k14 (by with_reducible assumption)) | (with_reducible exact seenW_kept k15 (by with_reducible assumption)) | (with_reducible exact seenW_kept k16 (by with_reducible assumption)) | (with_reducible exact seenW_kept k17 (by with_reducible assumption)))
            (first
          | (go_at_call 24; (with_reducible refine (CS2.out _ (KT.out _ (seenW_k (by with_reducible assumption)))).mono ?_); rintro e w13 ⟨rfl, k13⟩)
          | (go_at_call 18; (with_reducible refine (CR1.out _ (KT.out _ (seenW_k (by with_reducible assumption))) hz1).mono ?_); rintro e w14 ⟨ta14, tc14, a14, c14, rfl, h14, g14, k14⟩)
          | (go_at_call 18; (with_reducible refine (CR2.out _ (KT.out _ (seenW_k (by with_reducible assumption))) hz2).mono ?_); rintro e w15 ⟨ta15, tc15, a15, c15, rfl, h15, g15, k15⟩)
          | (go_at_call 17; (with_reducible refine (CT.out _ _ _ _ _ _ _ _ _ _ _ hz1 hz2 (h14.keptN k15) (g14.keptN k15) h15 g15).mono ?_); rintro e w16 ⟨rfl, k16⟩)
          | (go_at_call 9; refine (HA.out _).mono ?_; rintro e w17 ⟨rfl, k17⟩))
          all_goals
            have HK := Lib.hid (KT.out _ (seenW_k (by with_reducible assumption)))
            go_wp2_with fail
            go_ret
            exact ⟨rfl, HK.out⟩
end Go.Proofs.Ytoceogbanlmnoaa
