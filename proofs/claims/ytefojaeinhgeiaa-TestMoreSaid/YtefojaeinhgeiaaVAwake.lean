/- Layer test: the document's example; the law's own right; Which of a step that nothing meets. -/
import Derived.Test.YtefojaeinhgeiaaVMeets
namespace Go.Proofs.Ytefojaeinhgeiaa
open Go.RowKit
set_option maxRecDepth 100000

theorem inLit {w : World} {b : Nat} {T : TypeId} {t : T3} (h : Blk w b T #[.int .i64 t.1, .int .i64 t.2.1, .int .i64 t.2.2]) : In cT3 3 w (some ⟨b, 0, none⟩) 1 [t] := by
  refine ⟨rfl, .inr ⟨b, 0, rfl, h.lt, fun j x i v hj hi => ?_⟩⟩
  obtain rfl : j = 0 := by have := (List.getElem?_eq_some_iff.1 hj).1; simp at this; omega
  obtain rfl : t = x := by simpa using hj
  rw [Nat.zero_mul, Nat.zero_add, h.cell i]
  simpa using hi
theorem tsLit {w : World} {b : Nat} {T : TypeId} {x : Tst} (h : Blk w b T #[.int .i64 x.1, .int .i64 x.2.1, .int .i64 x.2.2]) : TsAt w (fun _ _ => True) (.slice (some ⟨b, 0, none⟩) 1 1) [x] := by
  refine .row b 0 1 [x] (Nat.le_refl _) trivial (fun i t hi j u hj => ?_)
  obtain rfl : i = 0 := by have := (List.getElem?_eq_some_iff.1 hi).1; simp at this; omega
  obtain rfl : x = t := by simpa using hi
  rw [Nat.zero_mul, Nat.zero_add, h.cell j]
  simpa using hj
/-- What stands in memory in the example. -/
structure AW (w W : World) : Prop where
  kept : Kept Nil w W
  b0 : Blk W w.heap.size 66 #[.int .i64 0, .int .i64 0, .int .i64 2]
  b1 : Blk W (w.heap.size + 1) 52 #[.int .i64 1, .int .i64 0, .int .i64 0, .int .i64 0, .slice (some ⟨w.heap.size, 0, none⟩) 1 1, .slice none 0 0]
  b2 : Blk W (w.heap.size + 1 + 1) 48 #[.int .i64 1, .int .i64 2, .int .i64 3]
theorem AW.keptN {w W W' : World} (h : AW w W) (k : Kept Nil W W') : AW w W' := ⟨h.kept.trans k (fun _ _ e => e), h.b0.kept k (fun e => e), h.b1.kept k (fun e => e), h.b2.kept k (fun e => e)⟩
theorem AW.start (w : World) : AW w (((w.alloc (.cells #[.int .i64 0, .int .i64 0, .int .i64 2] 66)).alloc (.cells #[.int .i64 1, .int .i64 0, .int .i64 0, .int .i64 0, .slice (some ⟨w.heap.size, 0, none⟩) 1 1, .slice none 0 0] 52)).alloc (.cells #[.int .i64 1, .int .i64 2, .int .i64 3] 48)) :=
  ⟨(((Kept.refl Nil w).alloc _).alloc _).alloc _, ((Blk.new w _ _).alloc _).alloc _, (blk_at (by simp)).alloc _, blk_at (by simp)⟩
theorem AW.meets {w W : World} (h : AW w W) (bk : List T3) (a : Option Addr) (n c : Nat) (hn : n ≤ 1) (hi : In cT3 3 W a n bk) (t : T3) :
    Calls Try.prog 14 #[.agg #[.int .i64 1, .int .i64 0, .int .i64 0, .int .i64 0, .slice (some ⟨w.heap.size, 0, none⟩) 1 1, .slice none 0 0], .slice a n c, av t] W fun e w' => e = .returned (.bool (meetH ⟨1, 0, 0, 0, [(0, 0, 2)]⟩ bk t)) ∧ Kept Nil W w' :=
  meets_any ⟨1, 0, 0, 0, [(0, 0, 2)]⟩ bk t (fun x hx => by rw [List.mem_singleton.1 hx]; exact ⟨⟨by decide, by decide⟩, by decide⟩) (by decide) a n c (by unfold maxLen; omega) _ _ 1 (.slice none 0 0) ⟨none, 0, 0, rfl⟩ W hi (tsLit (x := (0, 0, 2)) h.b0)
set_option maxHeartbeats 4000000 in
theorem awakeT_any (w : World) : Calls Try.prog 8 #[] w fun e w' => e = .returned (.bool true) ∧ Kept Nil w w' := by
  have hA := AW.start w
  go_enter Try.func8, Try.ntmps8
  go_upto_region 3 with fail
  generalize (((w.alloc (.cells #[.int .i64 0, .int .i64 0, .int .i64 2] 66)).alloc (.cells #[.int .i64 1, .int .i64 0, .int .i64 0, .int .i64 0, .slice (some ⟨w.heap.size, 0, none⟩) 1 1, .slice none 0 0] 52)).alloc (.cells #[.int .i64 1, .int .i64 2, .int .i64 3] 48)) = W at *
  have HA := Lib.hid hA
  have s0 := hA.b1.cell 0
  have s1 := hA.b1.cell 1
  have s2 := hA.b1.cell 2
  have s3 := hA.b1.cell 3
  have s4 := hA.b1.cell 4
  have s5 := hA.b1.cell 5
  simp at s0 s1 s2 s3 s4 s5
  have C1 := Lib.hid (hA.meets [(1, 2, 3)] _ 1 1 (Nat.le_refl _) (inLit (t := (1, 2, 3)) hA.b2) (3, 9, 9))
  clear hA
  go_wp2_with fail
  refine C1.out.mono ?_
  rintro e w1 ⟨rfl, k1⟩
  have hA1 := HA.out.keptN k1
  have HA1 := Lib.hid hA1
  have s0 := hA1.b1.cell 0
  have s1 := hA1.b1.cell 1
  have s2 := hA1.b1.cell 2
  have s3 := hA1.b1.cell 3
  have s4 := hA1.b1.cell 4
  have s5 := hA1.b1.cell 5
  simp at s0 s1 s2 s3 s4 s5
  have C2 := Lib.hid (hA1.meets [(1, 2, 3)] _ 1 1 (Nat.le_refl _) (inLit (t := (1, 2, 3)) hA1.b2) (1, 9, 9))
  have m1 : meetH ⟨1, 0, 0, 0, [(0, 0, 2)]⟩ [(1, 2, 3)] (3, 9, 9) = true := by decide
  have m2 : meetH ⟨1, 0, 0, 0, [(0, 0, 2)]⟩ [(1, 2, 3)] (1, 9, 9) = false := by decide
  have m3 : meetH ⟨1, 0, 0, 0, [(0, 0, 2)]⟩ [] (3, 9, 9) = false := by decide
  have M3 := Lib.hid m3
  rw [m2] at C2
  rw [m1]
  clear hA1 k1 C1 HA m1 m2 m3
  go_wp2_with fail
  refine C2.out.mono ?_
  rintro e w2 ⟨rfl, k2⟩
  have hA2 := HA1.out.keptN k2
  have HA2 := Lib.hid hA2
  have s0 := hA2.b1.cell 0
  have s1 := hA2.b1.cell 1
  have s2 := hA2.b1.cell 2
  have s3 := hA2.b1.cell 3
  have s4 := hA2.b1.cell 4
  have s5 := hA2.b1.cell 5
  simp at s0 s1 s2 s3 s4 s5
  have C3 := Lib.hid (hA2.meets [] none 0 0 (Nat.zero_le _) ⟨rfl, .inl rfl⟩ (3, 9, 9))
  rw [M3.out] at C3
  clear hA2 k2 C2 HA1 M3
  go_wp2_with fail
  refine C3.out.mono ?_
  rintro e w3 ⟨rfl, k3⟩
  go_wp2_with fail
  go_ret
  exact ⟨rfl, HA2.out.kept.trans k3 (fun _ _ e => e)⟩
/-- All triples of a list are right. -/
def rightL (l : List T3) : Bool := l.all okT
set_option maxHeartbeats 2000000 in
theorem rightL_any (l : List T3) (a : Option Addr) (n c : Nat) (hn : n ≤ maxLen) (w : World) (h : In cT3 3 w a n l) :
    Calls Try.prog 7 #[.slice a n c] w fun e w' => e = .returned (.bool (rightL l)) ∧ Kept Nil w w' := by
  have hn1 := hn
  unfold maxLen at hn1
  have HH := Lib.hid h
  clear h
  go_enter Try.func7, Try.ntmps7
  go_wp2_with fail
  go_loopw [7] (fun i wr => ∃ j : Nat, j ≤ n ∧ i = .int .i64 j ∧ rightL l = rightL (l.drop j) ∧ Kept Nil w wr) (fun i _ => n - (intOf i).toNat)
  case atStart => exact ⟨0, by omega, rfl, rfl, Kept.refl _ _⟩
  case round =>
    obtain ⟨j, hj, rfl, hch, hK⟩ := hrel
    have HK := Lib.hid hK
    have HCh := Lib.hid hch
    clear hK hch
    by_cases hlt : j < n
    · obtain ⟨⟨x, y, z⟩, hx⟩ : ∃ x, l[j]? = some x := ⟨_, List.getElem?_eq_getElem (by have := HH.out.1; omega)⟩
      obtain ⟨b, o, rfl, hb, p0, p1, p2⟩ := (HH.out.kept HK.out).three hx
      have HN : Hid (rightL (l.drop j) = (okT (x, y, z) && rightL (l.drop (j + 1)))) := Lib.hid (by
        obtain ⟨hl, e⟩ := List.getElem?_eq_some_iff.1 hx
        unfold rightL
        rw [List.drop_eq_getElem_cons hl, e, List.all_cons])
      have CR : Hid (∀ W, Calls Try.prog 15 #[.agg #[.int .i64 x, .int .i64 y, .int .i64 z]] W fun e w' => e = .returned (.bool (okT (x, y, z))) ∧ Kept Nil W w') := Lib.hid fun W => refTri_any (x, y, z) W
      generalize okT (x, y, z) = q at *
      simp only at p0 p1 p2
      clear hx
      have KA := Lib.hid ((Kept.refl Nil wr).alloc (.cells #[.int .i64 x, .int .i64 y, .int .i64 z] 48))
      go_wp2_with fail
      refine (CR.out _).mono ?_
      rintro e w2 ⟨rfl, k2⟩
      have K2 := Lib.hid ((HK.out.trans KA.out (fun _ _ g => g)).trans k2 (fun _ _ g => g))
      clear k2
      cases q
      · go_wp2_with fail
        go_ret
        exact ⟨ret_bool (by rw [HCh.out, HN.out]; rfl), K2.out⟩
      · go_wp2_with fail
        go_roundw
        case rel => exact ⟨j + 1, by omega, by go_num, by rw [HCh.out, HN.out]; rfl, K2.out⟩
        case measure => simp [intOf]; omega
    · obtain rfl : j = n := by omega
      have HE : Hid (rightL (l.drop j) = true) := Lib.hid (by rw [List.drop_eq_nil_of_le (by rw [HH.out.1]; exact Nat.le_refl _)]; rfl)
      go_wp2_with fail
      go_ret
      exact ⟨ret_bool (by rw [HCh.out, HE.out]), HK.out⟩
/-- A fact's cells. -/
abbrev F4 := Int × T3
abbrev cF (f : F4) : List Value := [.int .i64 f.1, .int .i64 f.2.1, .int .i64 f.2.2.1, .int .i64 f.2.2.2]
set_option maxHeartbeats 4000000 in
theorem whichNone_any (h : SH) (hk : h.k = 3) (bk : List T3) (hts : h.ts = []) (a : Option Addr) (n c : Nat) (hn : n ≤ maxLen) (ok : Nat → Nat → Prop) (ta : Option Addr) (tc : Nat) (u : Value) (hu : ∃ a n c, u = .slice a n c) (w : World) (hi : In cT3 3 w a n bk) (ht : TsAt w ok (.slice ta h.ts.length tc) h.ts)
    (fs : List F4) (fa : Option Addr) (fn fc : Nat) (hfn : fn ≤ 100) (hF : In cF 4 w fa fn fs) :
    Calls Try.prog 17 #[vS h (.slice ta h.ts.length tc) u, .slice a n c, .slice fa fn fc] w fun e w' => e = .returned (.slice none 0 0) ∧ Kept Nil w w' := by
  obtain ⟨ua, un, uc, rfl⟩ := hu
  obtain ⟨k, k0, k1, k2, ts⟩ := h
  simp only at hk hts ht ⊢
  subst hk
  have CM : Hid (∀ W (t : T3), Kept Nil w W → Calls Try.prog 14 #[vS ⟨3, k0, k1, k2, ts⟩ (.slice ta ts.length tc) (.slice ua un uc), .slice a n c, av t] W fun e w' => e = .returned (.bool false) ∧ Kept Nil W w') := Lib.hid fun W t kW => by
    have := meets_any ⟨3, k0, k1, k2, ts⟩ bk t (fun x hx => by rw [hts] at hx; cases hx) (by rw [hts]; exact Nat.zero_le _) a n c hn ok ta tc (.slice ua un uc) ⟨ua, un, uc, rfl⟩ W (hi.kept kW) (ht.keptN kW)
    exact this
  generalize ts.length = tn at *
  have B0 := Lib.hid (Blk.new w 52 (arrS ⟨3, k0, k1, k2, ts⟩ (.slice ta tn tc) (.slice ua un uc)))
  have K0 := Lib.hid ((Kept.refl Nil w).alloc (.cells (arrS ⟨3, k0, k1, k2, ts⟩ (.slice ta tn tc) (.slice ua un uc)) 52))
  have HF := Lib.hid hF
  clear hi ht hts hF
  go_enter Try.func17, Try.ntmps17
  go_wp2_with fail
  go_loopw [7, 12] (fun v i wr => ∃ j : Nat, j ≤ fn ∧ i = .int .i64 j ∧ v = .slice none 0 0 ∧ Blk wr w.heap.size 52 (arrS ⟨3, k0, k1, k2, ts⟩ (.slice ta tn tc) (.slice ua un uc)) ∧ Kept Nil w wr) (fun _ i _ => fn - (intOf i).toNat)
  case atStart => exact ⟨0, by omega, rfl, rfl, B0.out, K0.out⟩
  case round =>
    obtain ⟨j, hj, rfl, rfl, hB, hK⟩ := hrel
    have HK := Lib.hid hK
    have HB := Lib.hid hB
    clear hK hB
    by_cases hlt : j < fn
    · obtain ⟨⟨fi, x, y, z⟩, hx⟩ : ∃ x, fs[j]? = some x := ⟨_, List.getElem?_eq_getElem (by have := HF.out.1; omega)⟩
      obtain ⟨b, o, rfl, hb, hc⟩ := (HF.out.kept HK.out).at_ hx
      have p0 := hc 0 _ rfl
      have p1 := hc 1 _ rfl
      have p2 := hc 2 _ rfl
      have p3 := hc 3 _ rfl
      simp only [Nat.add_zero] at p0 p1 p2 p3
      clear hx hc
      have hbw : w.heap.size < wr.heap.size := HB.out.lt
      have s0 := HB.out.cell 0
      have s1 := HB.out.cell 1
      have s2 := HB.out.cell 2
      have s3 := HB.out.cell 3
      have s4 := HB.out.cell 4
      have s5 := HB.out.cell 5
      simp at s0 s1 s2 s3 s4 s5
      have KA := Lib.hid (HK.out.trans ((Kept.refl Nil wr).alloc (.cells #[.int .i64 fi, .int .i64 x, .int .i64 y, .int .i64 z] 62)) (fun _ _ e => e))
      have CX : Hid (∀ W, Kept Nil w W → Calls Try.prog 14 #[.agg #[.int .i64 3, .int .i64 k0, .int .i64 k1, .int .i64 k2, .slice ta tn tc, .slice ua un uc], .slice a n c, .agg #[.int .i64 x, .int .i64 y, .int .i64 z]] W fun e w' => e = .returned (.bool false) ∧ Kept Nil W w') := Lib.hid fun W kW => CM.out W (x, y, z) kW
      go_wp2_with fail
      refine (CX.out _ KA.out).mono ?_
      rintro e w2 ⟨rfl, k2⟩
      have K2 := Lib.hid (KA.out.trans k2 (fun _ _ g => g))
      have B2 := Lib.hid ((HB.out.kept ((Kept.refl Nil wr).alloc (.cells #[.int .i64 fi, .int .i64 x, .int .i64 y, .int .i64 z] 62)) (fun e => e)).kept k2 (fun e => e))
      clear k2 s0 s1 s2 s3 s4 s5 p0 p1 p2 p3
      go_wp2_with fail
      go_roundw
      case rel => exact ⟨j + 1, by omega, by go_num, rfl, B2.out, K2.out⟩
      case measure => simp [intOf]; omega
    · obtain rfl : j = fn := by omega
      go_wp2_with fail
      go_ret
      exact ⟨rfl, HK.out⟩
end Go.Proofs.Ytefojaeinhgeiaa
