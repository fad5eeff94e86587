/- Layer key: the contract of the reference's Parse. -/
import Derived.Test.YtjknibgbbhiooaaDoorKWords
import Derived.Test.YtjknibgbbhiooaaDoorKMath
import Derived.Test.YtjknibgbbhiooaaDoorKKey
namespace Go.Proofs.YtjknibgbbhiooaaDoor
open Go.RowKit
set_option maxRecDepth 100000

def refT (o : Option T3) : T3 := match o with
  | some t => t
  | none => (0, 0, 0)
theorem numK_star {l : List UInt8} (h : l = [42]) : numK l = some 0 := by unfold numK; rw [if_pos h]
theorem numK_no {l : List UInt8} (h : l ≠ [42]) (hb : numL l < 1 ∨ 4096 < numL l) : numK l = none := by
  unfold numK
  rw [if_neg h, if_neg (fun e => by obtain ⟨a, b⟩ := okN_iff.1 e; omega)]
theorem numK_yes {l : List UInt8} (h : l ≠ [42]) (h1 : 1 ≤ numL l) (h2 : numL l ≤ 4096) : numK l = some (numL l) := by
  unfold numK
  rw [if_neg h, if_pos (okN_iff.2 ⟨h1, h2⟩)]
theorem kref_none {l x y z : List UInt8} (h : wl l = [x, y, z]) (hn : numK x = none ∨ numK y = none ∨ numK z = none) : krefL l = none := by
  unfold krefL
  rw [h]
  simp only
  split
  · rename_i a b c e1 e2 e3
    rw [e1, e2, e3] at hn
    rcases hn with hn | hn | hn <;> cases hn
  · rfl
theorem kref_all {l x y z : List UInt8} {a b c : Int} (h : wl l = [x, y, z]) (h1 : numK x = some a) (h2 : numK y = some b) (h3 : numK z = some c) : krefL l = some (a, b, c) := by
  unfold krefL
  rw [h]
  simp only [h1, h2, h3]
theorem kref_len {l : List UInt8} (h : (wl l).length ≠ 3) : krefL l = none := by
  unfold krefL
  split
  · rename_i x y z e; rw [e] at h; exact absurd rfl h
  · rfl
theorem star_yes {x : ByteArray} (h : x.data.toList = [42]) : (x.toList == [42]) = true := by rw [ByteArray.toList_eq, h]; rfl
theorem star_no {x : ByteArray} (h : x.data.toList ≠ [42]) : (x.toList == [42]) = false := by rw [ByteArray.toList_eq, beq_eq_false_iff_ne]; exact h

/-- The words, the result's block, the key's block. -/
structure PIn (w : World) (g : Nat) (X Y Z : ByteArray) (kb : Nat) (oc : Array Value) (W : World) : Prop where
  kept : Kept Nil w W
  res : Blk W w.heap.size 22 (c3 0 0 0)
  key : Blk W kb 22 oc
  x : W.cell? ⟨g, 0, none⟩ = some (.string X)
  y : W.cell? ⟨g, 1, none⟩ = some (.string Y)
  z : W.cell? ⟨g, 2, none⟩ = some (.string Z)
theorem PIn.set_ {w W : World} {g kb : Nat} {X Y Z : ByteArray} {oc : Array Value} (h : PIn w g X Y Z kb oc W) (h1 : w.heap.size < kb) (h2 : g ≠ kb) (i : Nat) (u : Value) :
    PIn w g X Y Z kb (oc.setIfInBounds i u) (W.setCell ⟨kb, i, none⟩ u) :=
  ⟨h.kept.setCell _ (.inr (Nat.le_of_lt h1)) _, h.res.far (by show w.heap.size ≠ kb; omega) _, h.key.set_ i u,
    (World.cell?_of_block (Below.heap_setCell _ _ _ _ h2)).trans h.x, (World.cell?_of_block (Below.heap_setCell _ _ _ _ h2)).trans h.y, (World.cell?_of_block (Below.heap_setCell _ _ _ _ h2)).trans h.z⟩
theorem PIn.facts {w W : World} {g kb : Nat} {X Y Z : ByteArray} {a b c : Int} (h : PIn w g X Y Z kb (c3 a b c) W) :
    (W.cell? ⟨w.heap.size, 0, none⟩ = some (.int .i64 0) ∧ W.cell? ⟨w.heap.size, 1, none⟩ = some (.int .i64 0) ∧ W.cell? ⟨w.heap.size, 2, none⟩ = some (.int .i64 0)) ∧
    (W.frozen? ⟨w.heap.size, 0, none⟩ = false ∧ W.frozen? ⟨w.heap.size, 1, none⟩ = false ∧ W.frozen? ⟨w.heap.size, 2, none⟩ = false) ∧
    (W.cell? ⟨kb, 0, none⟩ = some (.int .i64 a) ∧ W.cell? ⟨kb, 1, none⟩ = some (.int .i64 b) ∧ W.cell? ⟨kb, 2, none⟩ = some (.int .i64 c)) ∧
    (W.frozen? ⟨kb, 0, none⟩ = false ∧ W.frozen? ⟨kb, 1, none⟩ = false ∧ W.frozen? ⟨kb, 2, none⟩ = false) :=
  ⟨⟨h.res.cell 0, h.res.cell 1, h.res.cell 2⟩, ⟨h.res.frozen 0, h.res.frozen 1, h.res.frozen 2⟩, ⟨h.key.cell 0, h.key.cell 1, h.key.cell 2⟩, ⟨h.key.frozen 0, h.key.frozen 1, h.key.frozen 2⟩⟩
theorem Kept.res3 {w W : World} (h : Kept Nil w W) (u v x : Value) : Kept Nil w (((W.setCell ⟨w.heap.size, 0, none⟩ u).setCell ⟨w.heap.size, 1, none⟩ v).setCell ⟨w.heap.size, 2, none⟩ x) :=
  ((h.setCell _ (.inr (Nat.le_refl _)) _).setCell _ (.inr (Nat.le_refl _)) _).setCell _ (.inr (Nat.le_refl _)) _

set_option maxHeartbeats 4000000 in
theorem refParse_any (s : ByteArray) (hs : s.size ≤ 1000) (w : World) :
    Calls Tryd.prog 22 #[.string s] w fun e w' => e = .returned (.tuple #[arr (refT (krefL s.data.toList)), .bool (krefL s.data.toList).isSome]) ∧ Kept Nil w w' := by
  obtain ⟨KR, hKR⟩ : ∃ KR, KR = krefL s.data.toList := ⟨_, rfl⟩
  rw [← hKR]
  have HKR := Lib.hid hKR
  clear hKR
  have R0 := Lib.hid (Blk.new w 22 (c3 0 0 0))
  go_enter Tryd.func22, Tryd.ntmps22
  go_wp2_with fail
  refine (words_any s hs _).mono ?_
  rintro e w1 ⟨v, ws, rfl, HR0, hw, hl, hk⟩
  have R1 := Lib.hid (R0.out.kept hk id)
  have K1 := Lib.hid (((Kept.refl Nil w).alloc (.cells (c3 0 0 0) 22)).trans hk (fun _ _ g => g))
  have HR := Lib.hid HR0
  have HW := Lib.hid hw
  obtain ⟨a, cap, hv⟩ := HR.out.shape
  subst hv
  clear HR0 hw hk R0
  by_cases h3 : ws.length = 3
  · obtain ⟨x, y, z, rfl⟩ : ∃ x y z, ws = [x, y, z] := by
      match ws, h3 with
      | [x, y, z], _ => exact ⟨x, y, z, rfl⟩
    obtain ⟨g, cap', e, g0⟩ := ownName HR.out (i := 0) rfl
    cases e
    obtain ⟨_, _, e, g1⟩ := ownName HR.out (i := 1) rfl
    cases e
    obtain ⟨_, _, e, g2⟩ := ownName HR.out (i := 2) rfl
    cases e
    have hi : x.data.toList ++ 32 :: (y.data.toList ++ 32 :: z.data.toList) = s.data.toList := by
      have := inter_wl s.data.toList
      rw [← HW.out] at this
      exact this
    have hz := congrArg List.length hi
    simp only [List.length_append, List.length_cons, Array.length_toList] at hz
    have zx : x.size ≤ 100000 := by have : x.data.size = x.size := rfl; have : s.data.size = s.size := rfl; omega
    have zy : y.size ≤ 100000 := by have : y.data.size = y.size := rfl; have : s.data.size = s.size := rfl; omega
    have zz : z.size ≤ 100000 := by have : z.data.size = z.size := rfl; have : s.data.size = s.size := rfl; omega
    clear hz hi
    have hgl : g < w1.heap.size := World.block_lt_of_cell? w1 _ g0
    have hne : g ≠ w1.heap.size := by omega
    have hwl : w.heap.size < w1.heap.size := R1.out.lt
    have HL : Hid (wl s.data.toList = [x.data.toList, y.data.toList, z.data.toList]) := Lib.hid HW.out.symm
    obtain ⟨nx, hnx⟩ : ∃ n, n = numL x.data.toList := ⟨_, rfl⟩
    obtain ⟨vx, hvx⟩ : ∃ v, v = (numK x.data.toList).getD 0 := ⟨_, rfl⟩
    have Nx := Lib.hid hnx
    have Vx := Lib.hid hvx
    have Cx : Hid (∀ W : World, Calls Tryd.prog 31 #[.string x] W fun e w' => e = .returned (.int .i64 nx) ∧ W = w') := Lib.hid fun W => by have := refNumber_any x zx W; rw [← hnx] at this; exact this
    obtain ⟨ny, hny⟩ : ∃ n, n = numL y.data.toList := ⟨_, rfl⟩
    obtain ⟨vy, hvy⟩ : ∃ v, v = (numK y.data.toList).getD 0 := ⟨_, rfl⟩
    have Ny := Lib.hid hny
    have Vy := Lib.hid hvy
    have Cy : Hid (∀ W : World, Calls Tryd.prog 31 #[.string y] W fun e w' => e = .returned (.int .i64 ny) ∧ W = w') := Lib.hid fun W => by have := refNumber_any y zy W; rw [← hny] at this; exact this
    obtain ⟨nz, hnz⟩ : ∃ n, n = numL z.data.toList := ⟨_, rfl⟩
    obtain ⟨vz, hvz⟩ : ∃ v, v = (numK z.data.toList).getD 0 := ⟨_, rfl⟩
    have Nz := Lib.hid hnz
    have Vz := Lib.hid hvz
    have Cz : Hid (∀ W : World, Calls Tryd.prog 31 #[.string z] W fun e w' => e = .returned (.int .i64 nz) ∧ W = w') := Lib.hid fun W => by have := refNumber_any z zz W; rw [← hnz] at this; exact this
    clear hnx hny hnz hvx hvy hvz h3 hl zx zy zz HR HW
    have I0 := Lib.hid (show PIn w g x y z w1.heap.size (c3 0 0 0) (w1.alloc (.cells (c3 0 0 0) 22)) from
      ⟨K1.out.alloc _, R1.out.alloc _, Blk.new _ _ _, by rw [((Kept.refl Nil w1).alloc _).cell hgl id]; exact g0, by rw [((Kept.refl Nil w1).alloc _).cell hgl id]; exact g1, by rw [((Kept.refl Nil w1).alloc _).cell hgl id]; exact g2⟩)
    go_wp2_with fail
    go_loopw [6] (fun i wr => (i = .int .i64 0 ∧ Hid (PIn w g x y z w1.heap.size (c3 0 0 0) wr))
      ∨ (i = .int .i64 1 ∧ Hid (numK x.data.toList = some vx) ∧ Hid (PIn w g x y z w1.heap.size (c3 vx 0 0) wr))
      ∨ (i = .int .i64 2 ∧ Hid (numK x.data.toList = some vx) ∧ Hid (numK y.data.toList = some vy) ∧ Hid (PIn w g x y z w1.heap.size (c3 vx vy 0) wr))
      ∨ (i = .int .i64 3 ∧ Hid (numK x.data.toList = some vx) ∧ Hid (numK y.data.toList = some vy) ∧ Hid (numK z.data.toList = some vz) ∧ Hid (PIn w g x y z w1.heap.size (c3 vx vy vz) wr))) (fun i _ => (3 - intOf i).toNat)
    case atStart => exact .inl ⟨rfl, I0⟩
    case round =>
      clear I0 g0 g1 g2 R1 K1
      rcases hrel with ⟨rfl, H⟩ | ⟨rfl, Kx, H⟩ | ⟨rfl, Kx, Ky, H⟩ | ⟨rfl, Kx, Ky, Kz, H⟩
      · obtain ⟨⟨r0, r1, r2⟩, ⟨f0, f1, f2⟩, ⟨u0, u1, u2⟩, d0, d1, d2⟩ := H.out.facts
        have s0 := H.out.x
        by_cases hst : x.data.toList = [42]
        · have q := star_yes hst
          have HN := Lib.hid (numK_star hst)
          have HV : Hid (vx = 0) := Lib.hid (by rw [Vx.out, HN.out]; rfl)
          clear hst
          go_wp2_with fail
          go_roundw
          case rel => exact .inr (.inl ⟨rfl, Lib.hid (by rw [HV.out]; exact HN.out), Lib.hid (by rw [HV.out]; exact H.out)⟩)
          case measure => decide
        · have q := star_no hst
          by_cases h1 : nx < 1
          · have HN := Lib.hid (numK_no hst (.inl (by rw [← Nx.out]; exact h1)))
            have HX : Hid (KR = none) := Lib.hid (HKR.out.trans (kref_none HL.out (.inl HN.out)))
            clear hst
            go_wp2_with fail
            refine (Cx.out _).mono ?_
            rintro e W' ⟨rfl, rfl⟩
            go_wp2_with fail
            have H2 := Lib.hid (H.out.set_ hwl hne 0 (.int .i64 nx))
            refine bodyPost_ret (v := .tuple #[.agg #[.int .i64 0, .int .i64 0, .int .i64 0], .bool false]) (by simp [results, Tryd.results22, go_sem, r0, r1, r2]) rfl ⟨?_, ?_⟩
            · rw [HX.out]; rfl
            · exact H2.out.kept.res3 _ _ _
          · by_cases h2 : 4096 < nx
            · have HN := Lib.hid (numK_no hst (.inr (by rw [← Nx.out]; exact h2)))
              have HX : Hid (KR = none) := Lib.hid (HKR.out.trans (kref_none HL.out (.inl HN.out)))
              clear hst
              go_wp2_with fail
              refine (Cx.out _).mono ?_
              rintro e W' ⟨rfl, rfl⟩
              go_wp2_with fail
              have H2 := Lib.hid (H.out.set_ hwl hne 0 (.int .i64 nx))
              refine bodyPost_ret (v := .tuple #[.agg #[.int .i64 0, .int .i64 0, .int .i64 0], .bool false]) (by simp [results, Tryd.results22, go_sem, r0, r1, r2]) rfl ⟨?_, ?_⟩
              · rw [HX.out]; rfl
              · exact H2.out.kept.res3 _ _ _
            · have HN := Lib.hid (numK_yes hst (by rw [← Nx.out]; omega) (by rw [← Nx.out]; omega))
              have HV : Hid (vx = nx) := Lib.hid (by rw [Vx.out, HN.out, Nx.out]; rfl)
              have m1 : 1 ≤ nx := by omega
              have m2 : nx ≤ 4096 := by omega
              clear hst h1 h2
              go_wp2_with fail
              refine (Cx.out _).mono ?_
              rintro e W' ⟨rfl, rfl⟩
              go_wp2_with fail
              go_roundw
              case rel => exact .inr (.inl ⟨rfl, Lib.hid (by rw [HV.out, Nx.out]; exact HN.out), Lib.hid (by rw [HV.out]; exact H.out.set_ hwl hne 0 (.int .i64 nx))⟩)
              case measure => decide
      · obtain ⟨⟨r0, r1, r2⟩, ⟨f0, f1, f2⟩, ⟨u0, u1, u2⟩, d0, d1, d2⟩ := H.out.facts
        have s0 := H.out.y
        by_cases hst : y.data.toList = [42]
        · have q := star_yes hst
          have HN := Lib.hid (numK_star hst)
          have HV : Hid (vy = 0) := Lib.hid (by rw [Vy.out, HN.out]; rfl)
          clear hst
          go_wp2_with fail
          go_roundw
          case rel => exact .inr (.inr (.inl ⟨rfl, Kx, Lib.hid (by rw [HV.out]; exact HN.out), Lib.hid (by rw [HV.out]; exact H.out)⟩))
          case measure => decide
        · have q := star_no hst
          by_cases h1 : ny < 1
          · have HN := Lib.hid (numK_no hst (.inl (by rw [← Ny.out]; exact h1)))
            have HX : Hid (KR = none) := Lib.hid (HKR.out.trans (kref_none HL.out (.inr (.inl HN.out))))
            clear hst
            go_wp2_with fail
            refine (Cy.out _).mono ?_
            rintro e W' ⟨rfl, rfl⟩
            go_wp2_with fail
            have H2 := Lib.hid (H.out.set_ hwl hne 1 (.int .i64 ny))
            refine bodyPost_ret (v := .tuple #[.agg #[.int .i64 0, .int .i64 0, .int .i64 0], .bool false]) (by simp [results, Tryd.results22, go_sem, r0, r1, r2]) rfl ⟨?_, ?_⟩
            · rw [HX.out]; rfl
            · exact H2.out.kept.res3 _ _ _
          · by_cases h2 : 4096 < ny
            · have HN := Lib.hid (numK_no hst (.inr (by rw [← Ny.out]; exact h2)))
              have HX : Hid (KR = none) := Lib.hid (HKR.out.trans (kref_none HL.out (.inr (.inl HN.out))))
              clear hst
              go_wp2_with fail
              refine (Cy.out _).mono ?_
              rintro e W' ⟨rfl, rfl⟩
              go_wp2_with fail
              have H2 := Lib.hid (H.out.set_ hwl hne 1 (.int .i64 ny))
              refine bodyPost_ret (v := .tuple #[.agg #[.int .i64 0, .int .i64 0, .int .i64 0], .bool false]) (by simp [results, Tryd.results22, go_sem, r0, r1, r2]) rfl ⟨?_, ?_⟩
              · rw [HX.out]; rfl
              · exact H2.out.kept.res3 _ _ _
            · have HN := Lib.hid (numK_yes hst (by rw [← Ny.out]; omega) (by rw [← Ny.out]; omega))
              have HV : Hid (vy = ny) := Lib.hid (by rw [Vy.out, HN.out, Ny.out]; rfl)
              have m1 : 1 ≤ ny := by omega
              have m2 : ny ≤ 4096 := by omega
              clear hst h1 h2
              go_wp2_with fail
              refine (Cy.out _).mono ?_
              rintro e W' ⟨rfl, rfl⟩
              go_wp2_with fail
              go_roundw
              case rel => exact .inr (.inr (.inl ⟨rfl, Kx, Lib.hid (by rw [HV.out, Ny.out]; exact HN.out), Lib.hid (by rw [HV.out]; exact H.out.set_ hwl hne 1 (.int .i64 ny))⟩))
              case measure => decide
      · obtain ⟨⟨r0, r1, r2⟩, ⟨f0, f1, f2⟩, ⟨u0, u1, u2⟩, d0, d1, d2⟩ := H.out.facts
        have s0 := H.out.z
        by_cases hst : z.data.toList = [42]
        · have q := star_yes hst
          have HN := Lib.hid (numK_star hst)
          have HV : Hid (vz = 0) := Lib.hid (by rw [Vz.out, HN.out]; rfl)
          clear hst
          go_wp2_with fail
          go_roundw
          case rel => exact .inr (.inr (.inr (⟨rfl, Kx, Ky, Lib.hid (by rw [HV.out]; exact HN.out), Lib.hid (by rw [HV.out]; exact H.out)⟩)))
          case measure => decide
        · have q := star_no hst
          by_cases h1 : nz < 1
          · have HN := Lib.hid (numK_no hst (.inl (by rw [← Nz.out]; exact h1)))
            have HX : Hid (KR = none) := Lib.hid (HKR.out.trans (kref_none HL.out (.inr (.inr HN.out))))
            clear hst
            go_wp2_with fail
            refine (Cz.out _).mono ?_
            rintro e W' ⟨rfl, rfl⟩
            go_wp2_with fail
            have H2 := Lib.hid (H.out.set_ hwl hne 2 (.int .i64 nz))
            refine bodyPost_ret (v := .tuple #[.agg #[.int .i64 0, .int .i64 0, .int .i64 0], .bool false]) (by simp [results, Tryd.results22, go_sem, r0, r1, r2]) rfl ⟨?_, ?_⟩
            · rw [HX.out]; rfl
            · exact H2.out.kept.res3 _ _ _
          · by_cases h2 : 4096 < nz
            · have HN := Lib.hid (numK_no hst (.inr (by rw [← Nz.out]; exact h2)))
              have HX : Hid (KR = none) := Lib.hid (HKR.out.trans (kref_none HL.out (.inr (.inr HN.out))))
              clear hst
              go_wp2_with fail
              refine (Cz.out _).mono ?_
              rintro e W' ⟨rfl, rfl⟩
              go_wp2_with fail
              have H2 := Lib.hid (H.out.set_ hwl hne 2 (.int .i64 nz))
              refine bodyPost_ret (v := .tuple #[.agg #[.int .i64 0, .int .i64 0, .int .i64 0], .bool false]) (by simp [results, Tryd.results22, go_sem, r0, r1, r2]) rfl ⟨?_, ?_⟩
              · rw [HX.out]; rfl
              · exact H2.out.kept.res3 _ _ _
            · have HN := Lib.hid (numK_yes hst (by rw [← Nz.out]; omega) (by rw [← Nz.out]; omega))
              have HV : Hid (vz = nz) := Lib.hid (by rw [Vz.out, HN.out, Nz.out]; rfl)
              have m1 : 1 ≤ nz := by omega
              have m2 : nz ≤ 4096 := by omega
              clear hst h1 h2
              go_wp2_with fail
              refine (Cz.out _).mono ?_
              rintro e W' ⟨rfl, rfl⟩
              go_wp2_with fail
              go_roundw
              case rel => exact .inr (.inr (.inr (⟨rfl, Kx, Ky, Lib.hid (by rw [HV.out, Nz.out]; exact HN.out), Lib.hid (by rw [HV.out]; exact H.out.set_ hwl hne 2 (.int .i64 nz))⟩)))
              case measure => decide
      · obtain ⟨⟨r0, r1, r2⟩, ⟨f0, f1, f2⟩, ⟨u0, u1, u2⟩, d0, d1, d2⟩ := H.out.facts
        have HX : Hid (KR = some (vx, vy, vz)) := Lib.hid (HKR.out.trans (kref_all HL.out Kx.out Ky.out Kz.out))
        go_wp2_with fail
        refine bodyPost_ret (v := .tuple #[.agg #[.int .i64 vx, .int .i64 vy, .int .i64 vz], .bool true]) (by simp [results, Tryd.results22, go_sem, r0, r1, r2]) rfl ⟨?_, ?_⟩
        · rw [HX.out]; rfl
        · exact H.out.kept.res3 _ _ _
  · have HN : Hid (KR = none) := Lib.hid (HKR.out.trans (kref_len (by rw [← HW.out, List.length_map]; exact h3)))
    have hb : ((ws.length : Int) != 3) = true := by rw [bne_iff_ne]; omega
    have r0 : w1.cell? ⟨w.heap.size, 0, none⟩ = some (.int .i64 0) := R1.out.cell 0
    have r1 : w1.cell? ⟨w.heap.size, 1, none⟩ = some (.int .i64 0) := R1.out.cell 1
    have r2 : w1.cell? ⟨w.heap.size, 2, none⟩ = some (.int .i64 0) := R1.out.cell 2
    have f0 := R1.out.frozen 0
    have f1 := R1.out.frozen 1
    have f2 := R1.out.frozen 2
    clear h3
    go_wp2_with fail
    refine bodyPost_ret (v := .tuple #[.agg #[.int .i64 0, .int .i64 0, .int .i64 0], .bool false]) (by simp [results, Tryd.results22, go_sem, r0, r1, r2]) rfl ⟨?_, ?_⟩
    · rw [HN.out]; rfl
    · exact K1.out.res3 _ _ _
end Go.Proofs.YtjknibgbbhiooaaDoor
