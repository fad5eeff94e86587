/- The document's own store: Want. -/
import Derived.Test.YthiijlngoikhkaaORefW
namespace Go.Proofs.Ythiijlngoikhkaa
open Go.RowKit Go.Maps
set_option maxRecDepth 100000

theorem Row.pushX {α : Type} {cells : α → List Value} {e : TypeId} {size B : Nat} {l : List α} {P : Program} {t : TypeId} (T : Els P t e size) (hsz : ∀ x, (cells x).length = size) (ty : TypeId) {wr : World} {n cap : Nat} {a : Option Addr} (h : Row cells e size wr B (.slice a n cap) l) (hn : n = l.length) (hl : l.length ≤ 5000) (hB : B ≤ wr.heap.size) (x : α) (h1 : ∀ u ∈ cells x, u.oneCell' = true) (cs : Array Value) (hcs : cs.toList = cells x) :
    ∃ a' cap' w', (Builtin.append_ #[t, t] ty #[.slice a n cap, .slice (some ⟨wr.heap.size, 0, none⟩) 1 1]).run P (wr.alloc (.cells cs e)) = .ok (.slice a' (n + 1) cap') w' ∧
      Row cells e size w' B (.slice a' (n + 1) cap') (l ++ [x]) ∧ Kept (fun k => (Value.slice a n cap).ownBlock = some k) wr w' ∧ ∀ b, (Value.slice a' (n + 1) cap').ownBlock = some b → (Value.slice a n cap).ownBlock = some b ∨ wr.heap.size ≤ b := by
  subst hn
  have h2 : Row cells e size (wr.alloc (.cells cs e)) B (.slice a l.length cap) l := h.keptN ((Kept.refl _ _).alloc _)
  obtain ⟨v', w', r, o, k, hor⟩ := append_any T ty h2 (At.lit wr e cs (cells x) hcs) (by rw [hsz, Nat.one_mul]) h1 (by omega) (by simp; omega)
  have o2 : Row cells e size w' B v' (l ++ [x]) := by simpa [Row] using o
  obtain ⟨a', cap', e⟩ := o2.shape
  rw [List.length_append] at e
  subst e
  refine ⟨a', cap', w', r, o2, ((Kept.refl _ _).alloc _).trans k (fun i _ e => e), fun b hb => ?_⟩
  rcases hor with hor | hor
  · exact .inl (hor ▸ hb)
  · have := hor.symm.trans hb
    injection this with this
    right
    rw [← this]; simp
section
variable {w w' : World} {G : Nat → Prop} {q : Nat} {a : Option Addr} {c : Nat} {LV : List (Mem × Value)} {L : List Mem}
theorem laidB {v0 : Value} {a3 : Option Addr} {c3 : Nat} {LV3 : List (Mem × Value)} {G' : Nat → Prop} (here : Blk w q 29 #[v0]) (gq : G q) (hG : ∀ b, G b → G' b) (hG' : ∀ b, G' b → b < w.heap.size) (row : Row cM 64 5 w 0 (.slice a3 LV3.length c3) LV3) (grow : ∀ b, (Value.slice a3 LV3.length c3).ownBlock = some b → G' b) (has : ∀ x ∈ LV3, Row cN 3 1 w 0 x.2 x.1.has ∧ ∀ b, x.2.ownBlock = some b → G' b) (keys : (keysL (LV3.map Prod.fst)).Nodup) :
    RSv (w.setCell ⟨q, 0, none⟩ (.slice a3 LV3.length c3)) G' q a3 c3 LV3 ∧ Kept G w (w.setCell ⟨q, 0, none⟩ (.slice a3 LV3.length c3)) := by
  have kk : Kept (fun k => k = q) w (w.setCell ⟨q, 0, none⟩ (.slice a3 LV3.length c3)) := (Kept.refl (fun k => k = q) w).setCell ⟨q, 0, none⟩ (.inl rfl) _
  have hq : ∀ {e : TypeId} {size n : Nat} {xs : List Value} {v : Value}, w.ownsRow 0 e size v n xs → e ≠ 29 → ∀ b, v.ownBlock = some b → b ≠ q := by
    intro e size n xs v hr hne b hb ebq
    rcases hr.2 with ⟨e1, _⟩ | ⟨g, cap, cur, e1, _, hg, _⟩
    · rw [e1] at hb; cases hb
    · rw [e1] at hb
      cases hb
      have := here
      unfold Blk at this
      rw [← ebq, hg] at this
      injection this with this
      injection this with _ h2 _
      exact hne h2
  refine ⟨⟨fun b hb => Nat.lt_of_lt_of_le (hG' b hb) kk.size, hG _ gq, ?_, row.keptF kk (fun b hb => hq row (by decide) b hb), grow, fun x hx => ⟨(has x hx).1.keptF kk (fun b hb => hq (has x hx).1 (by decide) b hb), (has x hx).2⟩, keys⟩, kk.mono (fun b _ e => e ▸ gq)⟩
  have := here.set_ 0 (.slice a3 LV3.length c3)
  simpa using this
theorem RSv.apart2 (h : RSv w G q a c LV) : (∀ b, (Value.slice a LV.length c).ownBlock = some b → b ≠ q) ∧ ∀ {u : Value} {l : List Int}, Row cN 3 1 w 0 u l → ∀ b, u.ownBlock = some b → ¬ (Value.slice a LV.length c).ownBlock = some b := by
  refine ⟨fun b hb e => ?_, fun hr b hb e => ?_⟩
  · obtain ⟨cur, hg⟩ := h.row.block hb
    have := h.here
    unfold Blk at this
    rw [← e, hg] at this
    injection this with this
    injection this with _ h2 _
    exact absurd h2 (by decide)
  · obtain ⟨cur, hg⟩ := h.row.block e
    obtain ⟨cur', hb'⟩ := hr.block hb
    rw [hg] at hb'
    injection hb' with hb'
    injection hb' with _ h2 _
    exact absurd h2 (by decide)
theorem cM_n1 {mk : T3} {mn : Nat} {mh : List Int} {u : Value} : cM (⟨mk, mn + 1, mh⟩, u) = (cM (⟨mk, mn, mh⟩, u)).set 3 (.int .i64 ((mn : Int) + 1)) := by
  have : ((mn + 1 : Nat) : Int) = (mn : Int) + 1 := by omega
  show [_, _, _, Value.int .i64 ((mn + 1 : Nat) : Int), _] = [_, _, _, _, _]
  rw [this]
set_option maxHeartbeats 8000000 in
theorem wantR_some (h : RSv w G q a c LV) (k : T3) (hl : LV.length ≤ 1000) {m : Mem} (hm : mem (LV.map Prod.fst) k = some m) (hmn : m.n ≤ 100000) (a2 : Option Addr) (n2 c2 : Nat) (fs : List F4) :
    Calls Try.prog 10 #[.pointer (some ⟨q, 0, none⟩), av k, .slice a2 n2 c2] w fun e w' => e = .returned (.int .i64 ((m.n : Int) + 1)) ∧ RGrew w w' G q (wantL (LV.map Prod.fst) k fs) := by
  have H1 := Lib.hid (h.keptN ((Kept.refl Nil w).alloc (.cells #[.int .i64 k.1, .int .i64 k.2.1, .int .i64 k.2.2] 30)))
  have K1 := Lib.hid ((Kept.refl Nil w).alloc (.cells #[.int .i64 k.1, .int .i64 k.2.1, .int .i64 k.2.2] 30))
  have ⟨b0, b1, b2⟩ := B3.new w 30 k
  clear h
  go_enter Try.func10, Try.ntmps10
  go_wp2_with fail
  refine (findR_any H1.out k (by omega)).mono ?_
  rintro e w2 ⟨r, rfl, hr, k2⟩
  have H2 := Lib.hid (H1.out.keptN k2)
  have K2 := Lib.hid (K1.out.trans k2 (fun _ _ e => e))
  obtain ⟨i, hi, hr2⟩ : ∃ i : Nat, (LV.map Prod.fst)[i]? = some m ∧ r = (i : Int) := by
    rcases hr with ⟨_, h0⟩ | ⟨i, m', e, hi, hm'⟩
    · rw [hm] at h0; cases h0
    · rw [hm] at hm'; cases hm'; exact ⟨i, hi, e⟩
  subst hr2
  have hi' := hi
  rw [List.getElem?_map] at hi'
  obtain ⟨x0, hx0, e⟩ := Option.map_eq_some_iff.1 hi'
  obtain ⟨g, rfl, hg, p0, p1, p2, p3, p4⟩ := H2.out.cells hx0
  have hil := (List.getElem?_eq_some_iff.1 hx0).1
  have c0 := H2.out.here.cell 0
  simp at c0
  have hfr := H2.out.free (i * 5 + 3)
  obtain ⟨⟨mk, mn, mh⟩, u⟩ := x0
  subst e
  simp only at p3 hmn
  obtain ⟨hA0, hB0⟩ := H2.out.has _ (List.mem_of_getElem? hx0)
  obtain ⟨t1, t2⟩ := H2.out.turn (y := (⟨mk, mn + 1, mh⟩, u)) (u := .int .i64 ((mn : Int) + 1)) hx0 (j := 3) (by decide) cM_n1 rfl ⟨hA0, hB0⟩
  have HT := Lib.hid (And.intro t1 t2)
  have HX := Lib.hid (And.intro hx0 hm)
  have hkey := Lib.hid (mem_some hm).2
  have HKN := Lib.hid H2.out.keys
  generalize hnn : LV.length = n at *
  have HNN := Lib.hid hnn
  have hz1 := HT.out.1.here.cell 0
  simp only [List.length_set] at hz1
  rw [HNN.out] at hz1
  simp at hz1
  have hz3 : (w2.setCell ⟨g, i * 5 + 3, none⟩ (.int .i64 ((mn : Int) + 1))).cell? ⟨g, i * 5 + 3, none⟩ = some (.int .i64 ((mn : Int) + 1)) := by go_simp
  clear hr hi hi' hx0 p0 p1 p2 p4 k2 b0 b1 b2 t1 t2 hm hnn hA0 hB0
  go_wp2_with fail
  go_ret
  have e1 : wantL (LV.map Prod.fst) k fs = upd (LV.map Prod.fst) k (fun m => ⟨m.key, m.n + 1, m.has⟩) := by unfold wantL; rw [HX.out.2]
  rw [e1]
  exact ⟨rfl, G, ⟨_, _, _, set_upd HKN.out HX.out.1 hkey.out rfl, HT.out.1⟩, fun b hb => .inl hb, (K2.out.mono (fun _ _ e => e.elim)).trans HT.out.2 (fun _ _ e => e)⟩
set_option maxHeartbeats 8000000 in
theorem wantR_none (h : RSv w G q a c LV) (k : T3) (hl : LV.length ≤ 1000) (hm : mem (LV.map Prod.fst) k = none) {a2 : Option Addr} {n2 c2 : Nat} {fs : List F4} (hfs : In cF 4 w a2 n2 fs) (hn2 : n2 ≤ 900) :
    Calls Try.prog 10 #[.pointer (some ⟨q, 0, none⟩), av k, .slice a2 n2 c2] w fun e w' => e = .returned (.int .i64 1) ∧ RGrew w w' G q (wantL (LV.map Prod.fst) k fs) := by
  have H1 := Lib.hid (h.keptN ((Kept.refl Nil w).alloc (.cells #[.int .i64 k.1, .int .i64 k.2.1, .int .i64 k.2.2] 30)))
  have K1 := Lib.hid ((Kept.refl Nil w).alloc (.cells #[.int .i64 k.1, .int .i64 k.2.1, .int .i64 k.2.2] 30))
  have ⟨b0, b1, b2⟩ := B3.new w 30 k
  have HIn0 := Lib.hid hfs
  have HM := Lib.hid hm
  clear h hfs
  go_enter Try.func10, Try.ntmps10
  go_wp2_with fail
  refine (findR_any H1.out k (by omega)).mono ?_
  rintro e w2 ⟨r, rfl, hr, k2⟩
  have H2 := Lib.hid (H1.out.keptN k2)
  have K2 := Lib.hid (K1.out.trans k2 (fun _ _ e => e))
  have hr2 : r = -1 := by
    rcases hr with ⟨e, _⟩ | ⟨i, m', e, hi, hm'⟩
    · exact e
    · rw [hm] at hm'; cases hm'
  subst hr2
  have hbb : w.heap.size < w2.heap.size := Nat.lt_of_lt_of_le (by simp) k2.size
  have HB0 := Lib.hid (B3.kept (B3.new w 30 k) k2 (fun e => e))
  have HIn := Lib.hid (HIn0.out.kept K2.out)
  have ⟨d0, d1, d2⟩ := HB0.out
  clear hr k2 hm b0 b1 b2
  generalize w.heap.size = b at *
  go_upto_region 6 with fail
  have HBk := Lib.hid (Blk.new w2 64 #[.int .i64 k.1, .int .i64 k.2.1, .int .i64 k.2.2, .int .i64 1, .slice none 0 0])
  have HKa := Lib.hid ((Kept.refl Nil w2).alloc (.cells #[.int .i64 k.1, .int .i64 k.2.1, .int .i64 k.2.2, .int .i64 1, .slice none 0 0] 64))
  go_wp2_with fail
  generalize hb8 : w2.heap.size = b8 at *
  go_loopw [39] (fun i wr => ∃ (j k' : Nat) (T : List Int) (a5 : Option Addr) (c5 : Nat), j ≤ n2 ∧ i = .int .i64 j ∧ T = beg k (fs.take j) ∧ T.length = k' ∧ k' ≤ j ∧ Blk wr b8 64 #[.int .i64 k.1, .int .i64 k.2.1, .int .i64 k.2.2, .int .i64 1, .slice a5 k' c5] ∧ Row cN 3 1 wr (b8 + 1) (.slice a5 k' c5) T ∧ Kept Nil w2 wr) (fun i _ => n2 - (intOf i).toNat)
  case atStart => exact ⟨0, 0, [], none, 0, Nat.zero_le _, rfl, rfl, rfl, Nat.le_refl _, HBk.out, Row.nil _ _, HKa.out⟩
  case round =>
    clear HBk HKa
    obtain ⟨j, k', T, a5, c5, hj, rfl, hT, hk', hkj, hB8, hR, hK⟩ := hrel
    have HR := Lib.hid hR
    have HK := Lib.hid hK
    have HT := Lib.hid (And.intro hT hk')
    have HB8 := Lib.hid hB8
    clear hR hK hT hk' hB8
    have ⟨d0, d1, d2⟩ := HB0.out.kept HK.out (fun e => e)
    have m4 := HB8.out.cell 4
    simp at m4
    have hb8l := HB8.out.lt
    have hbl : b < wr.heap.size := World.block_lt_of_cell? wr _ d0
    by_cases hjn : j < n2
    · obtain ⟨⟨fi, fx, fy, fz⟩, hf⟩ : ∃ f, fs[j]? = some f := ⟨fs[j]'(by rw [HIn.out.1]; exact hjn), by simp⟩
      obtain ⟨bf, o, e, hbf, p0, p1, p2, p3⟩ := (HIn.out.kept HK.out).four hf
      subst e
      simp only at p0 p1 p2 p3
      have HE := Lib.hid (show beg k (fs.take (j + 1)) = if hasK (fx, fy, fz) k then put (beg k (fs.take j)) fi else beg k (fs.take j) from by
        rw [List.take_add_one, hf]
        exact beg_snoc k (fs.take j) (fi, fx, fy, fz))
      clear hf
      go_wp2_with fail
      refine (refHas_any (fx, fy, fz) k _).mono ?_
      rintro e w4 ⟨rfl, k4⟩
      have K4 := Lib.hid (((Kept.refl Nil wr).alloc (.cells #[.int .i64 fi, .int .i64 fx, .int .i64 fy, .int .i64 fz] 81)).trans k4 (fun _ _ e => e))
      have q0 := (k4.cell (p := ⟨wr.heap.size, 0, none⟩) (by simp) (fun e => e)).trans (by go_simp : _ = some (Value.int .i64 fi))
      have HB4 := Lib.hid (HB8.out.kept K4.out (fun e => e))
      have m4' := HB4.out.cell 4
      simp at m4'
      have HR4 := Lib.hid (HR.out.keptN K4.out)
      have hfx : wr.heap.size < w4.heap.size := Nat.lt_of_lt_of_le (by simp) k4.size
      clear k4 p0 p1 p2 p3 d0 d1 d2 m4
      by_cases hh : hasK (fx, fy, fz) k = true
      rotate_left
      · have hh' : hasK (fx, fy, fz) k = false := by simpa using hh
        rw [hh']
        have HE2 := Lib.hid (show T = beg k (fs.take (j + 1)) from by rw [HE.out, if_neg hh, HT.out.1])
        go_wp2_with fail
        go_roundw
        case rel => exact ⟨j + 1, k', T, a5, c5, hjn, by go_num, HE2.out, HT.out.2, by omega, HB4.out, HR4.out, HK.out.trans K4.out (fun _ _ e => e)⟩
        case measure => simp [intOf]; omega
      · rw [hh]
        go_wp2_with fail
        refine (hasR_any (HR4.out.toIn cN_len (by decide)) fi (by omega)).mono ?_
        rintro e w5 ⟨rfl, k5⟩
        have HB5 := Lib.hid (HB4.out.kept k5 (fun e => e))
        have HR5 := Lib.hid (HR4.out.keptN k5)
        have K5 := Lib.hid ((HK.out.trans K4.out (fun _ _ e => e)).trans k5 (fun _ _ e => e))
        have m5 := HB5.out.cell 4
        simp at m5
        have q5 := (k5.cell (p := ⟨wr.heap.size, 0, none⟩) hfx (fun e => e)).trans q0
        clear k5 m4' q0
        by_cases hx : fi ∈ T
        · rw [decide_eq_true hx]
          have HE2 := Lib.hid (show T = beg k (fs.take (j + 1)) from by rw [HE.out, if_pos hh, ← HT.out.1, put_in hx])
          clear hx
          go_wp2_with fail
          go_roundw
          case rel => exact ⟨j + 1, k', T, a5, c5, hjn, by go_num, HE2.out, HT.out.2, by omega, HB5.out, HR5.out, K5.out⟩
          case measure => simp [intOf]; omega
        · rw [decide_eq_false hx]
          have HE2 := Lib.hid (show ins fi T = beg k (fs.take (j + 1)) from by rw [HE.out, if_pos hh, ← HT.out.1, put_out hx])
          have HC := Lib.hid (putI_any (c := c5) (HR5.out.toIn cN_len (by decide)) fi (by omega))
          have hil := ins_length fi T
          rw [HT.out.2] at hil
          rw [hil] at HC
          clear hx hil
          go_wp2_with fail
          refine HC.out.mono ?_
          rintro e w6 ⟨a6, c6, rfl, row6, k6⟩
          have HB6 := Lib.hid (HB5.out.kept k6 (fun e => e))
          have m6 := HB6.out.cell 4
          simp at m6
          have f6 := HB6.out.frozen 4
          have H6 := Lib.hid (And.intro row6 k6)
          have hb86 : b8 < w5.heap.size := HB5.out.lt
          clear row6 k6 m5
          go_wp2_with fail
          go_roundw
          case rel =>
            have kk : Kept (fun b => b = b8) w6 (w6.setCell ⟨b8, 4, none⟩ (.slice a6 (k' + 1) c6)) := (Kept.refl (fun b => b = b8) w6).setCell ⟨b8, 4, none⟩ (.inl rfl) _
            refine ⟨j + 1, k' + 1, _, a6, c6, hjn, by go_num, HE2.out, by rw [ins_length, HT.out.2], by omega, ?_, ?_, ?_⟩
            · have := HB6.out.set_ 4 (.slice a6 (k' + 1) c6)
              simpa using this
            · exact (H6.out.1.keptF kk (fun b hb e => by have := (H6.out.1.lt b hb).1; omega)).down (by omega)
            · exact (K5.out.trans H6.out.2 (fun _ _ e => e)).trans kk (fun i hi e => by omega)
          case measure => simp [intOf]; omega
    · obtain rfl : n2 = j := by omega
      have hTT : T = beg k fs := by have := HT.out.1; rwa [List.take_of_length_le (by rw [HIn.out.1]; exact Nat.le_refl _)] at this
      have HR0 := (H2.out.keptN HK.out).keptN ((Kept.refl Nil wr).drew)
      obtain ⟨a3, c3, w6, r6, row6, kk6, hor⟩ := HR0.row.pushX elsM cM_len 27 rfl (by omega) (Nat.zero_le _) (⟨k, 1, T⟩, .slice a5 k' c5) (by
        intro u hu
        simp only [cM, List.mem_cons, List.not_mem_nil, or_false] at hu
        rcases hu with rfl | rfl | rfl | rfl | rfl <;> rfl) #[.int .i64 k.1, .int .i64 k.2.1, .int .i64 k.2.2, .int .i64 1, .slice a5 k' c5] rfl
      obtain ⟨hap, hap2⟩ := HR0.apart2
      have hRd : Row cN 3 1 wr.drew (b8 + 1) (.slice a5 k' c5) T := HR.out.keptN ((Kept.refl Nil wr).drew)
      have hhere := HR0.here.kept kk6 (fun e => hap q e rfl)
      have hszr : w2.heap.size ≤ wr.heap.size := HK.out.size
      have hl1 : (LV ++ [((⟨k, 1, T⟩ : Mem), Value.slice a5 k' c5)]).length = LV.length + 1 := by rw [List.length_append]; rfl
      have hmap : (LV ++ [((⟨k, 1, T⟩ : Mem), Value.slice a5 k' c5)]).map Prod.fst = LV.map Prod.fst ++ [⟨k, 1, T⟩] := by rw [List.map_append]; rfl
      rw [← hl1] at row6 hor
      obtain ⟨t3, t4⟩ := laidB (G' := fun b => G b ∨ (b8 ≤ b ∧ b < w6.heap.size)) hhere HR0.gq (fun b hb => .inl hb) (fun b hb => hb.elim (fun hb => Nat.lt_of_lt_of_le (HR0.inG b hb) kk6.size) (·.2)) row6 (fun b hb => by
          rcases hor b hb with e | e
          · exact .inl (HR0.grow b e)
          · exact .inr ⟨by have : wr.heap.size ≤ b := e; omega, (row6.lt b hb).2⟩) (fun x hx => by
          rcases List.mem_append.1 hx with hx | hx
          · obtain ⟨h1, h2⟩ := HR0.has x hx
            exact ⟨h1.keptF kk6 (fun b hb e => hap2 h1 b hb e), fun b hb => .inl (h2 b hb)⟩
          · rw [List.mem_singleton.1 hx]
            have hd := hRd.down (Nat.zero_le _)
            refine ⟨hd.keptF kk6 (fun b hb e => hap2 hd b hb e), fun b hb => .inr ?_⟩
            have h3 := hRd.lt b hb
            exact ⟨by omega, Nat.lt_of_lt_of_le h3.2 kk6.size⟩) (by rw [hmap]; exact keys_snoc (m := ⟨k, 1, T⟩) HR0.keys HM.out)
      rw [hl1] at t3 t4
      have e1 : wantL (LV.map Prod.fst) k fs = (LV ++ [((⟨k, 1, T⟩ : Mem), Value.slice a5 k' c5)]).map Prod.fst := by
        unfold wantL
        rw [HM.out, hmap, hTT]
      have HFin := Lib.hid (And.intro t3 (And.intro ((HK.out.mono (G := G) (fun _ _ e => e.elim)).trans ((((Kept.refl Nil wr).drew).mono (G := G) (fun _ _ e => e.elim)).trans ((kk6.mono (G := G) (fun b _ e => HR0.grow b e)).trans t4 (fun _ _ e => e)) (fun _ _ e => e)) (fun _ _ e => e)) e1))
      have R6 := Lib.hid r6
      have z0 := HR0.here.cell 0
      simp at z0
      have hBd : Blk wr.drew b8 64 #[.int .i64 k.1, .int .i64 k.2.1, .int .i64 k.2.2, .int .i64 1, .slice a5 k' c5] := HB8.out.drew
      have n0 := hBd.cell 0
      have n1 := hBd.cell 1
      have n2' := hBd.cell 2
      have n3 := hBd.cell 3
      have n4 := hBd.cell 4
      simp at n0 n1 n2' n3 n4
      have y0 := hhere.cell 0
      have y1 := hhere.frozen 0
      simp at y0
      have hqr : q < wr.heap.size := (H2.out.keptN HK.out).here.lt
      obtain ⟨g9, hg9⟩ : ∃ g, wr.heap.size = g := ⟨_, rfl⟩
      have hd9 : wr.drew.heap.size = g9 := hg9
      obtain ⟨WA, hWA⟩ : ∃ W, wr.drew.alloc (.cells #[.int .i64 k.1, .int .i64 k.2.1, .int .i64 k.2.2, .int .i64 1, .slice a5 k' c5] 64) = W := ⟨_, rfl⟩
      have zA : WA.cell? ⟨q, 0, none⟩ = some (.slice a LV.length c) := by
        rw [← hWA, World.cell?_alloc_past _ _ _ (show q < wr.drew.heap.size from hqr)]; exact z0
      have hb8r : b8 < wr.heap.size := HB8.out.lt
      have mA : ∀ i, WA.cell? ⟨b8, i, none⟩ = wr.drew.cell? ⟨b8, i, none⟩ := fun i => by
        rw [← hWA, World.cell?_alloc_past _ _ _ (show b8 < wr.drew.heap.size from hb8r)]
      rw [hd9] at R6
      rw [hWA] at R6
      generalize hnn : LV.length = n at *
      clear r6 row6 kk6 hor hap hap2 hRd hhere hszr hl1 hmap t3 t4 e1 hBd HR0 hTT m4 d0 d1 d2
      go_upto_region 12 with fail
      go_region_law (first
        | (refine step_append_run (v' := .slice a3 (n + 1) c3) (w' := w6) rfl (.tmp 66) (.tmp 68) 27 rfl (.slice a n c) (.slice (some ⟨g9, 0, none⟩) 1 1) rfl rfl (by with_reducible exact R6.out) ?_))
      all_goals
        go_wp2_with fail
        go_ret
        rw [HFin.out.2.2]
        have hw2 := K2.out.size
        refine ⟨rfl, (fun b => G b ∨ (b8 ≤ b ∧ b < w6.heap.size)), ⟨a3, c3, LV ++ [((⟨k, 1, T⟩ : Mem), Value.slice a5 k' c5)], rfl, HFin.out.1⟩, fun b hb => Or.imp id (fun (h : b8 ≤ b ∧ b < w6.heap.size) => Nat.le_trans hw2 (by have := h.1; omega)) hb, (K2.out.mono (G := G) (fun _ _ e => e.elim)).trans HFin.out.2.1 (fun _ _ e => e)⟩
end
end Go.Proofs.Ythiijlngoikhkaa
