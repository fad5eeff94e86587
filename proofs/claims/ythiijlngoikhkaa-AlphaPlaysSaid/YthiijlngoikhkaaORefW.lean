/- The document's own store: Drop. -/
import Derived.Test.YthiijlngoikhkaaORefT
namespace Go.Proofs.Ythiijlngoikhkaa
open Go.RowKit Go.Maps
set_option maxRecDepth 100000

theorem less_nil {α : Type} {cells : α → List Value} {size : Nat} {e : TypeId} {P : Program} {t : TypeId} (T : Els P t e size) (hsz : ∀ x, (cells x).length = size) (hs : 0 < size) (ty : TypeId) {w : World} {g n n3 i1 cap q : Nat} {l : List α} (h1 : ∀ x ∈ l, ∀ u ∈ cells x, u.oneCell' = true) (hIn : In cells size w (some ⟨g, 0, none⟩) n3 l) (hn3 : n3 = n + 1) (hi1 : i1 = q + 1) (hq : q ≤ n) (hn : n ≤ 5000) (X : Addr) (c2 : Nat) (hX : X = ⟨g, i1 * size, none⟩ ∨ n3 = i1) :
    ∃ a1 c1 w1 a3 c3 w3, (Builtin.append_ #[t, t] ty #[.slice none 0 0, .slice (some ⟨g, 0, none⟩) q cap]).run P w = .ok (.slice a1 q c1) w1 ∧
      (Builtin.append_ #[t, t] ty #[.slice a1 q c1, .slice (some X) (n3 - i1) c2]).run P w1 = .ok (.slice a3 n c3) w3 ∧
      Row cells e size w3 w.heap.size (.slice a3 n c3) (l.take q ++ l.drop (q + 1)) ∧ Kept Nil w w1 ∧ Kept Nil w w3 := by
  subst hn3 hi1
  have e0 : n + 1 - (q + 1) = n - q := by omega
  rw [e0]
  have hlen := hIn.1
  have p1 := hIn.part 0 q (by omega)
  rw [Nat.zero_mul, Nat.add_zero, List.drop_zero] at p1
  have hl1 : (l.take q).length = q := by rw [List.length_take]; omega
  obtain ⟨v1, w1, e1, o1, k1, _⟩ := append_any T ty (World.ownsRow_nil w w.heap.size e size) (p1.toAt (cap := cap) hsz hs) (by rw [flat_len hsz, hl1]) (fun u hu => by obtain ⟨x, hxl, hx⟩ := List.mem_flatMap.1 hu; exact h1 x (List.mem_of_mem_take hxl) u hx) (by omega) (Nat.le_refl _)
  have R1' : Row cells e size w1 w.heap.size v1 (l.take q) := by
    show w1.ownsRow w.heap.size e size v1 (l.take q).length ((l.take q).flatMap cells)
    have := o1
    simp only [List.nil_append, Nat.zero_add] at this
    rwa [hl1]
  have K1 : Kept Nil w w1 := k1.mono (fun i hi e => by cases e)
  obtain ⟨a1, c1, rfl⟩ := R1'.shape
  rw [hl1] at e1
  have hIn1 := hIn.kept K1
  have p2 : In cells size w1 (some X) (n - q) (l.drop (q + 1)) := by
    rcases hX with rfl | hX
    · have := hIn1.part (q + 1) (n - q) (by omega)
      rw [Nat.zero_add, List.take_of_length_le (by rw [List.length_drop]; omega)] at this
      exact this
    · exact ⟨by rw [List.length_drop]; omega, .inl (by omega)⟩
  obtain ⟨v3, w3, e3, o3, k3, _⟩ := append_any T ty R1' (p2.toAt (cap := c2) hsz hs) (by rw [flat_len hsz, p2.1]) (fun u hu => by obtain ⟨x, hxl, hx⟩ := List.mem_flatMap.1 hu; exact h1 x (List.mem_of_mem_drop hxl) u hx) (by rw [hl1]; omega) K1.size
  have R3 : Row cells e size w3 w.heap.size v3 (l.take q ++ l.drop (q + 1)) := by
    show w3.ownsRow w.heap.size e size v3 (l.take q ++ l.drop (q + 1)).length ((l.take q ++ l.drop (q + 1)).flatMap cells)
    rw [List.length_append, p2.1, List.flatMap_append]
    exact o3
  have hl3 : (l.take q ++ l.drop (q + 1)).length = n := by rw [List.length_append, hl1, p2.1]; omega
  obtain ⟨a3, c3, rfl⟩ := R3.shape
  rw [hl3] at R3 e3
  rw [hl1] at e3
  exact ⟨a1, c1, w1, a3, c3, w3, e1, e3, R3, K1, K1.trans k3 (fun i hi e => absurd hi (Nat.not_lt.2 (R1'.lt i e).1))⟩
theorem rem_at {L : List Mem} (hn : (keysL L).Nodup) {i : Nat} {m : Mem} (hi : L[i]? = some m) : rem L m.key = L.take i ++ L.drop (i + 1) := by
  have hlt := (List.getElem?_eq_some_iff.1 hi).1
  have hge := (List.getElem?_eq_some_iff.1 hi).2
  have hsplit : L = L.take i ++ m :: L.drop (i + 1) := by
    conv => lhs; rw [← List.take_append_drop i L]
    rw [List.drop_eq_getElem_cons hlt, hge]
  have hnd := hn
  rw [hsplit] at hnd
  unfold keysL at hnd
  rw [List.map_append, List.map_cons, List.nodup_append] at hnd
  obtain ⟨_, h2, h3⟩ := hnd
  obtain ⟨h4, _⟩ := List.nodup_cons.1 h2
  conv => lhs; rw [hsplit]
  unfold rem
  rw [List.filter_append, List.filter_cons, if_neg (by simp)]
  congr 1
  · rw [List.filter_eq_self]
    intro x hx
    exact decide_eq_true (fun e => h3 x.key (List.mem_map.2 ⟨x, hx, rfl⟩) m.key (List.mem_cons_self ..) e)
  · rw [List.filter_eq_self]
    intro x hx
    exact decide_eq_true (fun e => h4 (List.mem_map.2 ⟨x, hx, e⟩))
section
variable {w w' : World} {G : Nat → Prop} {q : Nat} {a : Option Addr} {c : Nat} {LV : List (Mem × Value)} {L : List Mem}
theorem dropR_none (h : RSv w G q a c LV) (k : T3) (hl : LV.length ≤ 100000) (hn : mem (LV.map Prod.fst) k = none) :
    Calls Try.prog 13 #[.pointer (some ⟨q, 0, none⟩), av k] w fun e w' => e = .returned (.tuple #[.int .i64 0, .int .i64 16]) ∧ Kept Nil w w' := by
  have H1 := Lib.hid (h.keptN ((Kept.refl Nil w).alloc (.cells #[.int .i64 k.1, .int .i64 k.2.1, .int .i64 k.2.2] 30)))
  have K1 := Lib.hid ((Kept.refl Nil w).alloc (.cells #[.int .i64 k.1, .int .i64 k.2.1, .int .i64 k.2.2] 30))
  have ⟨b0, b1, b2⟩ := B3.new w 30 k
  clear h
  go_enter Try.func13, Try.ntmps13
  go_wp2_with fail
  refine (findR_any H1.out k hl).mono ?_
  rintro e w2 ⟨r, rfl, hr, k2⟩
  rcases hr with ⟨rfl, _⟩ | ⟨i, m, _, _, hm⟩
  · have K2 := Lib.hid (K1.out.trans k2 (fun _ _ e => e))
    clear k2 b0 b1 b2 hn
    go_wp2_with fail
    go_ret2
    exact ⟨rfl, K2.out⟩
  · rw [hn] at hm; cases hm
/-- A list of memories put in its place. -/
theorem RSv.laid {a3 : Option Addr} {c3 : Nat} {LV3 : List (Mem × Value)} {G' : Nat → Prop} (h : RSv w G q a c LV) (hG : ∀ b, G b → G' b) (hG' : ∀ b, G' b → b < w.heap.size) (row : Row cM 64 5 w 0 (.slice a3 LV3.length c3) LV3) (grow : ∀ b, (Value.slice a3 LV3.length c3).ownBlock = some b → G' b) (has : ∀ x ∈ LV3, Row cN 3 1 w 0 x.2 x.1.has ∧ ∀ b, x.2.ownBlock = some b → G' b) (keys : (keysL (LV3.map Prod.fst)).Nodup) :
    RSv (w.setCell ⟨q, 0, none⟩ (.slice a3 LV3.length c3)) G' q a3 c3 LV3 ∧ Kept G w (w.setCell ⟨q, 0, none⟩ (.slice a3 LV3.length c3)) := by
  have kk : Kept (fun k => k = q) w (w.setCell ⟨q, 0, none⟩ (.slice a3 LV3.length c3)) := (Kept.refl (fun k => k = q) w).setCell ⟨q, 0, none⟩ (.inl rfl) _
  have hq : ∀ {e : TypeId} {size n : Nat} {xs : List Value} {v : Value}, w.ownsRow 0 e size v n xs → e ≠ 29 → ∀ b, v.ownBlock = some b → b ≠ q := by
    intro e size n xs v hr hne b hb ebq
    rcases hr.2 with ⟨e1, _⟩ | ⟨g, cap, cur, e1, _, hg, _⟩
    · rw [e1] at hb; cases hb
    · rw [e1] at hb
      cases hb
      have := h.here
      unfold Blk at this
      rw [← ebq, hg] at this
      injection this with this
      injection this with _ h2 _
      exact hne h2
  refine ⟨⟨fun b hb => Nat.lt_of_lt_of_le (hG' b hb) kk.size, hG _ h.gq, ?_, row.keptF kk (fun b hb => hq row (by decide) b hb), grow, fun x hx => ⟨(has x hx).1.keptF kk (fun b hb => hq (has x hx).1 (by decide) b hb), (has x hx).2⟩, keys⟩, kk.mono (fun b _ e => e ▸ h.gq)⟩
  have := h.here.set_ 0 (.slice a3 LV3.length c3)
  simpa using this
theorem RSv.one (h : RSv w G q a c LV) : ∀ x ∈ LV, ∀ u ∈ cM x, u.oneCell' = true := by
  intro x hx u hu
  obtain ⟨a, c, e⟩ := (h.has x hx).1.shape
  simp only [cM, e, List.mem_cons, List.not_mem_nil, or_false] at hu
  rcases hu with rfl | rfl | rfl | rfl | rfl <;> rfl
theorem cM_n {mk : T3} {mn : Nat} {mh : List Int} {u : Value} (hp : 1 ≤ mn) : cM (⟨mk, mn - 1, mh⟩, u) = (cM (⟨mk, mn, mh⟩, u)).set 3 (.int .i64 ((mn : Int) - 1)) := by
  have : ((mn - 1 : Nat) : Int) = (mn : Int) - 1 := by omega
  show [_, _, _, Value.int .i64 ((mn - 1 : Nat) : Int), _] = [_, _, _, _, _]
  rw [this]
set_option maxHeartbeats 8000000 in
theorem dropR_some (h : RSv w G q a c LV) (k : T3) (hl : LV.length ≤ 1000) {m : Mem} (hm : mem (LV.map Prod.fst) k = some m) (hpos : 1 ≤ m.n) (hmn : m.n ≤ 100000) :
    Calls Try.prog 13 #[.pointer (some ⟨q, 0, none⟩), av k] w fun e w' => e = .returned (.tuple #[.int .i64 ((m.n : Int) - 1), .int .i64 0]) ∧ RGrew w w' G q (dropL (LV.map Prod.fst) k) := by
  have H1 := Lib.hid (h.keptN ((Kept.refl Nil w).alloc (.cells #[.int .i64 k.1, .int .i64 k.2.1, .int .i64 k.2.2] 30)))
  have K1 := Lib.hid ((Kept.refl Nil w).alloc (.cells #[.int .i64 k.1, .int .i64 k.2.1, .int .i64 k.2.2] 30))
  have ⟨b0, b1, b2⟩ := B3.new w 30 k
  clear h
  go_enter Try.func13, Try.ntmps13
  go_wp2_with fail
  refine (findR_any H1.out k (by omega)).mono ?_
  rintro e w2 ⟨r, rfl, hr, k2⟩
  have H2 := Lib.hid (H1.out.keptN k2)
  have K2 := Lib.hid (K1.out.trans k2 (fun _ _ e => e))
  obtain ⟨i, hi, hr2⟩ : ∃ i : Nat, (LV.map Prod.fst)[i]? = some m ∧ r = (i : Int) := by
    rcases hr with ⟨_, h0⟩ | ⟨i, m', e, hi, hm'⟩
    · rw [hm] at h0; cases h0
    · rw [hm] at hm'; cases hm'; exact ⟨i, hi, e⟩
  subst hr2
  have hi' := hi
  rw [List.getElem?_map] at hi'
  obtain ⟨x0, hx0, e⟩ := Option.map_eq_some_iff.1 hi'
  obtain ⟨g, rfl, hg, p0, p1, p2, p3, p4⟩ := H2.out.cells hx0
  have hil := (List.getElem?_eq_some_iff.1 hx0).1
  have c0 := H2.out.here.cell 0
  simp at c0
  have hqg := H2.out.apart.1
  have hgq : g ≠ q := fun e => hqg e.symm
  have hfr := H2.out.free (i * 5 + 3)
  obtain ⟨⟨mk, mn, mh⟩, u⟩ := x0
  subst e
  simp only at p3 hpos hmn
  obtain ⟨hA0, hB0⟩ := H2.out.has _ (List.mem_of_getElem? hx0)
  obtain ⟨t1, t2⟩ := H2.out.turn (y := (⟨mk, mn - 1, mh⟩, u)) (u := .int .i64 ((mn : Int) - 1)) hx0 (j := 3) (by decide) (cM_n hpos) rfl ⟨hA0, hB0⟩
  clear hA0 hB0
  have HT := Lib.hid (And.intro t1 t2)
  have HX := Lib.hid (And.intro hx0 (And.intro hm hi))
  have hkey := Lib.hid (mem_some hm).2
  obtain ⟨hc1, hc2⟩ : LV.length ≤ c ∧ c ≤ maxLen := by
    obtain ⟨_, _, h1, h2⟩ := H2.out.row.addr (show 0 < LV.length by omega)
    exact ⟨h1, h2⟩
  unfold maxLen at hc2
  have HKN := Lib.hid H2.out.keys
  have HWN := Lib.hid (wanted_some hm)
  generalize hnn : LV.length = n at *
  have HNN := Lib.hid hnn
  clear hr hi hi' hx0 p0 p1 p2 p4 k2 b0 b1 b2 t1 t2 hm hnn
  have hg0 : g < w2.heap.size := hg
  have HI0 := Lib.hid (HT.out.1.row.toIn cM_len (by decide))
  have hz1 := HT.out.1.here.cell 0
  have HI0' := HI0.out
  simp only [List.length_set] at hz1 HI0'
  rw [HNN.out] at hz1 HI0'
  simp at hz1
  have hz3 : (w2.setCell ⟨g, i * 5 + 3, none⟩ (.int .i64 ((mn : Int) - 1))).cell? ⟨g, i * 5 + 3, none⟩ = some (.int .i64 ((mn : Int) - 1)) := by go_simp
  replace HI0 := Lib.hid HI0'
  clear HI0'
  by_cases h1 : mn = 1
  rotate_left
  · have hz : decide ((mn : Int) - 1 = 0) = false := decide_eq_false (by omega)
    have hz2 : ((mn : Int) - 1 == 0) = false := by simp; omega
    go_wp2_with fail
    go_ret2
    have e1 : dropL (LV.map Prod.fst) k = upd (LV.map Prod.fst) k (fun m => ⟨m.key, m.n - 1, m.has⟩) := by unfold dropL; rw [if_neg (by rw [HWN.out]; exact h1)]
    rw [e1]
    refine ⟨rfl, G, ⟨_, _, _, set_upd HKN.out HX.out.1 hkey.out rfl, HT.out.1⟩, fun b hb => .inl hb, (K2.out.mono (fun _ _ e => e.elim)).trans HT.out.2 (fun _ _ e => e)⟩
  · have hz : decide ((mn : Int) - 1 = 0) = true := decide_eq_true (by omega)
    have hz2 : ((mn : Int) - 1 == 0) = true := by simp; omega
    have HE1 := Lib.hid h1
    clear h1
    go_upto_region 8 with fail
    have HKW := Lib.hid (show Kept G w _ from (K2.out.mono (fun _ _ e => e.elim)).trans HT.out.2 (fun _ _ e => e))
    have HT1 := Lib.hid HT.out.1
    have hgen := HT.out.2
    generalize w2.setCell ⟨g, i * 5 + 3, none⟩ (.int .i64 ((mn : Int) - 1)) = ws at *
    obtain ⟨n4, hn4⟩ : ∃ n4, n = n4 + 1 := ⟨n - 1, by omega⟩
    obtain ⟨i1, hi1⟩ : ∃ i1, i1 = i + 1 := ⟨_, rfl⟩
    have hi1' : (i : Int) + 1 = (i1 : Int) := by omega
    have hi1n : i1 ≤ n := by omega
    have hwi : IntKind.i64.wrap (i1 : Int) = (i1 : Int) := by rw [IntKind.wrap_i64]; omega
    have hi10 : (0 : Int) ≤ (i1 : Int) := by omega
    have hi1c : (i1 : Int) ≤ (c : Int) := by omega
    have hic : i ≤ c := by omega
    have hq4 : i ≤ n4 := by omega
    have hn45 : n4 ≤ 5000 := by omega
    have HN4 := Lib.hid hn4
    have HI1 := Lib.hid hi1
    have hXe : i1 = c → n = i1 := fun e => by omega
    clear hn4 hi1 hz3 hgen hfr c0 p3
    by_cases hX : i1 = c
    · obtain rfl : n = i1 := hXe hX
      obtain rfl : n = c := hX
      obtain ⟨a1, c1, w5, a3, c3, w6, r1, r3, row3, k5, k6⟩ := less_nil (n := n4) (q := i) (cap := n) elsM cM_len (by decide) 27 HT1.out.one HI0.out HN4.out HI1.out hq4 hn45 ⟨g, 0, none⟩ 0 (.inr rfl)
      have R1 := Lib.hid r1
      rw [Nat.sub_self] at r3
      have R3 := Lib.hid r3
      have hs5 : RSv w5 G q (some ⟨g, 0, none⟩) n (LV.set i (⟨mk, mn - 1, mh⟩, u)) := HT1.out.keptN k5
      have hs6 : RSv w6 G q (some ⟨g, 0, none⟩) n (LV.set i (⟨mk, mn - 1, mh⟩, u)) := HT1.out.keptN k6
      have z5 := hs5.here.cell 0
      have z6 := hs6.here.cell 0
      have z6f := hs6.here.frozen 0
      simp only [List.length_set] at z5 z6
      rw [HNN.out] at z5 z6
      simp at z5 z6
      have hl6 : ((LV.set i (⟨mk, mn - 1, mh⟩, u)).take i ++ (LV.set i (⟨mk, mn - 1, mh⟩, u)).drop (i + 1)).length = n4 := by
        have e1 := HNN.out
        have e2 := HN4.out
        rw [List.length_append, List.length_take, List.length_drop, List.length_set]; omega
      have hsub : ∀ x, x ∈ (LV.set i (⟨mk, mn - 1, mh⟩, u)).take i ++ (LV.set i (⟨mk, mn - 1, mh⟩, u)).drop (i + 1) → x ∈ LV.set i (⟨mk, mn - 1, mh⟩, u) := fun x hx => (List.mem_append.1 hx).elim List.mem_of_mem_take List.mem_of_mem_drop
      have hmap : ((LV.set i (⟨mk, mn - 1, mh⟩, u)).take i ++ (LV.set i (⟨mk, mn - 1, mh⟩, u)).drop (i + 1)).map Prod.fst = rem (LV.map Prod.fst) k := by
        have e1 := rem_at HKN.out HX.out.2.2
        have e2 : (⟨mk, mn, mh⟩ : Mem).key = k := hkey.out
        rw [e2] at e1
        rw [e1, List.map_append, List.map_take, List.map_drop, List.map_set, List.take_set_of_le (Nat.le_refl _), List.drop_set_of_lt (Nat.lt_succ_self _)]
      have hkeys : (keysL (((LV.set i (⟨mk, mn - 1, mh⟩, u)).take i ++ (LV.set i (⟨mk, mn - 1, mh⟩, u)).drop (i + 1)).map Prod.fst)).Nodup := by rw [hmap]; exact keys_rem HKN.out k
      rw [← hl6] at row3
      obtain ⟨t3, t4⟩ := hs6.laid (G' := Fup G ws w6) (fun b hb => .inl hb) (fun b hb => hb.elim (hs6.inG b) (·.2)) (row3.down (Nat.zero_le _)) (fun b hb => .inr (row3.lt b hb)) (fun x hx => ⟨(hs6.has x (hsub x hx)).1, fun b hb => .inl ((hs6.has x (hsub x hx)).2 b hb)⟩) hkeys
      rw [hl6] at t3 t4
      have HFin := Lib.hid (And.intro t3 (And.intro (k6.mono (G := G) (fun _ _ e => e.elim) |>.trans t4 (fun _ _ e => e)) hmap))
      clear r1 r3 row3 k5 k6 hs5 hs6 hl6 hsub hmap hkeys t3 t4
      go_wp2_with (at_builtin; first | (refine wpList_append_run rfl (.tmp 35) (.tmp 41) 27 rfl _ _ rfl rfl R1.out ?_) | (refine wpList_append_run rfl (.tmp 43) (.tmp 50) 27 rfl (.slice a1 i c1) (.slice (some ⟨g, 0, none⟩) 0 0) rfl rfl R3.out ?_))
      go_ret2
      have e1 : dropL (LV.map Prod.fst) k = rem (LV.map Prod.fst) k := by unfold dropL; rw [if_pos (by rw [HWN.out]; exact HE1.out)]
      rw [e1]
      have hw2 := HKW.out.size
      refine ⟨rfl, _, ⟨_, _, _, HFin.out.2.2, HFin.out.1⟩, fun b hb => hb.imp id (fun h => Nat.le_trans hw2 h.1), HKW.out.trans HFin.out.2.1 (fun _ _ e => e)⟩
    · have hX2 : ¬ c = i1 := fun e => hX e.symm
      obtain ⟨a1, c1, w5, a3, c3, w6, r1, r3, row3, k5, k6⟩ := less_nil (n := n4) (q := i) (cap := c) elsM cM_len (by decide) 27 HT1.out.one HI0.out HN4.out HI1.out hq4 hn45 ⟨g, i1 * 5, none⟩ (c - i1) (.inl rfl)
      have R1 := Lib.hid r1
      have R3 := Lib.hid r3
      have hs5 : RSv w5 G q (some ⟨g, 0, none⟩) c (LV.set i (⟨mk, mn - 1, mh⟩, u)) := HT1.out.keptN k5
      have hs6 : RSv w6 G q (some ⟨g, 0, none⟩) c (LV.set i (⟨mk, mn - 1, mh⟩, u)) := HT1.out.keptN k6
      have z5 := hs5.here.cell 0
      have z6 := hs6.here.cell 0
      have z6f := hs6.here.frozen 0
      simp only [List.length_set] at z5 z6
      rw [HNN.out] at z5 z6
      simp at z5 z6
      have hl6 : ((LV.set i (⟨mk, mn - 1, mh⟩, u)).take i ++ (LV.set i (⟨mk, mn - 1, mh⟩, u)).drop (i + 1)).length = n4 := by
        have e1 := HNN.out
        have e2 := HN4.out
        rw [List.length_append, List.length_take, List.length_drop, List.length_set]; omega
      have hsub : ∀ x, x ∈ (LV.set i (⟨mk, mn - 1, mh⟩, u)).take i ++ (LV.set i (⟨mk, mn - 1, mh⟩, u)).drop (i + 1) → x ∈ LV.set i (⟨mk, mn - 1, mh⟩, u) := fun x hx => (List.mem_append.1 hx).elim List.mem_of_mem_take List.mem_of_mem_drop
      have hmap : ((LV.set i (⟨mk, mn - 1, mh⟩, u)).take i ++ (LV.set i (⟨mk, mn - 1, mh⟩, u)).drop (i + 1)).map Prod.fst = rem (LV.map Prod.fst) k := by
        have e1 := rem_at HKN.out HX.out.2.2
        have e2 : (⟨mk, mn, mh⟩ : Mem).key = k := hkey.out
        rw [e2] at e1
        rw [e1, List.map_append, List.map_take, List.map_drop, List.map_set, List.take_set_of_le (Nat.le_refl _), List.drop_set_of_lt (Nat.lt_succ_self _)]
      have hkeys : (keysL (((LV.set i (⟨mk, mn - 1, mh⟩, u)).take i ++ (LV.set i (⟨mk, mn - 1, mh⟩, u)).drop (i + 1)).map Prod.fst)).Nodup := by rw [hmap]; exact keys_rem HKN.out k
      rw [← hl6] at row3
      obtain ⟨t3, t4⟩ := hs6.laid (G' := Fup G ws w6) (fun b hb => .inl hb) (fun b hb => hb.elim (hs6.inG b) (·.2)) (row3.down (Nat.zero_le _)) (fun b hb => .inr (row3.lt b hb)) (fun x hx => ⟨(hs6.has x (hsub x hx)).1, fun b hb => .inl ((hs6.has x (hsub x hx)).2 b hb)⟩) hkeys
      rw [hl6] at t3 t4
      have HFin := Lib.hid (And.intro t3 (And.intro (k6.mono (G := G) (fun _ _ e => e.elim) |>.trans t4 (fun _ _ e => e)) hmap))
      clear r1 r3 row3 k5 k6 hs5 hs6 hl6 hsub hmap hkeys t3 t4
      go_wp2_with (at_builtin; first | (refine wpList_append_run rfl (.tmp 35) (.tmp 41) 27 rfl _ _ rfl rfl R1.out ?_) | (refine wpList_append_run rfl (.tmp 43) (.tmp 50) 27 rfl (.slice a1 i c1) (.slice (some ⟨g, i1 * 5, none⟩) (n - i1) (c - i1)) rfl rfl R3.out ?_))
      go_ret2
      have e1 : dropL (LV.map Prod.fst) k = rem (LV.map Prod.fst) k := by unfold dropL; rw [if_pos (by rw [HWN.out]; exact HE1.out)]
      rw [e1]
      have hw2 := HKW.out.size
      refine ⟨rfl, _, ⟨_, _, _, HFin.out.2.2, HFin.out.1⟩, fun b hb => hb.imp id (fun h => Nat.le_trans hw2 h.1), HKW.out.trans HFin.out.2.1 (fun _ _ e => e)⟩
end
end Go.Proofs.Ythiijlngoikhkaa
