/- The document's own store in memory: memories in a row, each with its ids; find, Wanted, Items, has. -/
import Derived.Test.YthiijlngoikhkaaOWholeR
import Derived.Deep.DeepCutAuto
namespace Go.Proofs.Ythiijlngoikhkaa
open Go.RowKit Go.Maps
set_option maxRecDepth 100000

/-- A memory's cells; u: its ids' slice. -/
def cM (x : Mem × Value) : List Value := [.int .i64 x.1.key.1, .int .i64 x.1.key.2.1, .int .i64 x.1.key.2.2, .int .i64 x.1.n, x.2]
theorem cM_len (x : Mem × Value) : (cM x).length = 5 := rfl
theorem infoM : (Try.prog.info? 64).map (fun i => (i.zero, i.size, i.bytes)) = some (some (.agg #[.int .i64 0, .int .i64 0, .int .i64 0, .int .i64 0, .slice none 0 0]), 5, 56) := by kernel_rfl
theorem elsM : Els Try.prog 27 64 5 := Els.of Try.underlying27 infoM rfl (by decide) (by decide)
theorem flat_set {α : Type} {cells : α → List Value} {size : Nat} (hsz : ∀ x, (cells x).length = size) {u : Value} : ∀ (l : List α) (i j : Nat) (x y : α), l[i]? = some x → j < size → cells y = (cells x).set j u → (l.flatMap cells).set (i * size + j) u = (l.set i y).flatMap cells
  | [], i, j, x, y, h, _, _ => by simp at h
  | z :: r, 0, j, x, y, h, hj, e => by
    simp only [List.getElem?_cons_zero, Option.some.injEq] at h
    subst h
    rw [List.flatMap_cons, Nat.zero_mul, Nat.zero_add, List.set_append_left _ _ (by rw [hsz]; exact hj), ← e]
    rfl
  | z :: r, i + 1, j, x, y, h, hj, e => by
    rw [List.flatMap_cons, List.set_append_right _ _ (by rw [hsz, Nat.add_mul]; omega), hsz, show (i + 1) * size + j - size = i * size + j by rw [Nat.add_mul]; omega]
    rw [flat_set hsz r i j x y (by simpa using h) hj e]
    rfl
/-- Block q is the document's store of these memories; G: its blocks. -/
structure RSv (w : World) (G : Nat → Prop) (q : Nat) (a : Option Addr) (c : Nat) (LV : List (Mem × Value)) : Prop where
  inG : ∀ k, G k → k < w.heap.size
  gq : G q
  here : Blk w q 29 #[.slice a LV.length c]
  row : Row cM 64 5 w 0 (.slice a LV.length c) LV
  grow : ∀ b, (Value.slice a LV.length c).ownBlock = some b → G b
  has : ∀ x ∈ LV, Row cN 3 1 w 0 x.2 x.1.has ∧ ∀ b, x.2.ownBlock = some b → G b
  keys : (keysL (LV.map Prod.fst)).Nodup
/-- .. as a list of memories. -/
def RS (w : World) (G : Nat → Prop) (q : Nat) (L : List Mem) : Prop := ∃ a c LV, LV.map Prod.fst = L ∧ RSv w G q a c LV
section
variable {w w' : World} {G : Nat → Prop} {q : Nat} {a : Option Addr} {c : Nat} {LV : List (Mem × Value)} {L : List Mem}
theorem RSv.kept {F : Nat → Prop} (h : RSv w G q a c LV) (k : Kept F w w') (hF : ∀ b, G b → ¬ F b) : RSv w' G q a c LV :=
  ⟨fun b hb => Nat.lt_of_lt_of_le (h.inG b hb) k.size, h.gq, h.here.kept k (hF _ h.gq), h.row.keptF k (fun b hb => hF _ (h.grow b hb)), h.grow, fun x hx => ⟨(h.has x hx).1.keptF k (fun b hb => hF _ ((h.has x hx).2 b hb)), (h.has x hx).2⟩, h.keys⟩
theorem RSv.keptN (h : RSv w G q a c LV) (k : Kept Nil w w') : RSv w' G q a c LV := h.kept k (fun _ _ e => e)
theorem RS.kept {F : Nat → Prop} (h : RS w G q L) (k : Kept F w w') (hF : ∀ b, G b → ¬ F b) : RS w' G q L := by
  obtain ⟨a, c, LV, e, h⟩ := h
  exact ⟨a, c, LV, e, h.kept k hF⟩
theorem RS.keptN (h : RS w G q L) (k : Kept Nil w w') : RS w' G q L := h.kept k (fun _ _ e => e)
theorem RS.inG (h : RS w G q L) {k : Nat} (hk : G k) : k < w.heap.size := by obtain ⟨a, c, LV, e, h⟩ := h; exact h.inG k hk
theorem RSv.cells (h : RSv w G q a c LV) {i : Nat} {x : Mem × Value} (hi : LV[i]? = some x) : ∃ g, a = some ⟨g, 0, none⟩ ∧ g < w.heap.size ∧
    w.cell? ⟨g, i * 5, none⟩ = some (.int .i64 x.1.key.1) ∧ w.cell? ⟨g, i * 5 + 1, none⟩ = some (.int .i64 x.1.key.2.1) ∧ w.cell? ⟨g, i * 5 + 2, none⟩ = some (.int .i64 x.1.key.2.2) ∧ w.cell? ⟨g, i * 5 + 3, none⟩ = some (.int .i64 x.1.n) ∧ w.cell? ⟨g, i * 5 + 4, none⟩ = some x.2 := by
  have hlt := (List.getElem?_eq_some_iff.1 hi).1
  obtain ⟨g, e, _, _⟩ := h.row.addr (by omega)
  subst e
  obtain ⟨b, o, e, hb, hc⟩ := (h.row.toIn cM_len (by decide)).at_ hi
  cases e
  have h0 := hc 0 _ rfl
  have h1 := hc 1 _ rfl
  have h2 := hc 2 _ rfl
  have h3 := hc 3 _ rfl
  have h4 := hc 4 _ rfl
  rw [Nat.zero_add] at h0 h1 h2 h3 h4
  exact ⟨g, rfl, hb, h0, h1, h2, h3, h4⟩
theorem RSv.free {g : Nat} (h : RSv w G q (some ⟨g, 0, none⟩) c LV) (j : Nat) : w.frozen? ⟨g, j, none⟩ = false := h.row.frozenAt j
theorem RSv.len (h : RSv w G q a c LV) : LV.length ≤ c ∨ LV = [] := by
  rcases h.row.2 with ⟨_, e0⟩ | ⟨g, cap, cur, e1, _, _, h1, h2, _⟩
  · exact .inr (List.length_eq_zero_iff.1 e0)
  · cases e1; exact .inl h1
/-- What find answers. -/
def FindR (L : List Mem) (k : T3) (r : Int) : Prop := (r = -1 ∧ mem L k = none) ∨ ∃ i m, r = ((i : Nat) : Int) ∧ L[i]? = some m ∧ mem L k = some m
theorem B3.new (w : World) (T : TypeId) (k : T3) : B3 (w.alloc (.cells #[.int .i64 k.1, .int .i64 k.2.1, .int .i64 k.2.2] T)) w.heap.size k := ⟨by go_simp, by go_simp, by go_simp⟩
set_option maxHeartbeats 4000000 in
theorem findR_any (h : RSv w G q a c LV) (k : T3) (hl : LV.length ≤ 100000) :
    Calls Try.prog 35 #[.pointer (some ⟨q, 0, none⟩), av k] w fun e w' => ∃ r : Int, e = .returned (.int .i64 r) ∧ FindR (LV.map Prod.fst) k r ∧ Kept Nil w w' := by
  have B1 := Lib.hid (B3.new w 30 k)
  have H1 := Lib.hid (h.keptN ((Kept.refl Nil w).alloc (.cells #[.int .i64 k.1, .int .i64 k.2.1, .int .i64 k.2.2] 30)))
  have K1 := Lib.hid ((Kept.refl Nil w).alloc (.cells #[.int .i64 k.1, .int .i64 k.2.1, .int .i64 k.2.2] 30))
  clear h
  go_enter Try.func35, Try.ntmps35
  have c0 := H1.out.here.cell 0
  simp at c0
  go_upto_region 1 with fail
  generalize w.alloc (.cells #[.int .i64 k.1, .int .i64 k.2.1, .int .i64 k.2.2] 30) = w1 at *
  generalize w.heap.size = b at *
  generalize hn : LV.length = n at *
  have HN := Lib.hid hn
  clear hn
  go_wp2_with fail
  go_loopw [5, 12] (fun _ i wr => ∃ j : Nat, j ≤ n ∧ i = .int .i64 j ∧ (∀ x ∈ LV.take j, x.1.key ≠ k) ∧ Kept Nil w1 wr) (fun _ i _ => n - (intOf i).toNat)
  case atStart => exact ⟨0, Nat.zero_le _, rfl, by simp, Kept.refl _ _⟩
  case round =>
    obtain ⟨j, hj, rfl, hno, hK⟩ := hrel
    have HNO := Lib.hid hno
    have HK := Lib.hid hK
    clear hno hK
    by_cases hjn : j < n
    · obtain ⟨⟨⟨⟨x, y, z⟩, mn, mh⟩, u⟩, hx⟩ : ∃ x, LV[j]? = some x := ⟨LV[j]'(by rw [HN.out]; exact hjn), by simp⟩
      obtain ⟨g, e, hg, p0, p1, p2, p3, p4⟩ := (H1.out.keptN HK.out).cells hx
      subst e
      have HX := Lib.hid hx
      obtain ⟨ah, ch, hsh⟩ := (H1.out.has _ (List.mem_of_getElem? hx)).1.shape
      simp only at p0 p1 p2 p3 p4 hsh
      rw [hsh] at p4
      have ⟨b0, b1, b2⟩ := B1.out.kept HK.out (fun e => e)
      have hbl : b < wr.heap.size := World.block_lt_of_cell? wr _ b0
      have heq := fun W : World => eqT_at Try.underlying30 (x, y, z) k W
      clear hx hsh
      by_cases hk : (x, y, z) = k
      · rw [decide_eq_true hk] at heq
        have HKK := Lib.hid hk
        clear hk
        go_wp2_with fail
        go_ret
        have hL : (LV.map Prod.fst)[j]? = some (⟨(x, y, z), mn, mh⟩ : Mem) := by rw [List.getElem?_map, HX.out]; rfl
        refine ⟨(j : Int), rfl, .inr ⟨j, _, rfl, hL, ?_⟩, (K1.out.trans HK.out (fun _ _ e => e)).alloc _⟩
        have := mem_of H1.out.keys (List.mem_of_getElem? hL)
        rw [← HKK.out]; exact this
      · rw [decide_eq_false hk] at heq
        have HKK := Lib.hid hk
        clear hk
        go_wp2_with fail
        go_roundw
        case rel =>
          refine ⟨j + 1, hjn, by go_num, fun x hx => ?_, HK.out.alloc _⟩
          rw [List.take_add_one, HX.out] at hx
          rcases List.mem_append.1 hx with hx | hx
          · exact HNO.out x hx
          · simp at hx; rw [hx]; exact HKK.out
        case measure => simp [intOf]; omega
    · obtain rfl : n = j := by omega
      go_wp2_with fail
      go_ret
      refine ⟨-1, rfl, .inl ⟨rfl, mem_none.2 (fun m hm => ?_)⟩, K1.out.trans HK.out (fun _ _ e => e)⟩
      obtain ⟨x, hx, rfl⟩ := List.mem_map.1 hm
      have := HNO.out
      rw [List.take_of_length_le (by rw [HN.out]; exact Nat.le_refl _)] at this
      exact this x hx
/-- Behind find: none, or a place. -/
theorem FindR.cases {L : List Mem} {k : T3} {r : Int} (h : FindR L k r) (hl : L.length ≤ 100000) : (r = -1 ∧ mem L k = none) ∨ ∃ i m, r = ((i : Nat) : Int) ∧ i < 100000 ∧ L[i]? = some m ∧ mem L k = some m := by
  rcases h with h | ⟨i, m, e, hi, hm⟩
  · exact .inl h
  · exact .inr ⟨i, m, e, by have := (List.getElem?_eq_some_iff.1 hi).1; omega, hi, hm⟩
set_option maxHeartbeats 2000000 in
theorem wantedR_any (h : RSv w G q a c LV) (k : T3) (hl : LV.length ≤ 100000) :
    Calls Try.prog 25 #[.pointer (some ⟨q, 0, none⟩), av k] w fun e w' => e = .returned (.int .i64 (wanted (LV.map Prod.fst) k)) ∧ Kept Nil w w' := by
  have H1 := Lib.hid (h.keptN ((Kept.refl Nil w).alloc (.cells #[.int .i64 k.1, .int .i64 k.2.1, .int .i64 k.2.2] 30)))
  have K1 := Lib.hid ((Kept.refl Nil w).alloc (.cells #[.int .i64 k.1, .int .i64 k.2.1, .int .i64 k.2.2] 30))
  have ⟨b0, b1, b2⟩ := B3.new w 30 k
  clear h
  go_enter Try.func25, Try.ntmps25
  go_wp2_with fail
  refine (findR_any H1.out k hl).mono ?_
  rintro e w2 ⟨r, rfl, hr, k2⟩
  have H2 := Lib.hid (H1.out.keptN k2)
  have K2 := Lib.hid (K1.out.trans k2 (fun _ _ e => e))
  rcases hr.cases (by rw [List.length_map]; exact hl) with ⟨rfl, hm⟩ | ⟨i, m, rfl, hi5, hi, hm⟩
  · have HW := Lib.hid (wanted_none hm)
    clear hr hm k2 b0 b1 b2
    go_wp2_with fail
    go_ret
    rw [HW.out]
    exact ⟨rfl, K2.out⟩
  · have HW := Lib.hid (wanted_some hm)
    rw [List.getElem?_map] at hi
    obtain ⟨x, hx, e⟩ := Option.map_eq_some_iff.1 hi
    obtain ⟨g, rfl, hg, p0, p1, p2, p3, p4⟩ := H2.out.cells hx
    have hil := (List.getElem?_eq_some_iff.1 hx).1
    have c0 := H2.out.here.cell 0
    simp at c0
    rw [e] at p3
    generalize LV.length = n at *
    clear hr hm k2 b0 b1 b2 hi e hx p0 p1 p2 p4
    go_wp2_with fail
    go_ret
    rw [HW.out]
    exact ⟨rfl, K2.out⟩
set_option maxHeartbeats 2000000 in
theorem itemsR_any (h : RSv w G q a c LV) (k : T3) (hl : LV.length ≤ 100000) :
    Calls Try.prog 28 #[.pointer (some ⟨q, 0, none⟩), av k] w fun e w' => ∃ a' c', e = .returned (.slice a' (items (LV.map Prod.fst) k).length c') ∧ In cN 1 w' a' (items (LV.map Prod.fst) k).length (items (LV.map Prod.fst) k) ∧ (∀ b, (Value.slice a' (items (LV.map Prod.fst) k).length c').ownBlock = some b → G b) ∧ Kept Nil w w' := by
  have H1 := Lib.hid (h.keptN ((Kept.refl Nil w).alloc (.cells #[.int .i64 k.1, .int .i64 k.2.1, .int .i64 k.2.2] 30)))
  have K1 := Lib.hid ((Kept.refl Nil w).alloc (.cells #[.int .i64 k.1, .int .i64 k.2.1, .int .i64 k.2.2] 30))
  have ⟨b0, b1, b2⟩ := B3.new w 30 k
  clear h
  go_enter Try.func28, Try.ntmps28
  go_wp2_with fail
  refine (findR_any H1.out k hl).mono ?_
  rintro e w2 ⟨r, rfl, hr, k2⟩
  have H2 := Lib.hid (H1.out.keptN k2)
  have K2 := Lib.hid (K1.out.trans k2 (fun _ _ e => e))
  rcases hr.cases (by rw [List.length_map]; exact hl) with ⟨rfl, hm⟩ | ⟨i, m, rfl, hi5, hi, hm⟩
  · have HW := Lib.hid (items_none hm)
    clear hr hm k2 b0 b1 b2
    go_wp2_with fail
    go_ret
    rw [HW.out]
    exact ⟨none, 0, rfl, ⟨rfl, .inl rfl⟩, (fun b hb => by cases hb), K2.out⟩
  · have HW := Lib.hid (items_some hm)
    rw [List.getElem?_map] at hi
    obtain ⟨x, hx, e⟩ := Option.map_eq_some_iff.1 hi
    obtain ⟨g, rfl, hg, p0, p1, p2, p3, p4⟩ := H2.out.cells hx
    have hil := (List.getElem?_eq_some_iff.1 hx).1
    have c0 := H2.out.here.cell 0
    simp at c0
    obtain ⟨hro, hgo⟩ := H2.out.has x (List.mem_of_getElem? hx)
    rw [e] at hro
    obtain ⟨a', c', hsh⟩ := hro.shape
    rw [hsh] at p4 hro hgo
    have HRO := Lib.hid (And.intro (hro.toIn cN_len (by decide)) hgo)
    generalize LV.length = n at *
    clear hr hm k2 b0 b1 b2 hi e hx p0 p1 p2 p3 hsh hro hgo
    go_wp2_with fail
    go_ret
    rw [HW.out]
    exact ⟨a', c', rfl, HRO.out.1, HRO.out.2, K2.out⟩
set_option maxHeartbeats 2000000 in
theorem hasR_any {w : World} {a : Option Addr} {n c : Nat} {l : List Int} (h : In cN 1 w a n l) (x : Int) (hn : n ≤ 100000) :
    Calls Try.prog 36 #[.slice a n c, .int .i64 x] w fun e w' => e = .returned (.bool (decide (x ∈ l))) ∧ Kept Nil w w' := by
  have HIn := Lib.hid h
  clear h
  go_enter Try.func36, Try.ntmps36
  go_wp2_with fail
  go_loopw [9] (fun i wr => ∃ j : Nat, j ≤ n ∧ i = .int .i64 j ∧ x ∉ l.take j ∧ Kept Nil w wr) (fun i _ => n - (intOf i).toNat)
  case atStart => exact ⟨0, Nat.zero_le _, rfl, by simp, Kept.refl _ _⟩
  case round =>
    obtain ⟨j, hj, rfl, hno, hK⟩ := hrel
    have HNO := Lib.hid hno
    have HK := Lib.hid hK
    clear hno hK
    by_cases hjn : j < n
    · obtain ⟨y, hy⟩ : ∃ y, l[j]? = some y := ⟨l[j]'(by rw [HIn.out.1]; exact hjn), by simp⟩
      obtain ⟨b, o, rfl, hb, p0⟩ := (HIn.out.kept HK.out).one hy
      have HY := Lib.hid hy
      clear hy
      by_cases e : y = x
      · subst e
        have hd := Lib.hid (show decide (y ∈ l) = true from decide_eq_true (List.mem_of_getElem? HY.out))
        go_wp2_with fail
        go_ret
        exact ⟨ret_bool hd.out.symm, HK.out⟩
      · have hne : (y == x) = false := beq_eq_false_iff_ne.2 e
        have hne2 : decide (y = x) = false := decide_eq_false e
        have HE := Lib.hid e
        clear e
        go_wp2_with fail
        go_roundw
        case rel =>
          refine ⟨j + 1, hjn, by go_num, fun hx => ?_, HK.out⟩
          rw [List.take_add_one, HY.out] at hx
          rcases List.mem_append.1 hx with hx | hx
          · exact HNO.out hx
          · simp at hx; exact HE.out hx.symm
        case measure => simp [intOf]; omega
    · obtain rfl : n = j := by omega
      have hd := Lib.hid (show decide (x ∈ l) = false from decide_eq_false (by
        have := HNO.out
        rwa [List.take_of_length_le (by rw [HIn.out.1]; exact Nat.le_refl _)] at this))
      go_wp2_with fail
      go_ret
      exact ⟨ret_bool hd.out.symm, HK.out⟩
end
end Go.Proofs.Ythiijlngoikhkaa
