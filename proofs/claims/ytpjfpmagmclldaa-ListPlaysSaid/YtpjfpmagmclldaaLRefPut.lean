/- The reference's put. -/
import Derived.Test.YtpjfpmagmclldaaLRef
namespace Go.Proofs.Ytpjfpmagmclldaa
set_option maxRecDepth 100000
open Go.RowKit Go.Maps

section
variable {w w' : World} {r v : Value} {row : List Nat} {vals : List ByteArray}
/-- Rows of two types have two blocks. -/
theorem rows_apart {w : World} {B1 B2 : Nat} {t1 t2 : TypeId} {s1 s2 n1 n2 : Nat} {v1 v2 : Value} {x1 x2 : List Value} (h1 : w.ownsRow B1 t1 s1 v1 n1 x1) (h2 : w.ownsRow B2 t2 s2 v2 n2 x2) (ht : t1 ≠ t2) {k : Nat} (hk : v1.ownBlock = some k) : v2.ownBlock ≠ some k := by
  intro hk2
  rcases h1.2 with ⟨rfl, _⟩ | ⟨g, cap, cur, rfl, _, hg, _⟩
  · cases hk
  rcases h2.2 with ⟨rfl, _⟩ | ⟨g', cap', cur', rfl, _, hg', _⟩
  · cases hk2
  cases hk; cases hk2
  rw [hg] at hg'
  simp at hg'
  exact ht hg'.2
/-- A part of the reference's row. -/
theorem RefL.part (h : RefL w r v row vals) {at_ : Nat} (ha : at_ ≤ row.length) : ∃ a c, r = .slice a row.length c ∧ row.length ≤ c ∧ c ≤ maxLen ∧ At w (.slice a at_ c) at_ ((row.take at_).map vN) ∧ ((row = [] ∧ a = none) ∨ ∃ g, a = some ⟨g, 0, none⟩) := by
  obtain ⟨a, c, e, h1, h2, h3⟩ := h.rowAt
  refine ⟨a, c, e, h1, h2, ⟨a, c, rfl, ?_⟩, ?_⟩
  · rcases h3 with rfl | ⟨b, rfl, hc⟩
    · exact .inl (by simp)
    · refine .inr ⟨b, 0, rfl, fun j x hj => ?_⟩
      rw [List.getElem?_map, List.getElem?_take] at hj
      split at hj
      · obtain ⟨y, hy, rfl⟩ := Option.map_eq_some_iff.1 hj
        have := hc j y hy
        simpa using this
      · simp at hj
  · rcases h.row.2 with ⟨e1, e0⟩ | ⟨g, cap, cur, e1, _⟩
    · rw [e1] at e
      simp at e
      exact .inl ⟨List.length_eq_zero_iff.1 e0, e.1.symm⟩
    · rw [e1] at e
      simp at e
      exact .inr ⟨g, e.1.symm⟩

theorem ownsRow_low {w : World} {B : Nat} {e : TypeId} {v : Value} {n : Nat} {xs : List Value} (h : w.ownsRow B e 1 v n xs) : w.ownsRow 0 e 1 v n xs := ⟨h.1, h.2.imp id fun ⟨g, cap, cur, e, _, r⟩ => ⟨g, cap, cur, e, Nat.zero_le _, r⟩⟩
theorem one_vN : ∀ y ∈ row.map vN, y.oneCell' = true := by
  intro y hy
  obtain ⟨x, _, rfl⟩ := List.mem_map.1 hy
  rfl
theorem one_S : ∀ y ∈ vals.map Value.string, y.oneCell' = true := by
  intro y hy
  obtain ⟨x, _, rfl⟩ := List.mem_map.1 hy
  rfl
theorem At.shape' {w : World} {v : Value} {n : Nat} {xs : List Value} (h : At w v n xs) : ∃ a c, v = .slice a n c := h.shape
theorem own_shape {w : World} {B : Nat} {e : TypeId} {v : Value} {n : Nat} {xs : List Value} (h : w.ownsRow B e 1 v n xs) : ∃ a c, v = .slice a n c := (At.own h).shape
theorem kept_from {B : Nat} {w w' : World} {e : TypeId} {v : Value} {n : Nat} {xs : List Value} (h : w.ownsRow B e 1 v n xs) (k : Kept (fun k => v.ownBlock = some k) w w') : Kept (fun k => B ≤ k) w w' := k.mono (fun _ _ e => (h.lt _ e).1)

/-- The four slices and worlds of put's first steps. -/
theorem put_steps (h : RefL w r v row vals) {at_ : Nat} (ha : at_ ≤ row.length) (hl : row.length ≤ 1000) (hm : vals.length ≤ 1000) (s : ByteArray) {B : Nat} (hB : B ≤ w.heap.size) {ra rb : Value} (hra : At w ra at_ ((row.take at_).map vN)) (hra' : ∀ k, ra.ownBlock = some k → k < B) (hrb : At w rb (row.length - at_) ((row.drop at_).map vN)) (hrb' : ∀ k, rb.ownBlock = some k → k < B) :
    ∃ v1 w1 v2 w2 v3 w3 v4 w4 v5 w5, (Builtin.append_ #[27, 27] 27 #[.slice none 0 0, v]).run Try.prog w = .ok v1 w1 ∧
      (Builtin.append_ #[27, 27] 27 #[v1, .slice (some ⟨w1.heap.size, 0, none⟩) 1 1]).run Try.prog (w1.alloc (.cells #[.string s] 9)) = .ok v2 w2 ∧
      (Builtin.append_ #[26, 26] 26 #[.slice none 0 0, ra]).run Try.prog w2 = .ok v3 w3 ∧
      (Builtin.append_ #[26, 26] 26 #[v3, .slice (some ⟨w3.heap.size, 0, none⟩) 1 1]).run Try.prog (w3.alloc (.cells #[.int .i64 ((vals.length : Int) + 1)] 3)) = .ok v4 w4 ∧
      (∃ a c, v1 = .slice a vals.length c) ∧ (∃ a c, v2 = .slice a (vals.length + 1) c) ∧ (∃ a c, v3 = .slice a at_ c) ∧ (∃ a c, v4 = .slice a (at_ + 1) c) ∧
      (Builtin.append_ #[26, 26] 26 #[v4, rb]).run Try.prog w4 = .ok v5 w5 ∧ (∃ a c, v5 = .slice a (row.length + 1) c) ∧
      RefL w5 v5 v2 (row.take at_ ++ (vals.length + 1) :: row.drop at_) (vals ++ [s]) ∧
      Kept (fun k => B ≤ k) w w2 ∧ Kept (fun k => B ≤ k) w w4 ∧ Kept (fun k => B ≤ k) w w5 ∧ (∀ k, v5.ownBlock = some k → B ≤ k) ∧ (∀ k, v2.ownBlock = some k → B ≤ k) := by
  obtain ⟨v1, w1, r1, o1, k1, _⟩ := append_any elsT 27 (World.ownsRow_nil w B 9 1) (At.own h.vals) (by simp) one_S (by omega) hB
  have K1 := kept_from (World.ownsRow_nil w B 9 1) k1
  have hB1 : B ≤ w1.heap.size := Nat.le_trans hB K1.size
  obtain ⟨v2, w2, r2, o2, k2, _⟩ := append_any elsT 27 (o1.alloc (.cells #[.string s] 9)) (At.lit w1 9 #[.string s] [.string s] rfl) rfl (by intro y hy; simp at hy; subst hy; rfl) (by simp; omega) (by simp; omega)
  have K2 : Kept (fun k => B ≤ k) w w2 := (K1.alloc (.cells #[.string s] 9)).trans (kept_from (o1.alloc (.cells #[.string s] 9)) k2) (fun _ _ e => e)
  have hB2 : B ≤ w2.heap.size := Nat.le_trans hB K2.size
  have hra2 := hra.kept K2 (fun k e hk => Nat.lt_irrefl _ (Nat.lt_of_lt_of_le (hra' k e) hk))
  obtain ⟨v3, w3, r3, o3, k3, _⟩ := append_any elsI 26 (World.ownsRow_nil w2 B 3 1) hra2 (by simp; omega) one_vN (by omega) hB2
  have K3 := K2.trans (kept_from (World.ownsRow_nil w2 B 3 1) k3) (fun _ _ e => e)
  have hB3 : B ≤ w3.heap.size := Nat.le_trans hB K3.size
  have o23 := k3.row o2 (fun k _ e => by simp [Value.ownBlock] at e)
  obtain ⟨v4, w4, r4, o4, k4, _⟩ := append_any elsI 26 (o3.alloc (.cells #[.int .i64 ((vals.length : Int) + 1)] 3)) (At.lit w3 3 #[.int .i64 ((vals.length : Int) + 1)] [.int .i64 ((vals.length : Int) + 1)] rfl) rfl (by intro y hy; simp at hy; subst hy; rfl) (by simp; omega) (by simp; omega)
  have K4 : Kept (fun k => B ≤ k) w w4 := (K3.alloc (.cells #[.int .i64 ((vals.length : Int) + 1)] 3)).trans (kept_from (o3.alloc (.cells #[.int .i64 ((vals.length : Int) + 1)] 3)) k4) (fun _ _ e => e)
  have o24 := k4.row (o23.alloc (.cells #[.int .i64 ((vals.length : Int) + 1)] 3)) (fun k e1 e2 => rows_apart (o23.alloc (.cells #[.int .i64 ((vals.length : Int) + 1)] 3)) (o3.alloc (.cells #[.int .i64 ((vals.length : Int) + 1)] 3)) (by decide) e1 e2)
  have hrb4 := hrb.kept K4 (fun k e hk => Nat.lt_irrefl _ (Nat.lt_of_lt_of_le (hrb' k e) hk))
  obtain ⟨v5, w5, r5, o5, k5, _⟩ := append_any elsI 26 o4 hrb4 (by simp) one_vN (by omega) (Nat.le_trans hB K4.size)
  have K5 : Kept (fun k => B ≤ k) w w5 := K4.trans (kept_from o4 k5) (fun _ _ e => e)
  have o25 := k5.row o24 (fun k e1 e2 => rows_apart o24 o4 (by decide) e1 e2)
  have hn : 0 + vals.length = vals.length := Nat.zero_add _
  rw [hn] at o1
  have e5 : 0 + at_ + 1 + (row.length - at_) = row.length + 1 := by omega
  rw [e5] at o5
  refine ⟨v1, w1, v2, w2, v3, w3, v4, w4, v5, w5, r1, r2, r3, r4, own_shape o1, ?_, ?_, ?_, r5, own_shape o5, ⟨?_, ?_⟩, K2, K4, K5, fun k e => (o5.lt k e).1, fun k e => (o25.lt k e).1⟩
  · have := own_shape o2; rw [hn] at this; exact this
  · have := own_shape o3; rw [Nat.zero_add] at this; exact this
  · have := own_shape o4; rw [Nat.zero_add] at this; exact this
  · have e6 : (row.take at_ ++ (vals.length + 1) :: row.drop at_).length = row.length + 1 := by simp; omega
    rw [e6]
    have := ownsRow_low o5
    simpa [vN] using this
  · rw [hn] at o25
    have := ownsRow_low o25
    simpa using this

set_option maxHeartbeats 4000000 in
theorem putR_any (h : RefL w r v row vals) {at_ : Nat} (ha : at_ ≤ row.length) (hl : row.length ≤ 1000) (hm : vals.length ≤ 1000) (s : ByteArray) :
    Calls Try.prog 33 #[.agg #[r, v], .int .i64 (at_ : Int), .string s] w fun e w' => ∃ r' v', e = .returned (.agg #[r', v']) ∧ RefL w' r' v' (row.take at_ ++ (vals.length + 1) :: row.drop at_) (vals ++ [s]) ∧ Kept Nil w w' := by
  obtain ⟨a, c, rfl, hc1, hc2, hpart, hor⟩ := h.part ha
  obtain ⟨b, d, rfl, hd1, hd2, _⟩ := h.valsAt
  unfold maxLen at hc2 hd2
  have hb3 := (Blk.new w 29 #[.slice a row.length c, .slice b vals.length d]).alloc (.cells #[.slice none 0 0, .slice none 0 0] 29)
  have hb6 := Blk.new (w.alloc (.cells #[.slice a row.length c, .slice b vals.length d] 29)) 29 #[.slice none 0 0, .slice none 0 0]
  have q1 := hb3.cell 1
  have K0 := ((Kept.refl Nil w).alloc (.cells #[.slice a row.length c, .slice b vals.length d] 29)).alloc (.cells #[.slice none 0 0, .slice none 0 0] 29)
  have hz : ((w.alloc (.cells #[.slice a row.length c, .slice b vals.length d] 29)).alloc (.cells #[.slice none 0 0, .slice none 0 0] 29)).heap.size = w.heap.size + 2 := by simp
  have hlt : ∀ k, (Value.slice a row.length c).ownBlock = some k → k < w.heap.size + 2 := fun k e => by have := (h.row.lt k e).2; omega
  have hlt2 : ∀ k, a = some k → k.block < w.heap.size + 2 := fun k e => by subst e; exact hlt _ rfl
  have fin : ∀ (w5 : World) (v5 v2 : Value), Kept (fun k => w.heap.size + 2 ≤ k) ((w.alloc (.cells #[.slice a row.length c, .slice b vals.length d] 29)).alloc (.cells #[.slice none 0 0, .slice none 0 0] 29)) w5 → RefL w5 v5 v2 (row.take at_ ++ (vals.length + 1) :: row.drop at_) (vals ++ [s]) → (∀ k, v5.ownBlock = some k → w.heap.size + 2 ≤ k) → (∀ k, v2.ownBlock = some k → w.heap.size + 2 ≤ k) →
      Blk w5 (w.heap.size + 1) 29 #[.slice none 0 0, .slice none 0 0] ∧ Blk ((w5.setCell ⟨w.heap.size + 1, 0, none⟩ v5).setCell ⟨w.heap.size + 1, 1, none⟩ v2) (w.heap.size + 1) 29 #[v5, v2] ∧ RefL ((w5.setCell ⟨w.heap.size + 1, 0, none⟩ v5).setCell ⟨w.heap.size + 1, 1, none⟩ v2) v5 v2 (row.take at_ ++ (vals.length + 1) :: row.drop at_) (vals ++ [s]) ∧ Kept Nil w ((w5.setCell ⟨w.heap.size + 1, 0, none⟩ v5).setCell ⟨w.heap.size + 1, 1, none⟩ v2) := by
    intro w5 v5 v2 K5 hR h5 h2
    have hsz : (w.alloc (.cells #[.slice a row.length c, .slice b vals.length d] 29)).heap.size = w.heap.size + 1 := by simp
    rw [hsz] at hb6
    have b6 := hb6.kept K5 (by omega)
    have kk : Kept (fun k => k = w.heap.size + 1) w5 ((w5.setCell ⟨w.heap.size + 1, 0, none⟩ v5).setCell ⟨w.heap.size + 1, 1, none⟩ v2) := ((Kept.refl (fun k => k = w.heap.size + 1) w5).setCell ⟨w.heap.size + 1, 0, none⟩ (Or.inl rfl) _).setCell ⟨w.heap.size + 1, 1, none⟩ (Or.inl rfl) _
    refine ⟨b6, (b6.set_ 0 v5).set_ 1 v2, ⟨kk.row hR.row (fun k e e2 => by have := h5 k e; omega), kk.row hR.vals (fun k e e2 => by have := h2 k e; omega)⟩, ?_⟩
    have k6 : Kept Nil w w5 := K0.trans K5 (fun i hi e => by omega)
    exact k6.trans kk (fun i hi e => by omega)
  rcases hor with ⟨rfl, rfl⟩ | ⟨g, rfl⟩
  · have ha0 : at_ = 0 := by simpa using ha
    subst ha0
    obtain ⟨v1, w1, v2, w2, v3, w3, v4, w4, v5, w5, r1, r2, r3, r4, ⟨a1, c1, rfl⟩, ⟨a2, c2, rfl⟩, ⟨a3, c3, rfl⟩, ⟨a4, c4, rfl⟩, r5, ⟨a5, c5, rfl⟩, hR, K2, K4, K5, h5, h2⟩ := put_steps (h.keptN K0) (Nat.le_refl 0) hl hm s (Nat.le_of_eq hz.symm) (hpart.keptN K0) (fun k e => by cases e) (rb := .slice none 0 c) ⟨none, c, rfl, .inl rfl⟩ (fun k e => by cases e)
    have q20 := (hb3.kept K2 (by omega)).cell 0
    have q40 := (hb3.kept K4 (by omega)).cell 0
    obtain ⟨b6, f1, f2, f3⟩ := fin w5 _ _ K5 hR h5 h2
    have z0 := b6.cell 0
    have z1 := b6.cell 1
    have z2 := b6.frozen 0
    have z3 := b6.frozen 1
    have F1 := Lib.hid f1
    have F2 := Lib.hid f2
    have F3 := Lib.hid f3
    clear fin f1 f2 f3 b6 hR K2 K4 K5 h5 h2 hb3 hb6 K0 h
    go_enter Try.func33, Try.ntmps33
    go_wp2_with (at_builtin; first | (refine wpList_append_run rfl (.tmp 9) (.tmp 11) 27 rfl _ _ rfl rfl r1 ?_) | (refine wpList_append_run rfl (.tmp 13) (.tmp 15) 27 rfl _ _ rfl rfl r2 ?_) | (refine wpList_append_run rfl (.tmp 17) (.tmp 21) 26 rfl _ _ rfl rfl r3 ?_) | (refine wpList_append_run rfl (.tmp 23) (.tmp 26) 26 rfl _ _ rfl rfl r4 ?_) | (refine wpList_append_run rfl (.tmp 28) (.tmp 32) 26 rfl _ _ rfl rfl r5 ?_))
    refine bodyPost_ret (results_cell_row Try.results33 _ _ _ _ _ _ _ rfl F1.out Try.underlying29 rfl (by kernel_rfl)) rfl ?_
    exact ⟨_, _, rfl, F2.out, F3.out⟩
  · by_cases hca : at_ = c
    · have hrb : At w (.slice (some ⟨g, 0, none⟩) (row.length - at_) 0) (row.length - at_) ((row.drop at_).map vN) := by
        refine ⟨_, _, rfl, .inl ?_⟩
        rw [List.drop_of_length_le (by omega)]; rfl
      subst hca
      obtain ⟨v1, w1, v2, w2, v3, w3, v4, w4, v5, w5, r1, r2, r3, r4, ⟨a1, c1, rfl⟩, ⟨a2, c2, rfl⟩, ⟨a3, c3, rfl⟩, ⟨a4, c4, rfl⟩, r5, ⟨a5, c5, rfl⟩, hR, K2, K4, K5, h5, h2⟩ := put_steps (h.keptN K0) ha hl hm s (Nat.le_of_eq hz.symm) (hpart.keptN K0) (fun k e => hlt k e) (hrb.keptN K0) (fun k e => hlt k (by simpa [Value.ownBlock] using e))
      rw [show row.length - at_ = 0 from by omega] at r5
      have q20 := (hb3.kept K2 (by omega)).cell 0
      have q40 := (hb3.kept K4 (by omega)).cell 0
      obtain ⟨b6, f1, f2, f3⟩ := fin w5 _ _ K5 hR h5 h2
      have z0 := b6.cell 0
      have z1 := b6.cell 1
      have z2 := b6.frozen 0
      have z3 := b6.frozen 1
      have F1 := Lib.hid f1
      have F2 := Lib.hid f2
      have F3 := Lib.hid f3
      clear fin f1 f2 f3 b6 hR K2 K4 K5 h5 h2 hb3 hb6 K0 h
      go_enter Try.func33, Try.ntmps33
      go_wp2_with (at_builtin; first | (refine wpList_append_run rfl (.tmp 9) (.tmp 11) 27 rfl _ _ rfl rfl r1 ?_) | (refine wpList_append_run rfl (.tmp 13) (.tmp 15) 27 rfl _ _ rfl rfl r2 ?_) | (refine wpList_append_run rfl (.tmp 17) (.tmp 21) 26 rfl _ _ rfl rfl r3 ?_) | (refine wpList_append_run rfl (.tmp 23) (.tmp 26) 26 rfl _ _ rfl rfl r4 ?_) | (refine wpList_append_run rfl (.tmp 28) (.tmp 32) 26 rfl _ _ rfl rfl r5 ?_))
      refine bodyPost_ret (results_cell_row Try.results33 _ _ _ _ _ _ _ rfl F1.out Try.underlying29 rfl (by kernel_rfl)) rfl ?_
      exact ⟨_, _, rfl, F2.out, F3.out⟩
    · have hrb : At w (.slice (some ⟨g, at_, none⟩) (row.length - at_) (c - at_)) (row.length - at_) ((row.drop at_).map vN) := by
        refine ⟨_, _, rfl, .inr ⟨g, at_, rfl, fun j x hj => ?_⟩⟩
        obtain ⟨a', c', e', _, _, hx⟩ := h.rowAt
        simp at e'
        rw [List.getElem?_map, List.getElem?_drop] at hj
        obtain ⟨y, hy, rfl⟩ := Option.map_eq_some_iff.1 hj
        rcases hx with e | ⟨b', e2, hcc⟩
        · rw [e] at hy; simp at hy
        · rw [e2] at e'
          simp at e'
          rw [e'.1]
          exact hcc _ y hy
      obtain ⟨v1, w1, v2, w2, v3, w3, v4, w4, v5, w5, r1, r2, r3, r4, ⟨a1, c1, rfl⟩, ⟨a2, c2, rfl⟩, ⟨a3, c3, rfl⟩, ⟨a4, c4, rfl⟩, r5, ⟨a5, c5, rfl⟩, hR, K2, K4, K5, h5, h2⟩ := put_steps (h.keptN K0) ha hl hm s (Nat.le_of_eq hz.symm) (hpart.keptN K0) (fun k e => hlt k e) (hrb.keptN K0) (fun k e => hlt k (by simpa [Value.ownBlock] using e))
      have q20 := (hb3.kept K2 (by omega)).cell 0
      have q40 := (hb3.kept K4 (by omega)).cell 0
      obtain ⟨b6, f1, f2, f3⟩ := fin w5 _ _ K5 hR h5 h2
      have z0 := b6.cell 0
      have z1 := b6.cell 1
      have z2 := b6.frozen 0
      have z3 := b6.frozen 1
      have F1 := Lib.hid f1
      have F2 := Lib.hid f2
      have F3 := Lib.hid f3
      clear fin f1 f2 f3 b6 hR K2 K4 K5 h5 h2 hb3 hb6 K0 h
      go_enter Try.func33, Try.ntmps33
      go_wp2_with (at_builtin; first | (refine wpList_append_run rfl (.tmp 9) (.tmp 11) 27 rfl _ _ rfl rfl r1 ?_) | (refine wpList_append_run rfl (.tmp 13) (.tmp 15) 27 rfl _ _ rfl rfl r2 ?_) | (refine wpList_append_run rfl (.tmp 17) (.tmp 21) 26 rfl _ _ rfl rfl r3 ?_) | (refine wpList_append_run rfl (.tmp 23) (.tmp 26) 26 rfl _ _ rfl rfl r4 ?_) | (refine wpList_append_run rfl (.tmp 28) (.tmp 32) 26 rfl _ _ rfl rfl r5 ?_))
      refine bodyPost_ret (results_cell_row Try.results33 _ _ _ _ _ _ _ rfl F1.out Try.underlying29 rfl (by kernel_rfl)) rfl ?_
      exact ⟨_, _, rfl, F2.out, F3.out⟩
end
end Go.Proofs.Ytpjfpmagmclldaa
