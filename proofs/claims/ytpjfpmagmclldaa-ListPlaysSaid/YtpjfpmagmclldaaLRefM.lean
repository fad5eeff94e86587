/- The reference's Push, Before, Get, Next. -/
import Derived.Test.YtpjfpmagmclldaaLRefPut
namespace Go.Proofs.Ytpjfpmagmclldaa
set_option maxRecDepth 100000
open Go.RowKit Go.Maps

section
variable {w w' : World} {r v : Value} {row : List Nat} {vals : List ByteArray}
theorem RefL.kept {F : Nat → Prop} (h : RefL w r v row vals) (hk : Kept F w w') (hF : ∀ k cs, (w.heap[k]? = some (.cells cs 3 (0, 0)) ∨ w.heap[k]? = some (.cells cs 9 (0, 0))) → ¬ F k) : RefL w' r v row vals := by
  refine ⟨hk.row h.row (fun k e => ?_), hk.row h.vals (fun k e => ?_)⟩
  · rcases h.row.2 with ⟨rfl, _⟩ | ⟨g, cap, cur, rfl, _, hg, _⟩
    · cases e
    · cases e; exact hF _ _ (.inl hg)
  · rcases h.vals.2 with ⟨rfl, _⟩ | ⟨g, cap, cur, rfl, _, hg, _⟩
    · cases e
    · cases e; exact hF _ _ (.inr hg)
theorem RefL.set (h : RefL w r v row vals) {b : Nat} {cs : Array Value} (hb : Blk w b 29 cs) (i : Nat) (u : Value) : RefL (w.setCell ⟨b, i, none⟩ u) r v row vals :=
  h.kept (F := fun k => k = b) ((Kept.refl (fun k => k = b) w).setCell ⟨b, i, none⟩ (Or.inl rfl) u) (fun k cs' e hk => by
    subst hk
    unfold Blk at hb
    rw [hb] at e
    simp at e)
theorem RefL.shapes (h : RefL w r v row vals) : ∃ a c b d, r = .slice a row.length c ∧ v = .slice b vals.length d ∧ row.length ≤ c ∧ c ≤ 9223372036854775807 ∧ vals.length ≤ d ∧ d ≤ 9223372036854775807 := by
  obtain ⟨a, c, e1, h1, h2, _⟩ := h.rowAt
  obtain ⟨b, d, e2, h3, h4, _⟩ := h.valsAt
  unfold maxLen at h2 h4
  exact ⟨a, c, b, d, e1, e2, h1, h2, h3, h4⟩

set_option maxHeartbeats 4000000 in
theorem pushR_any (h : RefL w r v row vals) (hl : row.length ≤ 1000) (hm : vals.length ≤ 1000) (s : ByteArray) :
    Calls Try.prog 9 #[.agg #[r, v], .string s] w fun e w' => ∃ r' v', e = .returned (.tuple #[.agg #[r', v'], .int .i64 ((vals.length : Int) + 1)]) ∧ RefL w' r' v' (row ++ [vals.length + 1]) (vals ++ [s]) ∧ Kept Nil w w' := by
  obtain ⟨a, c, b, d, rfl, rfl, s1, s2, s3, s4⟩ := h.shapes
  have K0 := Lib.hid (((Kept.refl Nil w).alloc (.cells #[.slice a row.length c, .slice b vals.length d] 29)).alloc (.cells #[.slice none 0 0, .slice none 0 0] 29))
  have B2 := Lib.hid ((Blk.new w 29 #[.slice a row.length c, .slice b vals.length d]).alloc (.cells #[.slice none 0 0, .slice none 0 0] 29))
  have hb4 := Blk.new (w.alloc (.cells #[.slice a row.length c, .slice b vals.length d] 29)) 29 #[.slice none 0 0, .slice none 0 0]
  rw [show (w.alloc (.cells #[.slice a row.length c, .slice b vals.length d] 29)).heap.size = w.heap.size + 1 from by simp] at hb4
  have B4 := Lib.hid hb4
  have q0 := B2.out.cell 0
  have q1 := B2.out.cell 1
  have H0 := Lib.hid (h.keptN K0.out)
  clear hb4 h
  go_enter Try.func9, Try.ntmps9
  go_wp2_with fail
  refine (putR_any H0.out (Nat.le_refl row.length) hl hm s).mono ?_
  rintro e w1 ⟨r', v', rfl, h1, k1⟩
  rw [List.take_of_length_le (Nat.le_refl _), List.drop_of_length_le (Nat.le_refl _)] at h1
  obtain ⟨a', c', b', d', rfl, rfl, t1, t2, t3, t4⟩ := h1.shapes
  rw [show (vals ++ [s]).length = vals.length + 1 from by simp, show (row ++ [vals.length + 1]).length = row.length + 1 from by simp] at h1
  have hb2 := B2.out.kept k1 (fun e => e)
  have hb4 := B4.out.kept k1 (fun e => e)
  have H2 := Lib.hid ((h1.set hb2 0 (.slice a' (row.length + 1) c')).set (hb2.set_ 0 (.slice a' (row.length + 1) c')) 1 (.slice b' (vals.length + 1) d'))
  have HB2 := Lib.hid ((hb2.set_ 0 (.slice a' (row.length + 1) c')).set_ 1 (.slice b' (vals.length + 1) d'))
  have HB4 := Lib.hid ((hb4.far (p := ⟨w.heap.size, 0, none⟩) (by simp) (.slice a' (row.length + 1) c')).far (p := ⟨w.heap.size, 1, none⟩) (by simp) (.slice b' (vals.length + 1) d'))
  have K2 := Lib.hid (show Kept Nil w ((w1.setCell ⟨w.heap.size, 0, none⟩ (.slice a' (row.length + 1) c')).setCell ⟨w.heap.size, 1, none⟩ (.slice b' (vals.length + 1) d')) from
    ((K0.out.trans k1 (fun _ _ e => e)).setCell ⟨w.heap.size, 0, none⟩ (.inr (Nat.le_refl _)) _).setCell ⟨w.heap.size, 1, none⟩ (.inr (Nat.le_refl _)) _)
  have z0 := hb2.cell 0
  have z1 := hb2.cell 1
  have z2 := hb2.frozen 0
  have z3 := hb2.frozen 1
  clear hb2 hb4 k1 h1 q0 q1
  simp only [List.length_append, List.length_cons, List.length_nil, Nat.zero_add]
  go_wp2_with fail
  generalize (w1.setCell ⟨w.heap.size, 0, none⟩ (.slice a' (row.length + 1) c')).setCell ⟨w.heap.size, 1, none⟩ (.slice b' (vals.length + 1) d') = w2 at *
  clear z0 z1 z2 z3
  have y0 := HB2.out.cell 0
  have y1 := HB2.out.cell 1
  have x0 := HB4.out.cell 0
  have x1 := HB4.out.cell 1
  have x2 := HB4.out.frozen 0
  have x3 := HB4.out.frozen 1
  go_region
  go_wp2
  refine bodyPost_ret (results_rowtmp Try.results9 _ _ _ _ _ _ _ rfl ((HB4.out.set_ 0 _).set_ 1 _).drew Try.underlying29 rfl (by kernel_rfl)) rfl ?_
  refine ⟨_, _, rfl, ((H2.out.set HB4.out 0 _).set (HB4.out.set_ 0 _) 1 _).drew, ?_⟩
  exact ((K2.out.setCell ⟨w.heap.size + 1, 0, none⟩ (.inr (by simp)) _).setCell ⟨w.heap.size + 1, 1, none⟩ (.inr (by simp)) _).drew
set_option maxHeartbeats 4000000 in
theorem beforeRH_any (h : RefL w r v row vals) (hl : row.length ≤ 1000) (hm : vals.length ≤ 1000) {at_ x : Nat} (hn : row.Nodup) (hx : row[at_]? = some x) (s : ByteArray) :
    Calls Try.prog 11 #[.agg #[r, v], .int .i64 (x : Int), .string s] w fun e w' => ∃ r' v', e = .returned (.tuple #[.agg #[r', v'], .int .i64 ((vals.length : Int) + 1)]) ∧ RefL w' r' v' (row.take at_ ++ (vals.length + 1) :: row.drop at_) (vals ++ [s]) ∧ Kept Nil w w' := by
  obtain ⟨a, c, b, d, rfl, rfl, s1, s2, s3, s4⟩ := h.shapes
  have K0 := Lib.hid (((Kept.refl Nil w).alloc (.cells #[.slice a row.length c, .slice b vals.length d] 29)).alloc (.cells #[.slice none 0 0, .slice none 0 0] 29))
  have B2 := Lib.hid ((Blk.new w 29 #[.slice a row.length c, .slice b vals.length d]).alloc (.cells #[.slice none 0 0, .slice none 0 0] 29))
  have hb4 := Blk.new (w.alloc (.cells #[.slice a row.length c, .slice b vals.length d] 29)) 29 #[.slice none 0 0, .slice none 0 0]
  rw [show (w.alloc (.cells #[.slice a row.length c, .slice b vals.length d] 29)).heap.size = w.heap.size + 1 from by simp] at hb4
  have B4 := Lib.hid hb4
  have q0 := B2.out.cell 0
  have q1 := B2.out.cell 1
  have H0 := Lib.hid (h.keptN K0.out)
  clear hb4 h
  go_enter Try.func11, Try.ntmps11
  go_wp2_with fail
  refine (place_any H0.out hl x).mono ?_
  rintro e w1' ⟨rfl, k1'⟩
  rw [plc_at (i := 0) hn hx]
  simp only [Nat.zero_add]
  have hlt : at_ < row.length := (List.getElem?_eq_some_iff.1 hx).1
  have q0' := (B2.out.kept k1' (fun e => e)).cell 0
  have q1' := (B2.out.kept k1' (fun e => e)).cell 1
  have hd : decide ((at_ : Int) < 0) = false := decide_eq_false (by omega)
  go_wp2_with fail
  refine (putR_any (H0.out.keptN k1') (Nat.le_of_lt hlt) hl hm s).mono ?_
  rintro e w1 ⟨r', v', rfl, h1, k1⟩
  replace k1 := k1'.trans k1 (fun _ _ e => e)
  clear q0' q1' k1'
  obtain ⟨a', c', b', d', rfl, rfl, t1, t2, t3, t4⟩ := h1.shapes
  rw [show (vals ++ [s]).length = vals.length + 1 from by simp, show (row.take at_ ++ (vals.length + 1) :: row.drop at_).length = row.length + 1 from by simp; omega] at h1
  have hb2 := B2.out.kept k1 (fun e => e)
  have hb4 := B4.out.kept k1 (fun e => e)
  have H2 := Lib.hid ((h1.set hb2 0 (.slice a' (row.length + 1) c')).set (hb2.set_ 0 (.slice a' (row.length + 1) c')) 1 (.slice b' (vals.length + 1) d'))
  have HB2 := Lib.hid ((hb2.set_ 0 (.slice a' (row.length + 1) c')).set_ 1 (.slice b' (vals.length + 1) d'))
  have HB4 := Lib.hid ((hb4.far (p := ⟨w.heap.size, 0, none⟩) (by simp) (.slice a' (row.length + 1) c')).far (p := ⟨w.heap.size, 1, none⟩) (by simp) (.slice b' (vals.length + 1) d'))
  have K2 := Lib.hid (show Kept Nil w ((w1.setCell ⟨w.heap.size, 0, none⟩ (.slice a' (row.length + 1) c')).setCell ⟨w.heap.size, 1, none⟩ (.slice b' (vals.length + 1) d')) from
    ((K0.out.trans k1 (fun _ _ e => e)).setCell ⟨w.heap.size, 0, none⟩ (.inr (Nat.le_refl _)) _).setCell ⟨w.heap.size, 1, none⟩ (.inr (Nat.le_refl _)) _)
  have z0 := hb2.cell 0
  have z1 := hb2.cell 1
  have z2 := hb2.frozen 0
  have z3 := hb2.frozen 1
  clear hb2 hb4 k1 h1 q0 q1
  rw [show (vals ++ [s]).length = vals.length + 1 from by simp, show (row.take at_ ++ (vals.length + 1) :: row.drop at_).length = row.length + 1 from by simp; omega]
  go_wp2_with fail
  generalize (w1.setCell ⟨w.heap.size, 0, none⟩ (.slice a' (row.length + 1) c')).setCell ⟨w.heap.size, 1, none⟩ (.slice b' (vals.length + 1) d') = w2 at *
  clear z0 z1 z2 z3
  have y0 := HB2.out.cell 0
  have y1 := HB2.out.cell 1
  have x0 := HB4.out.cell 0
  have x1 := HB4.out.cell 1
  have x2 := HB4.out.frozen 0
  have x3 := HB4.out.frozen 1
  go_region
  go_wp2
  refine bodyPost_ret (results_rowtmp Try.results11 _ _ _ _ _ _ _ rfl ((HB4.out.set_ 0 _).set_ 1 _).drew Try.underlying29 rfl (by kernel_rfl)) rfl ?_
  refine ⟨_, _, rfl, ((H2.out.set HB4.out 0 _).set (HB4.out.set_ 0 _) 1 _).drew, ?_⟩
  exact ((K2.out.setCell ⟨w.heap.size + 1, 0, none⟩ (.inr (by simp)) _).setCell ⟨w.heap.size + 1, 1, none⟩ (.inr (by simp)) _).drew
set_option maxHeartbeats 4000000 in
theorem beforeRN_any (h : RefL w r v row vals) (hl : row.length ≤ 1000) {k : Int} (hk : ∀ x ∈ row, (x : Int) ≠ k) (s : ByteArray) :
    Calls Try.prog 11 #[.agg #[r, v], .int .i64 k, .string s] w fun e w' => e = .returned (.tuple #[.agg #[r, v], .int .i64 0]) ∧ Kept Nil w w' := by
  obtain ⟨a, c, b, d, rfl, rfl, s1, s2, s3, s4⟩ := h.shapes
  have K0 := Lib.hid (((Kept.refl Nil w).alloc (.cells #[.slice a row.length c, .slice b vals.length d] 29)).alloc (.cells #[.slice none 0 0, .slice none 0 0] 29))
  have B2 := Lib.hid ((Blk.new w 29 #[.slice a row.length c, .slice b vals.length d]).alloc (.cells #[.slice none 0 0, .slice none 0 0] 29))
  have hb4 := Blk.new (w.alloc (.cells #[.slice a row.length c, .slice b vals.length d] 29)) 29 #[.slice none 0 0, .slice none 0 0]
  rw [show (w.alloc (.cells #[.slice a row.length c, .slice b vals.length d] 29)).heap.size = w.heap.size + 1 from by simp] at hb4
  have B4 := Lib.hid hb4
  have q0 := B2.out.cell 0
  have q1 := B2.out.cell 1
  have H0 := Lib.hid (h.keptN K0.out)
  have HKk := Lib.hid hk
  clear hb4 h hk
  go_enter Try.func11, Try.ntmps11
  go_wp2_with fail
  refine (place_any H0.out hl k).mono ?_
  rintro e w1 ⟨rfl, k1⟩
  rw [plc_out HKk.out]
  have q0' := (B2.out.kept k1 (fun e => e)).cell 0
  have q1' := (B2.out.kept k1 (fun e => e)).cell 1
  have hb4 := B4.out.kept k1 (fun e => e)
  have x0 := hb4.cell 0
  have x1 := hb4.cell 1
  have x2 := hb4.frozen 0
  have x3 := hb4.frozen 1
  have HB4 := Lib.hid hb4
  have K1 := Lib.hid (K0.out.trans k1 (fun _ _ e => e))
  clear hb4 k1 q0 q1
  go_wp2_with fail
  refine bodyPost_ret (results_rowtmp Try.results11 _ _ _ _ _ _ _ rfl ((HB4.out.set_ 0 _).set_ 1 _) Try.underlying29 rfl (by kernel_rfl)) rfl ?_
  exact ⟨rfl, (K1.out.setCell ⟨w.heap.size + 1, 0, none⟩ (.inr (by simp)) _).setCell ⟨w.heap.size + 1, 1, none⟩ (.inr (by simp)) _⟩
set_option maxHeartbeats 4000000 in
theorem getRH_any (h : RefL w r v row vals) (hl : row.length ≤ 1000) {at_ x : Nat} (hn : row.Nodup) (hx : row[at_]? = some x) (h1x : 0 < x ∧ x ≤ 1000000) {s : ByteArray} (hs : vals[x - 1]? = some s) :
    Calls Try.prog 13 #[.agg #[r, v], .int .i64 (x : Int)] w fun e w' => e = .returned (.tuple #[.string s, .bool true]) ∧ Kept Nil w w' := by
  obtain ⟨a, c, b, d, rfl, rfl, s1, s2, s3, s4⟩ := h.shapes
  have K0 := Lib.hid ((Kept.refl Nil w).alloc (.cells #[.slice a row.length c, .slice b vals.length d] 29))
  have B2 := Lib.hid (Blk.new w 29 #[.slice a row.length c, .slice b vals.length d])
  have q0 := B2.out.cell 0
  have q1 := B2.out.cell 1
  have H0 := Lib.hid (h.keptN K0.out)
  clear h
  go_enter Try.func13, Try.ntmps13
  go_wp2_with fail
  refine (place_any H0.out hl x).mono ?_
  rintro e w1 ⟨rfl, k1⟩
  rw [plc_at (i := 0) hn hx]
  simp only [Nat.zero_add]
  have q1' := (B2.out.kept k1 (fun e => e)).cell 1
  have hd : decide ((at_ : Int) < 0) = false := decide_eq_false (by omega)
  obtain ⟨b', d', e', _, _, hat⟩ := (H0.out.keptN k1).valsAt
  simp at e'
  obtain ⟨rfl, rfl⟩ := e'
  have hlt : x - 1 < vals.length := (List.getElem?_eq_some_iff.1 hs).1
  rcases hat with e | ⟨g, rfl, hat⟩
  · rw [e] at hs; simp at hs
  have hcell := hat _ _ hs
  obtain ⟨i, hi⟩ : ∃ i, i = x - 1 := ⟨_, rfl⟩
  rw [← hi] at hcell hlt
  have hsub : (x : Int) - 1 = (i : Int) := by omega
  have hw : IntKind.i64.wrap (i : Int) = (i : Int) := by rw [IntKind.wrap_i64]; omega
  have h0 : (0 : Int) ≤ (i : Int) := by omega
  have K1 := Lib.hid (K0.out.trans k1 (fun _ _ e => e))
  clear q0 q1 k1 hat hs hi hx hn
  go_wp2_with fail
  go_ret2
  exact ⟨rfl, K1.out⟩
theorem getRN_any (h : RefL w r v row vals) (hl : row.length ≤ 1000) {k : Int} (hk : ∀ x ∈ row, (x : Int) ≠ k) :
    Calls Try.prog 13 #[.agg #[r, v], .int .i64 k] w fun e w' => e = .returned (.tuple #[.string (ByteArray.mk #[]), .bool false]) ∧ Kept Nil w w' := by
  obtain ⟨a, c, b, d, rfl, rfl, s1, s2, s3, s4⟩ := h.shapes
  have K0 := Lib.hid ((Kept.refl Nil w).alloc (.cells #[.slice a row.length c, .slice b vals.length d] 29))
  have B2 := Lib.hid (Blk.new w 29 #[.slice a row.length c, .slice b vals.length d])
  have q0 := B2.out.cell 0
  have q1 := B2.out.cell 1
  have H0 := Lib.hid (h.keptN K0.out)
  have HKk := Lib.hid hk
  clear h hk
  go_enter Try.func13, Try.ntmps13
  go_wp2_with fail
  refine (place_any H0.out hl k).mono ?_
  rintro e w1 ⟨rfl, k1⟩
  rw [plc_out HKk.out]
  have K1 := Lib.hid (K0.out.trans k1 (fun _ _ e => e))
  clear q0 q1 k1
  go_wp2_with fail
  go_ret2
  exact ⟨rfl, K1.out⟩
end
end Go.Proofs.Ytpjfpmagmclldaa
