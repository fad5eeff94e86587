/- The reference's Remove and Next. -/
import Derived.Test.YtpjfpmagmclldaaLRefM
namespace Go.Proofs.Ytpjfpmagmclldaa
set_option maxRecDepth 100000
open Go.RowKit Go.Maps

/-- A row without a number. -/
def rmI (row : List Nat) (k : Int) : List Nat := row.filter (fun x => decide ((x : Int) ≠ k))
theorem rmI_at {row : List Nat} {x : Nat} : rmI row (x : Int) = rm row x := by
  unfold rmI rm
  congr 1
  funext y
  by_cases e : y = x
  · simp [e]
  · have : ¬ (y : Int) = (x : Int) := by omega
    simp [e, this]
theorem rmI_out {row : List Nat} {k : Int} (hk : ∀ x ∈ row, (x : Int) ≠ k) : rmI row k = row := by
  unfold rmI
  rw [List.filter_eq_self]
  intro a ha
  simpa using hk a ha
theorem rmI_le {row : List Nat} {k : Int} : (rmI row k).length ≤ row.length := List.length_filter_le _ _
section
variable {w w' : World} {r v : Value} {row : List Nat} {vals : List ByteArray}

set_option maxHeartbeats 4000000 in
theorem removeR_any (h : RefL w r v row vals) (hl : row.length ≤ 1000) (k : Int) :
    Calls Try.prog 14 #[.agg #[r, v], .int .i64 k] w fun e w' => ∃ r', e = .returned (.agg #[r', v]) ∧ RefL w' r' v (rmI row k) vals ∧ Kept Nil w w' := by
  obtain ⟨a, c, b, d, rfl, rfl, s1, s2, s3, s4⟩ := h.shapes
  have k0 := ((Kept.refl Nil w).alloc (.cells #[.slice a row.length c, .slice b vals.length d] 29)).alloc (.cells #[.slice none 0 0, .slice none 0 0] 29)
  have hb2 := (Blk.new w 29 #[.slice a row.length c, .slice b vals.length d]).alloc (.cells #[.slice none 0 0, .slice none 0 0] 29)
  have hb4 := Blk.new (w.alloc (.cells #[.slice a row.length c, .slice b vals.length d] 29)) 29 #[.slice none 0 0, .slice none 0 0]
  rw [show (w.alloc (.cells #[.slice a row.length c, .slice b vals.length d] 29)).heap.size = w.heap.size + 1 from by simp] at hb4
  have hs : ((w.alloc (.cells #[.slice a row.length c, .slice b vals.length d] 29)).alloc (.cells #[.slice none 0 0, .slice none 0 0] 29)).heap.size = w.heap.size + 2 := by simp
  have h0 := h.keptN k0
  have q0 := hb2.cell 0
  clear h
  go_enter Try.func14, Try.ntmps14
  go_wp2_with fail
  generalize (w.alloc (.cells #[.slice a row.length c, .slice b vals.length d] 29)).alloc (.cells #[.slice none 0 0, .slice none 0 0] 29) = w0 at *
  obtain ⟨a', c', e', _, _, hat⟩ := h0.rowAt
  simp at e'
  obtain ⟨rfl, rfl⟩ := e'
  have H0 := Lib.hid h0
  have K0 := Lib.hid k0
  have B2 := Lib.hid hb2
  have B4 := Lib.hid hb4
  have HS := Lib.hid hs
  have HC := Lib.hid hat
  clear h0 k0 hb2 hb4 hs hat q0
  generalize hn : row.length = n at *
  have HN := Lib.hid hn
  clear hn
  go_loopw [5, 11] (fun rv i wr => ∃ (j m : Nat) (ra : Option Addr) (rc : Nat), j ≤ n ∧ i = .int .i64 (j : Int) ∧ rv = .slice ra m rc ∧ m = (rmI (row.take j) k).length ∧ wr.ownsRow (w.heap.size + 2) 3 1 (.slice ra m rc) m ((rmI (row.take j) k).map vN) ∧ Kept (fun b => w.heap.size + 2 ≤ b) w0 wr) (fun _ i _ => n - (intOf i).toNat)
  case atStart => exact ⟨0, 0, none, 0, Nat.zero_le _, rfl, rfl, rfl, World.ownsRow_nil _ _ _ _, Kept.refl _ _⟩
  case round =>
    obtain ⟨j, m, ra, rc, hj, rfl, rfl, hm, ho, hk⟩ := hrel
    have HM := Lib.hid hm
    have HO := Lib.hid ho
    have HK := Lib.hid hk
    clear hm ho hk
    by_cases hlt : j < n
    · obtain ⟨x, hx⟩ : ∃ x, row[j]? = some x := ⟨row[j]'(by have := HN.out; omega), by simp⟩
      have htake : row.take (j + 1) = row.take j ++ [x] := by rw [List.take_add_one, hx]; rfl
      rcases HC.out with e | ⟨g, rfl, hat⟩
      · rw [e] at hx; simp at hx
      have hg : g < w.heap.size + 2 := by
        have := World.block_lt_of_cell? _ _ (hat j x hx)
        rw [HS.out] at this
        exact this
      have hcell : _ = some (Value.int .i64 (x : Int)) := (HK.out.cell (p := ⟨g, j, none⟩) (by have := HK.out; rw [HS.out]; exact hg) (by simp only; omega)).trans (hat j x hx)
      by_cases he : (x : Int) = k
      · have heq : ((x : Int) != k) = false := by simp [he]
        have hr : rmI (row.take (j + 1)) k = rmI (row.take j) k := by rw [htake]; simp [rmI, he]
        have HR := Lib.hid hr
        clear he hat hx htake hr
        go_wp2_with fail
        go_roundw
        case rel => exact ⟨j + 1, m, ra, rc, hlt, by go_num, rfl, by rw [HR.out]; exact HM.out, by rw [HR.out]; exact HO.out, HK.out⟩
        case measure => simp [intOf]; omega
      · have heq : ((x : Int) != k) = true := by simp [he]
        have hr : rmI (row.take (j + 1)) k = rmI (row.take j) k ++ [x] := by rw [htake]; simp [rmI, he]
        have hml : m ≤ j := by
          have := HM.out
          have h2 := rmI_le (row := row.take j) (k := k)
          have h3 := List.length_take_le j row
          omega
        have hB : w.heap.size + 2 ≤ wr.heap.size := by rw [← HS.out]; exact HK.out.size
        obtain ⟨v', w', r1, o1, k1, l1⟩ := append_any elsI 26 (HO.out.alloc (.cells #[.int .i64 (x : Int)] 3)) (At.lit wr 3 #[.int .i64 (x : Int)] [.int .i64 (x : Int)] rfl) rfl (by intro y hy; simp at hy; subst hy; rfl) (by omega) (by simp; omega)
        obtain ⟨ra', rc', rfl⟩ := own_shape o1
        have HR := Lib.hid hr
        have K1 := Lib.hid (HK.out.trans (((Kept.refl (fun b => w.heap.size + 2 ≤ b) wr).alloc (.cells #[.int .i64 (x : Int)] 3)).trans (kept_from (HO.out.alloc (.cells #[.int .i64 (x : Int)] 3)) k1) (fun _ _ e => e)) (fun _ _ e => e))
        have O1 := Lib.hid o1
        clear he hat hx htake hr k1 o1 l1
        go_wp2_with (at_builtin; refine wpList_append_run rfl (.tmp 18) (.tmp 20) 26 rfl _ _ rfl rfl r1 ?_)
        go_roundw
        case rel => exact ⟨j + 1, m + 1, ra', rc', hlt, by go_num, rfl, by rw [HR.out, HM.out]; simp, by rw [HR.out]; simpa [vN] using O1.out, K1.out⟩
        case measure => simp [intOf]; omega
    · have hjn : j = n := by omega
      have hb2 := B2.out.kept HK.out (by omega)
      have hb4 := B4.out.kept HK.out (by omega)
      have q1 := hb2.cell 1
      have x0 := hb4.cell 0
      have x1 := hb4.cell 1
      have x2 := hb4.frozen 0
      have x3 := hb4.frozen 1
      have hfull : rmI (row.take j) k = rmI row k := by rw [List.take_of_length_le (by have := HN.out; omega)]
      have HF := Lib.hid hfull
      have HB4 := Lib.hid hb4
      clear hb2 hb4 hfull hjn
      go_wp2_with fail
      refine bodyPost_ret (results_cell_row Try.results14 _ _ _ _ _ _ _ rfl ((HB4.out.set_ 0 _).set_ 1 _) Try.underlying29 rfl (by kernel_rfl)) rfl ?_
      have hR : RefL wr (.slice ra m rc) (.slice b vals.length d) (rmI row k) vals := by
        have o := ownsRow_low HO.out
        have hm := HM.out
        rw [HF.out] at o hm
        refine ⟨by rw [← hm]; exact o, HK.out.row H0.out.vals (fun g e hge => ?_)⟩
        have := (H0.out.vals.lt g e).2
        rw [HS.out] at this
        omega
      have kF : Kept Nil w wr := K0.out.trans HK.out (fun i hi e => by omega)
      exact ⟨_, rfl, (hR.set HB4.out 0 _).set (HB4.out.set_ 0 _) 1 _, (kF.setCell ⟨w.heap.size + 1, 0, none⟩ (.inr (by simp)) _).setCell ⟨w.heap.size + 1, 1, none⟩ (.inr (by simp)) _⟩

set_option maxHeartbeats 4000000 in
theorem nextR_first (h : RefL w r v row vals) (hl : row.length ≤ 1000) {by_ t R : Int} (hby : -2 ≤ by_ ∧ by_ ≤ 2) (hbs : ¬ by_ < 0) (ht : -1 + by_ = t) (h1 : t < 0 ∨ (row.length : Int) ≤ t → R = 0) (h2 : ∀ j : Nat, t = (j : Int) → ∀ x, row[j]? = some x → R = (x : Int)) :
    Calls Try.prog 18 #[.agg #[r, v], .int .i64 0, .int .i64 by_] w fun e w' => e = .returned (.int .i64 R) ∧ Kept Nil w w' := by
  obtain ⟨a, c, b, d, rfl, rfl, s1, s2, s3, s4⟩ := h.shapes
  have K0 := Lib.hid ((Kept.refl Nil w).alloc (.cells #[.slice a row.length c, .slice b vals.length d] 29))
  have B2 := Lib.hid (Blk.new w 29 #[.slice a row.length c, .slice b vals.length d])
  have q0 := B2.out.cell 0
  have q1 := B2.out.cell 1
  have H0 := Lib.hid (h.keptN K0.out)
  have H1 := Lib.hid h1
  have H2 := Lib.hid h2
  clear h h1 h2
  have hb0 : decide (by_ < 0) = false := decide_eq_false hbs
  go_enter Try.func18, Try.ntmps18
  go_wp2_with fail
  refine (place_any H0.out hl 0).mono ?_
  rintro e w1 ⟨rfl, k1⟩
  have q0' := (B2.out.kept k1 (fun e => e)).cell 0
  have K1 := Lib.hid (K0.out.trans k1 (fun _ _ e => e))
  obtain ⟨a', c', e', _, _, hat⟩ := (H0.out.keptN k1).rowAt
  simp at e'
  obtain ⟨rfl, rfl⟩ := e'
  have HC := Lib.hid hat
  have hw : IntKind.i64.wrap t = t := by rw [IntKind.wrap_i64]; omega
  clear hat q0 q1 k1
  generalize hn : row.length = n at *
  have HN := Lib.hid hn
  clear hn
  by_cases hneg : t < 0
  · have hd : decide (t < 0) = true := decide_eq_true hneg
    have HR := H1.out (.inl hneg)
    subst HR
    clear hneg
    go_wp2_with fail
    go_ret
    exact ⟨rfl, K1.out⟩
  · have hd : decide (t < 0) = false := decide_eq_false hneg
    by_cases hbig : (n : Int) ≤ t
    · have hd2 : decide ((n : Int) ≤ t) = true := decide_eq_true hbig
      have HR := H1.out (.inr hbig)
      subst HR
      clear hneg hbig
      go_wp2_with fail
      go_ret
      exact ⟨rfl, K1.out⟩
    · obtain ⟨j, rfl⟩ : ∃ j : Nat, t = (j : Int) := ⟨t.toNat, by omega⟩
      obtain ⟨x, hx⟩ : ∃ x, row[j]? = some x := ⟨row[j]'(by have := HN.out; omega), by simp⟩
      have HR := H2.out j rfl x hx
      subst HR
      rcases HC.out with e | ⟨g, rfl, hat⟩
      · rw [e] at hx; simp at hx
      have hcell : _ = some (Value.int .i64 (x : Int)) := hat j x hx
      have hjn : j < n := by omega
      have hd2 : decide (n ≤ j) = false := decide_eq_false (by omega)
      have hd3 : decide ((n : Int) ≤ (j : Int)) = false := decide_eq_false (by omega)
      clear hneg hbig hat hx
      go_wp2_with fail
      go_ret
      exact ⟨rfl, K1.out⟩
set_option maxHeartbeats 4000000 in
theorem nextR_last (h : RefL w r v row vals) (hl : row.length ≤ 1000) {by_ t R : Int} (hby : -2 ≤ by_ ∧ by_ ≤ 2) (hbs : by_ < 0) (ht : (row.length : Int) + by_ = t) (h1 : t < 0 ∨ (row.length : Int) ≤ t → R = 0) (h2 : ∀ j : Nat, t = (j : Int) → ∀ x, row[j]? = some x → R = (x : Int)) :
    Calls Try.prog 18 #[.agg #[r, v], .int .i64 0, .int .i64 by_] w fun e w' => e = .returned (.int .i64 R) ∧ Kept Nil w w' := by
  obtain ⟨a, c, b, d, rfl, rfl, s1, s2, s3, s4⟩ := h.shapes
  have K0 := Lib.hid ((Kept.refl Nil w).alloc (.cells #[.slice a row.length c, .slice b vals.length d] 29))
  have B2 := Lib.hid (Blk.new w 29 #[.slice a row.length c, .slice b vals.length d])
  have q0 := B2.out.cell 0
  have q1 := B2.out.cell 1
  have H0 := Lib.hid (h.keptN K0.out)
  have H1 := Lib.hid h1
  have H2 := Lib.hid h2
  clear h h1 h2
  have hb0 : decide (by_ < 0) = true := decide_eq_true hbs
  go_enter Try.func18, Try.ntmps18
  go_wp2_with fail
  refine (place_any H0.out hl 0).mono ?_
  rintro e w1 ⟨rfl, k1⟩
  have q0' := (B2.out.kept k1 (fun e => e)).cell 0
  have K1 := Lib.hid (K0.out.trans k1 (fun _ _ e => e))
  obtain ⟨a', c', e', _, _, hat⟩ := (H0.out.keptN k1).rowAt
  simp at e'
  obtain ⟨rfl, rfl⟩ := e'
  have HC := Lib.hid hat
  have hw : IntKind.i64.wrap t = t := by rw [IntKind.wrap_i64]; omega
  clear hat q0 q1 k1
  generalize hn : row.length = n at *
  have HN := Lib.hid hn
  clear hn
  by_cases hneg : t < 0
  · have hd : decide (t < 0) = true := decide_eq_true hneg
    have HR := H1.out (.inl hneg)
    subst HR
    clear hneg
    go_wp2_with fail
    go_ret
    exact ⟨rfl, K1.out⟩
  · have hd : decide (t < 0) = false := decide_eq_false hneg
    by_cases hbig : (n : Int) ≤ t
    · have hd2 : decide ((n : Int) ≤ t) = true := decide_eq_true hbig
      have HR := H1.out (.inr hbig)
      subst HR
      clear hneg hbig
      go_wp2_with fail
      go_ret
      exact ⟨rfl, K1.out⟩
    · obtain ⟨j, rfl⟩ : ∃ j : Nat, t = (j : Int) := ⟨t.toNat, by omega⟩
      obtain ⟨x, hx⟩ : ∃ x, row[j]? = some x := ⟨row[j]'(by have := HN.out; omega), by simp⟩
      have HR := H2.out j rfl x hx
      subst HR
      rcases HC.out with e | ⟨g, rfl, hat⟩
      · rw [e] at hx; simp at hx
      have hcell : _ = some (Value.int .i64 (x : Int)) := hat j x hx
      have hjn : j < n := by omega
      have hd2 : decide (n ≤ j) = false := decide_eq_false (by omega)
      have hd3 : decide ((n : Int) ≤ (j : Int)) = false := decide_eq_false (by omega)
      clear hneg hbig hat hx
      go_wp2_with fail
      go_ret
      exact ⟨rfl, K1.out⟩
set_option maxHeartbeats 4000000 in
theorem nextR_at (h : RefL w r v row vals) (hl : row.length ≤ 1000) {i y : Nat} (hnd : row.Nodup) (hy : row[i]? = some y) (hy0 : 0 < y) {by_ t R : Int} (hby : -2 ≤ by_ ∧ by_ ≤ 2) (ht : (i : Int) + by_ = t) (h1 : t < 0 ∨ (row.length : Int) ≤ t → R = 0) (h2 : ∀ j : Nat, t = (j : Int) → ∀ x, row[j]? = some x → R = (x : Int)) :
    Calls Try.prog 18 #[.agg #[r, v], .int .i64 (y : Int), .int .i64 by_] w fun e w' => e = .returned (.int .i64 R) ∧ Kept Nil w w' := by
  obtain ⟨a, c, b, d, rfl, rfl, s1, s2, s3, s4⟩ := h.shapes
  have K0 := Lib.hid ((Kept.refl Nil w).alloc (.cells #[.slice a row.length c, .slice b vals.length d] 29))
  have B2 := Lib.hid (Blk.new w 29 #[.slice a row.length c, .slice b vals.length d])
  have q0 := B2.out.cell 0
  have q1 := B2.out.cell 1
  have H0 := Lib.hid (h.keptN K0.out)
  have H1 := Lib.hid h1
  have H2 := Lib.hid h2
  clear h h1 h2
  have hk0 : ((y : Int) == 0) = false := by simp; omega
  have hil : i < row.length := (List.getElem?_eq_some_iff.1 hy).1
  have hdi : decide ((i : Int) < 0) = false := decide_eq_false (by omega)
  go_enter Try.func18, Try.ntmps18
  go_wp2_with fail
  refine (place_any H0.out hl (y : Int)).mono ?_
  rintro e w1 ⟨rfl, k1⟩
  rw [plc_at (i := 0) hnd hy]
  simp only [Nat.zero_add]
  have q0' := (B2.out.kept k1 (fun e => e)).cell 0
  have K1 := Lib.hid (K0.out.trans k1 (fun _ _ e => e))
  obtain ⟨a', c', e', _, _, hat⟩ := (H0.out.keptN k1).rowAt
  simp at e'
  obtain ⟨rfl, rfl⟩ := e'
  have HC := Lib.hid hat
  have hw : IntKind.i64.wrap t = t := by rw [IntKind.wrap_i64]; omega
  clear hat q0 q1 k1
  generalize hn : row.length = n at *
  have HN := Lib.hid hn
  clear hn
  by_cases hneg : t < 0
  · have hd : decide (t < 0) = true := decide_eq_true hneg
    have HR := H1.out (.inl hneg)
    subst HR
    clear hneg
    go_wp2_with fail
    go_ret
    exact ⟨rfl, K1.out⟩
  · have hd : decide (t < 0) = false := decide_eq_false hneg
    by_cases hbig : (n : Int) ≤ t
    · have hd2 : decide ((n : Int) ≤ t) = true := decide_eq_true hbig
      have HR := H1.out (.inr hbig)
      subst HR
      clear hneg hbig
      go_wp2_with fail
      go_ret
      exact ⟨rfl, K1.out⟩
    · obtain ⟨j, rfl⟩ : ∃ j : Nat, t = (j : Int) := ⟨t.toNat, by omega⟩
      obtain ⟨x, hx⟩ : ∃ x, row[j]? = some x := ⟨row[j]'(by have := HN.out; omega), by simp⟩
      have HR := H2.out j rfl x hx
      subst HR
      rcases HC.out with e | ⟨g, rfl, hat⟩
      · rw [e] at hx; simp at hx
      have hcell : _ = some (Value.int .i64 (x : Int)) := hat j x hx
      have hjn : j < n := by omega
      have hd2 : decide (n ≤ j) = false := decide_eq_false (by omega)
      have hd3 : decide ((n : Int) ≤ (j : Int)) = false := decide_eq_false (by omega)
      clear hneg hbig hat hx
      go_wp2_with fail
      go_ret
      exact ⟨rfl, K1.out⟩
set_option maxHeartbeats 4000000 in
theorem nextR_out (h : RefL w r v row vals) (hl : row.length ≤ 1000) {k by_ : Int} (hk0 : k ≠ 0) (hk : ∀ x ∈ row, (x : Int) ≠ k) :
    Calls Try.prog 18 #[.agg #[r, v], .int .i64 k, .int .i64 by_] w fun e w' => e = .returned (.int .i64 0) ∧ Kept Nil w w' := by
  obtain ⟨a, c, b, d, rfl, rfl, s1, s2, s3, s4⟩ := h.shapes
  have K0 := Lib.hid ((Kept.refl Nil w).alloc (.cells #[.slice a row.length c, .slice b vals.length d] 29))
  have B2 := Lib.hid (Blk.new w 29 #[.slice a row.length c, .slice b vals.length d])
  have q0 := B2.out.cell 0
  have q1 := B2.out.cell 1
  have H0 := Lib.hid (h.keptN K0.out)
  have HKk := Lib.hid hk
  have hkb : (k == 0) = false := by simp [hk0]
  clear h hk hk0
  go_enter Try.func18, Try.ntmps18
  go_wp2_with fail
  refine (place_any H0.out hl k).mono ?_
  rintro e w1 ⟨rfl, k1⟩
  rw [plc_out HKk.out]
  have K1 := Lib.hid (K0.out.trans k1 (fun _ _ e => e))
  clear q0 q1 k1
  go_wp2_with fail
  go_ret
  exact ⟨rfl, K1.out⟩
end
end Go.Proofs.Ytpjfpmagmclldaa
