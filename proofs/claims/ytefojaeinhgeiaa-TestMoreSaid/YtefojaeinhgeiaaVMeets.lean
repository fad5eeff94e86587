/- Layer test: the closure of Meets, slices.IndexFunc and ContainsFunc of tests; Meets. -/
import Derived.Test.YtefojaeinhgeiaaVHolds
namespace Go.Proofs.Ytefojaeinhgeiaa
open Go.RowKit
set_option maxRecDepth 100000

/-- All of a list from j on. -/
theorem all_drop {p : Tst → Bool} {ts : List Tst} {j : Nat} {x : Tst} (h : ts[j]? = some x) : (ts.drop j).all p = (p x && (ts.drop (j + 1)).all p) := by
  obtain ⟨hl, e⟩ := List.getElem?_eq_some_iff.1 h
  rw [List.drop_eq_getElem_cons hl, e, List.all_cons]
/-- What the closure of Meets has caught: the triples of back, and the triple. -/
structure Caught (w : World) (D E : Nat) (a : Option Addr) (n c : Nat) (bk : List T3) (t : T3) : Prop where
  b : Blk w D 23 #[.slice a n c]
  t : Blk w E 48 #[.int .i64 t.1, .int .i64 t.2.1, .int .i64 t.2.2]
  i : In cT3 3 w a n bk
theorem Caught.kept {w w' : World} {D E : Nat} {a : Option Addr} {n c : Nat} {bk : List T3} {t : T3} (h : Caught w D E a n c bk t) (k : Kept Nil w w') : Caught w' D E a n c bk t := ⟨h.b.kept k (fun e => e), h.t.kept k (fun e => e), h.i.kept k⟩
set_option maxHeartbeats 2000000 in
theorem meetClo_any (x : Tst) (bk : List T3) (t : T3) (a : Option Addr) (n c D E : Nat) (hx : -1 ≤ x.2.1) (hf : tFine x) (hn : n ≤ maxLen) (w : World) (h : Caught w D E a n c bk t) :
    Calls Try.prog 25 #[vT x, .pointer (some ⟨D, 0, none⟩), .pointer (some ⟨E, 0, none⟩)] w fun e w' => e = .returned (.bool (!tHold bk t x)) ∧ Kept Nil w w' := by
  have K0 := Lib.hid ((Kept.refl Nil w).alloc (.cells #[.int .i64 x.1, .int .i64 x.2.1, .int .i64 x.2.2] 66))
  have CX := Lib.hid (holds_any x bk t a n c hx hf hn _ (h.i.kept K0.out))
  generalize tHold bk t x = q at *
  have d0 := h.b.cell 0
  have e0 := h.t.cell 0
  have e1 := h.t.cell 1
  have e2 := h.t.cell 2
  have hD : D < w.heap.size := h.b.lt
  have hE : E < w.heap.size := h.t.lt
  simp at d0 e0 e1 e2
  obtain ⟨f, b, g⟩ := x
  obtain ⟨t1, t2, t3⟩ := t
  simp only at e0 e1 e2
  clear h hf hx
  go_enter Try.func25, Try.ntmps25
  go_wp2_with fail
  refine CX.out.mono ?_
  rintro e w2 ⟨rfl, k2⟩
  go_wp2_with fail
  go_ret
  exact ⟨rfl, K0.out.trans k2 (fun _ _ g => g)⟩
/-- Where a test that doesn't hold stands; -1: all hold. -/
def IxEnd (v : Bool) (w : World) (e : Ending) (w' : World) : Prop := ∃ r : Int, e = .returned (.int .i64 r) ∧ decide (0 ≤ r) = v ∧ Kept Nil w w'
set_option maxHeartbeats 2000000 in
theorem meetIdx_any (ts : List Tst) (hts : ∀ x ∈ ts, tFine x ∧ -1 ≤ x.2.1) (hl : ts.length ≤ 5000) (bk : List T3) (t : T3) (a : Option Addr) (n c D E : Nat) (hn : n ≤ maxLen) (ok : Nat → Nat → Prop) (ta : Option Addr) (tc : Nat) (w : World) (h : Caught w D E a n c bk t) (ht : TsAt w ok (.slice ta ts.length tc) ts) :
    Calls Try.prog 30 #[.slice ta ts.length tc, .func (.func 25) #[] #[.pointer (some ⟨D, 0, none⟩), .pointer (some ⟨E, 0, none⟩)]] w (IxEnd (!ts.all (tHold bk t)) w) := by
  obtain ⟨len, hlen⟩ : ∃ n, ts.length = n := ⟨_, rfl⟩
  have HH := Lib.hid ht
  have HC := Lib.hid h
  have HF := Lib.hid hts
  rw [hlen] at HH hl ⊢
  have HL := Lib.hid hlen
  clear h ht hlen hts
  go_enter Try.func30, Try.ntmps30
  go_wp2_with fail
  go_loopw [5, 8] (fun _ i wr => ∃ j : Nat, j ≤ len ∧ i = .int .i64 j ∧ ts.all (tHold bk t) = (ts.drop j).all (tHold bk t) ∧ Kept Nil w wr) (fun _ i _ => len - (intOf i).toNat)
  case atStart => exact ⟨0, by omega, rfl, rfl, Kept.refl _ _⟩
  case round =>
    obtain ⟨j, hj, rfl, hch, hK⟩ := hrel
    have HK := Lib.hid hK
    have HCh := Lib.hid hch
    clear hK hch
    by_cases hlt : j < len
    · obtain ⟨⟨f, b', g⟩, hx⟩ : ∃ x, ts[j]? = some x := ⟨_, List.getElem?_eq_getElem (by have := HL.out; omega)⟩
      obtain ⟨b, o, rfl, hok, hr⟩ := (HH.out.keptN HK.out).at_ hx
      have hfx := HF.out _ (List.mem_of_getElem? hx)
      have CX := Lib.hid (meetClo_any (f, b', g) bk t a n c D E hfx.2 hfx.1 hn wr (HC.out.kept HK.out))
      have HR : Hid (wr.rangeAt b (o + j * 3) (cT (f, b', g))) := Lib.hid hr
      have HN := Lib.hid (all_drop (p := tHold bk t) hx)
      generalize tHold bk t (f, b', g) = q at CX HN
      clear hx hr hok hfx
      go_wp2_with ((with_reducible refine wpList_load_T rfl (.tmp 14) rfl _ _ rfl f b' g ?_ ?_)
                   · exact HR.out)
      refine CX.out.mono ?_
      rintro e w2 ⟨rfl, k2⟩
      have K2 := Lib.hid (HK.out.trans k2 (fun _ _ g => g))
      clear k2
      cases q
      · go_wp2_with fail
        go_ret
        exact ⟨(j : Int), rfl, by rw [HCh.out, HN.out]; exact decide_eq_true (by omega), K2.out⟩
      · go_wp2_with fail
        go_roundw
        case rel => exact ⟨j + 1, by omega, by go_num, by rw [HCh.out, HN.out]; rfl, K2.out⟩
        case measure => simp [intOf]; omega
    · obtain rfl : j = len := by omega
      have HE : Hid ((ts.drop j).all (tHold bk t) = true) := Lib.hid (by rw [List.drop_eq_nil_of_le (by have := HL.out; omega)]; rfl)
      go_wp2_with fail
      go_ret
      exact ⟨-1, rfl, by rw [HCh.out, HE.out]; rfl, HK.out⟩
theorem meetCont_any (ts : List Tst) (hts : ∀ x ∈ ts, tFine x ∧ -1 ≤ x.2.1) (hl : ts.length ≤ 5000) (bk : List T3) (t : T3) (a : Option Addr) (n c D E : Nat) (hn : n ≤ maxLen) (ok : Nat → Nat → Prop) (ta : Option Addr) (tc : Nat) (w : World) (h : Caught w D E a n c bk t) (ht : TsAt w ok (.slice ta ts.length tc) ts) :
    Calls Try.prog 24 #[.slice ta ts.length tc, .func (.func 25) #[] #[.pointer (some ⟨D, 0, none⟩), .pointer (some ⟨E, 0, none⟩)]] w fun e w' => e = .returned (.bool (!ts.all (tHold bk t))) ∧ Kept Nil w w' := by
  have C := Lib.hid (meetIdx_any ts hts hl bk t a n c D E hn ok ta tc w h ht)
  unfold IxEnd at C
  generalize ts.all (tHold bk t) = v at C ⊢
  clear h ht hts
  generalize ts.length = len at C ⊢
  go_enter Try.func24, Try.ntmps24
  go_wp2_with fail
  refine C.out.mono ?_
  rintro e w2 ⟨r, rfl, hr, k2⟩
  go_wp2_with fail
  go_ret
  exact ⟨ret_bool (by first | rfl | exact hr), k2⟩
/-- What stands in memory when Meets begins. -/
structure MT (w : World) (h : SH) (ts u : Value) (bv : Value) (t : T3) (W : World) : Prop where
  kept : Kept Nil w W
  b0 : Blk W w.heap.size 52 (arrS h ts u)
  b1 : Blk W (w.heap.size + 1) 23 #[bv]
  b2 : Blk W (w.heap.size + 1 + 1) 48 #[.int .i64 t.1, .int .i64 t.2.1, .int .i64 t.2.2]
theorem MT.start (w : World) (h : SH) (ts u bv : Value) (t : T3) : MT w h ts u bv t (((w.alloc (.cells (arrS h ts u) 52)).alloc (.cells #[bv] 23)).alloc (.cells #[.int .i64 t.1, .int .i64 t.2.1, .int .i64 t.2.2] 48)) :=
  ⟨(((Kept.refl Nil w).alloc _).alloc _).alloc _, ((Blk.new w _ _).alloc _).alloc _, (blk_at (by simp)).alloc _, blk_at (by simp)⟩
set_option maxHeartbeats 4000000 in
theorem meets_any (h : SH) (bk : List T3) (t : T3) (hts : ∀ x ∈ h.ts, tFine x ∧ -1 ≤ x.2.1) (hl : h.ts.length ≤ 5000) (a : Option Addr) (n c : Nat) (hn : n ≤ maxLen) (ok : Nat → Nat → Prop) (ta : Option Addr) (tc : Nat) (u : Value) (hu : ∃ a n c, u = .slice a n c) (w : World) (hi : In cT3 3 w a n bk) (ht : TsAt w ok (.slice ta h.ts.length tc) h.ts) :
    Calls Try.prog 14 #[vS h (.slice ta h.ts.length tc) u, .slice a n c, av t] w fun e w' => e = .returned (.bool (meetH h bk t)) ∧ Kept Nil w w' := by
  obtain ⟨ua, un, uc, rfl⟩ := hu
  obtain ⟨k, k0, k1, k2, ts⟩ := h
  obtain ⟨t1, t2, t3⟩ := t
  simp only at hts hl ht ⊢
  have hM := MT.start w ⟨k, k0, k1, k2, ts⟩ (.slice ta ts.length tc) (.slice ua un uc) (.slice a n c) (t1, t2, t3)
  have HV := Lib.hid (show meetH ⟨k, k0, k1, k2, ts⟩ bk (t1, t2, t3) = (decide (k = 1 ∨ k = 2) && (hasK (t1, t2, t3) (k0, k1, k2) && ts.all (tHold bk (t1, t2, t3)))) from rfl)
  generalize meetH ⟨k, k0, k1, k2, ts⟩ bk (t1, t2, t3) = v at *
  have CH := Lib.hid (fun W => has_any (t1, t2, t3) (k0, k1, k2) W)
  have CC := Lib.hid (fun W (hC : Caught W (w.heap.size + 1) (w.heap.size + 1 + 1) a n c bk (t1, t2, t3)) (hT : TsAt W ok (.slice ta ts.length tc) ts) => meetCont_any ts hts hl bk (t1, t2, t3) a n c _ _ hn ok ta tc W hC hT)
  generalize hasK (t1, t2, t3) (k0, k1, k2) = q1 at *
  generalize ts.all (tHold bk (t1, t2, t3)) = q2 at *
  have HC := Lib.hid (show Caught _ (w.heap.size + 1) (w.heap.size + 1 + 1) a n c bk (t1, t2, t3) from ⟨hM.b1, hM.b2, hi.kept hM.kept⟩)
  have HT := Lib.hid (ht.keptN hM.kept)
  generalize ts.length = tn at *
  clear hi ht hts
  go_enter Try.func14, Try.ntmps14
  go_upto_region 1 with fail
  simp only [arrS] at hM HC HT
  generalize (((w.alloc (.cells #[.int .i64 k, .int .i64 k0, .int .i64 k1, .int .i64 k2, .slice ta tn tc, .slice ua un uc] 52)).alloc (.cells #[.slice a n c] 23)).alloc (.cells #[.int .i64 t1, .int .i64 t2, .int .i64 t3] 48)) = W at *
  have HM := Lib.hid hM
  have z0 := hM.b0.cell 0
  have z1 := hM.b0.cell 1
  have z2 := hM.b0.cell 2
  have z3 := hM.b0.cell 3
  have y0 := hM.b2.cell 0
  have y1 := hM.b2.cell 1
  have y2 := hM.b2.cell 2
  simp at z0 z1 z2 z3 y0 y1 y2
  clear hM
  by_cases e1 : k = 1 ∨ k = 2
  · rw [decide_eq_true e1, Bool.true_and] at HV
    rcases e1 with rfl | rfl
    all_goals
      go_wp2_with fail
      refine (CH.out _).mono ?_
      rintro e w1 ⟨rfl, k1'⟩
      have K1 := Lib.hid k1'
      have x2 := (HM.out.b0.kept k1' (fun e => e)).cell 4
      simp at x2
      have CC1 := Lib.hid (CC.out w1 (HC.out.kept k1') (HT.out.keptN k1'))
      clear k1' CC
      cases q1
      · go_wp2_with fail
        go_ret
        exact ⟨ret_bool (by rw [HV.out]; rfl), HM.out.kept.trans K1.out (fun _ _ e => e)⟩
      · go_wp2_with fail
        refine CC1.out.mono ?_
        rintro e w2 ⟨rfl, k2'⟩
        go_wp2_with fail
        go_ret
        exact ⟨ret_bool (by rw [HV.out]; cases q2 <;> rfl), (HM.out.kept.trans K1.out (fun _ _ e => e)).trans k2' (fun _ _ e => e)⟩
  · rw [decide_eq_false e1, Bool.false_and] at HV
    have n1 : (k != 1) = true := bne_iff_ne.2 (fun e => e1 (.inl e))
    have n2 : (k != 2) = true := bne_iff_ne.2 (fun e => e1 (.inr e))
    clear e1
    go_wp2_with fail
    go_ret
    exact ⟨ret_bool HV.out.symm, HM.out.kept⟩
end Go.Proofs.Ytefojaeinhgeiaa
