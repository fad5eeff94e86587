/- Layer test: the closure of Meets, slices.IndexFunc and ContainsFunc of tests; Meets. – Layer plain: the program's walk in memory: its block, its lists. – A region that draws its order and ends in an operation that comes up last, whatever comes ahead: it may be walked without that one, which is carried out behind. No program. – Layer plain: the two lists of a match grow, in whatever order: what stands in memory on the way. -/
import Derived.Test.YtiihjlafhiaigaaA10
import Derived.Test.YtiihjlafhiaigaaA8
import Derived.Test.YtiihjlafhiaigaaA11
import Derived.ArgAppend
import Derived.Test.YtiihjlafhiaigaaA1
import Derived.OrdersHeld
namespace Go.Proofs.Ytiihjlafhiaigaa
section
open Go.RowKit
set_option maxRecDepth 100000

/-- All of a list from j on. -/
theorem all_drop {p : Tst → Bool} {ts : List Tst} {j : Nat} {x : Tst} (h : ts[j]? = some x) : (ts.drop j).all p = (p x && (ts.drop (j + 1)).all p) := by
  obtain ⟨hl, e⟩ := List.getElem?_eq_some_iff.1 h
  rw [List.drop_eq_getElem_cons hl, e, List.all_cons]
/-- What the closure of Meets has caught: the triples of back, and the triple. -/
structure Caught (w : World) (D E : Nat) (a : Option Addr) (n c : Nat) (bk : List T3) (t : T3) : Prop where
  b : Blk w D 25 #[.slice a n c]
  t : Blk w E 56 #[.int .i64 t.1, .int .i64 t.2.1, .int .i64 t.2.2]
  i : In cT3 3 w a n bk
theorem Caught.kept {w w' : World} {D E : Nat} {a : Option Addr} {n c : Nat} {bk : List T3} {t : T3} (h : Caught w D E a n c bk t) (k : Kept Nil w w') : Caught w' D E a n c bk t := ⟨h.b.kept k (fun e => e), h.t.kept k (fun e => e), h.i.kept k⟩
set_option maxHeartbeats 2000000 in
theorem meetClo_any (x : Tst) (bk : List T3) (t : T3) (a : Option Addr) (n c D E : Nat) (hx : -1 ≤ x.2.1) (hf : tFine x) (hn : n ≤ maxLen) (w : World) (h : Caught w D E a n c bk t) :
    Calls Try.prog 77 #[vT x, .pointer (some ⟨D, 0, none⟩), .pointer (some ⟨E, 0, none⟩)] w fun e w' => e = .returned (.bool (!tHold bk t x)) ∧ Kept Nil w w' := by
  have K0 := Lib.hid ((Kept.refl Nil w).alloc (.cells #[.int .i64 x.1, .int .i64 x.2.1, .int .i64 x.2.2] 90))
  have CX := Lib.hid (holds_any x bk t a n c hx hf hn _ (h.i.kept K0.out))
  generalize tHold bk t x = q at *
  have d0 := h.b.cell 0
  have e0 := h.t.cell 0
  have e1 := h.t.cell 1
  have e2 := h.t.cell 2
  have hD : D < w.heap.size := h.b.lt
  have hE : E < w.heap.size := h.t.lt
  simp at d0 e0 e1 e2
  obtain ⟨f, b, g⟩ := x
  obtain ⟨t1, t2, t3⟩ := t
  simp only at e0 e1 e2
  clear h hf hx
  go_enter Try.func77, Try.ntmps77
  go_wp2_with fail
  refine CX.out.mono ?_
  rintro e w2 ⟨rfl, k2⟩
  go_wp2_with fail
  go_ret
  exact ⟨rfl, K0.out.trans k2 (fun _ _ g => g)⟩
/-- Where a test that doesn't hold stands; -1: all hold. -/
def IxEnd (v : Bool) (w : World) (e : Ending) (w' : World) : Prop := ∃ r : Int, e = .returned (.int .i64 r) ∧ decide (0 ≤ r) = v ∧ Kept Nil w w'
set_option maxHeartbeats 2000000 in
theorem meetIdx_any (ts : List Tst) (hts : ∀ x ∈ ts, tFine x ∧ -1 ≤ x.2.1) (hl : ts.length ≤ 5000) (bk : List T3) (t : T3) (a : Option Addr) (n c D E : Nat) (hn : n ≤ maxLen) (ok : Nat → Nat → Prop) (ta : Option Addr) (tc : Nat) (w : World) (h : Caught w D E a n c bk t) (ht : TsAt w ok (.slice ta ts.length tc) ts) :
    Calls Try.prog 86 #[.slice ta ts.length tc, .func (.func 77) #[] #[.pointer (some ⟨D, 0, none⟩), .pointer (some ⟨E, 0, none⟩)]] w (IxEnd (!ts.all (tHold bk t)) w) := by
  obtain ⟨len, hlen⟩ : ∃ n, ts.length = n := ⟨_, rfl⟩
  have HH := Lib.hid ht
  have HC := Lib.hid h
  have HF := Lib.hid hts
  rw [hlen] at HH hl ⊢
  have HL := Lib.hid hlen
  clear h ht hlen hts
  go_enter Try.func86, Try.ntmps86
  go_wp2_with fail
  go_loopw [5, 8] (fun _ i wr => ∃ j : Nat, j ≤ len ∧ i = .int .i64 j ∧ ts.all (tHold bk t) = (ts.drop j).all (tHold bk t) ∧ Kept Nil w wr) (fun _ i _ => len - (intOf i).toNat)
  case atStart => exact ⟨0, by omega, rfl, rfl, Kept.refl _ _⟩
  case round =>
    obtain ⟨j, hj, rfl, hch, hK⟩ := hrel
    have HK := Lib.hid hK
    have HCh := Lib.hid hch
    clear hK hch
    by_cases hlt : j < len
    · obtain ⟨⟨f, b', g⟩, hx⟩ : ∃ x, ts[j]? = some x := ⟨_, List.getElem?_eq_getElem (by have := HL.out; omega)⟩
      obtain ⟨b, o, rfl, hok, hr⟩ := (HH.out.keptN HK.out).at_ hx
      have hfx := HF.out _ (List.mem_of_getElem? hx)
      have CX := Lib.hid (meetClo_any (f, b', g) bk t a n c D E hfx.2 hfx.1 hn wr (HC.out.kept HK.out))
      have HR : Hid (wr.rangeAt b (o + j * 3) (cT (f, b', g))) := Lib.hid hr
      have HN := Lib.hid (all_drop (p := tHold bk t) hx)
      generalize tHold bk t (f, b', g) = q at CX HN
      clear hx hr hok hfx
      go_wp2_with ((with_reducible refine wpList_load_T rfl (.tmp 14) rfl _ _ rfl f b' g ?_ ?_)
                   · exact HR.out)
      refine CX.out.mono ?_
      rintro e w2 ⟨rfl, k2⟩
      have K2 := Lib.hid (HK.out.trans k2 (fun _ _ g => g))
      clear k2
      cases q
      · go_wp2_with fail
        go_ret
        exact ⟨(j : Int), rfl, by rw [HCh.out, HN.out]; exact decide_eq_true (by omega), K2.out⟩
      · go_wp2_with fail
        go_roundw
        case rel => exact ⟨j + 1, by omega, by go_num, by rw [HCh.out, HN.out]; rfl, K2.out⟩
        case measure => simp [intOf]; omega
    · obtain rfl : j = len := by omega
      have HE : Hid ((ts.drop j).all (tHold bk t) = true) := Lib.hid (by rw [List.drop_eq_nil_of_le (by have := HL.out; omega)]; rfl)
      go_wp2_with fail
      go_ret
      exact ⟨-1, rfl, by rw [HCh.out, HE.out]; rfl, HK.out⟩
theorem meetCont_any (ts : List Tst) (hts : ∀ x ∈ ts, tFine x ∧ -1 ≤ x.2.1) (hl : ts.length ≤ 5000) (bk : List T3) (t : T3) (a : Option Addr) (n c D E : Nat) (hn : n ≤ maxLen) (ok : Nat → Nat → Prop) (ta : Option Addr) (tc : Nat) (w : World) (h : Caught w D E a n c bk t) (ht : TsAt w ok (.slice ta ts.length tc) ts) :
    Calls Try.prog 76 #[.slice ta ts.length tc, .func (.func 77) #[] #[.pointer (some ⟨D, 0, none⟩), .pointer (some ⟨E, 0, none⟩)]] w fun e w' => e = .returned (.bool (!ts.all (tHold bk t))) ∧ Kept Nil w w' := by
  have C := Lib.hid (meetIdx_any ts hts hl bk t a n c D E hn ok ta tc w h ht)
  unfold IxEnd at C
  generalize ts.all (tHold bk t) = v at C ⊢
  clear h ht hts
  generalize ts.length = len at C ⊢
  go_enter Try.func76, Try.ntmps76
  go_wp2_with fail
  refine C.out.mono ?_
  rintro e w2 ⟨r, rfl, hr, k2⟩
  go_wp2_with fail
  go_ret
  exact ⟨ret_bool (by first | rfl | exact hr), k2⟩
/-- What stands in memory when Meets begins. -/
structure MT (w : World) (h : SH) (ts u : Value) (bv : Value) (t : T3) (W : World) : Prop where
  kept : Kept Nil w W
  b0 : Blk W w.heap.size 59 (arrS h ts u)
  b1 : Blk W (w.heap.size + 1) 25 #[bv]
  b2 : Blk W (w.heap.size + 1 + 1) 56 #[.int .i64 t.1, .int .i64 t.2.1, .int .i64 t.2.2]
theorem MT.start (w : World) (h : SH) (ts u bv : Value) (t : T3) : MT w h ts u bv t (((w.alloc (.cells (arrS h ts u) 59)).alloc (.cells #[bv] 25)).alloc (.cells #[.int .i64 t.1, .int .i64 t.2.1, .int .i64 t.2.2] 56)) :=
  ⟨(((Kept.refl Nil w).alloc _).alloc _).alloc _, ((Blk.new w _ _).alloc _).alloc _, (blk_at (by simp)).alloc _, blk_at (by simp)⟩
set_option maxHeartbeats 4000000 in
theorem meets_any (h : SH) (bk : List T3) (t : T3) (hts : ∀ x ∈ h.ts, tFine x ∧ -1 ≤ x.2.1) (hl : h.ts.length ≤ 5000) (a : Option Addr) (n c : Nat) (hn : n ≤ maxLen) (ok : Nat → Nat → Prop) (ta : Option Addr) (tc : Nat) (u : Value) (hu : ∃ a n c, u = .slice a n c) (w : World) (hi : In cT3 3 w a n bk) (ht : TsAt w ok (.slice ta h.ts.length tc) h.ts) :
    Calls Try.prog 63 #[vS h (.slice ta h.ts.length tc) u, .slice a n c, av t] w fun e w' => e = .returned (.bool (meetH h bk t)) ∧ Kept Nil w w' := by
  obtain ⟨ua, un, uc, rfl⟩ := hu
  obtain ⟨k, k0, k1, k2, ts⟩ := h
  obtain ⟨t1, t2, t3⟩ := t
  simp only at hts hl ht ⊢
  have hM := MT.start w ⟨k, k0, k1, k2, ts⟩ (.slice ta ts.length tc) (.slice ua un uc) (.slice a n c) (t1, t2, t3)
  have HV := Lib.hid (show meetH ⟨k, k0, k1, k2, ts⟩ bk (t1, t2, t3) = (decide (k = 1 ∨ k = 2) && (hasK (t1, t2, t3) (k0, k1, k2) && ts.all (tHold bk (t1, t2, t3)))) from rfl)
  generalize meetH ⟨k, k0, k1, k2, ts⟩ bk (t1, t2, t3) = v at *
  have CH := Lib.hid (fun W => has_any (t1, t2, t3) (k0, k1, k2) W)
  have CC := Lib.hid (fun W (hC : Caught W (w.heap.size + 1) (w.heap.size + 1 + 1) a n c bk (t1, t2, t3)) (hT : TsAt W ok (.slice ta ts.length tc) ts) => meetCont_any ts hts hl bk (t1, t2, t3) a n c _ _ hn ok ta tc W hC hT)
  generalize hasK (t1, t2, t3) (k0, k1, k2) = q1 at *
  generalize ts.all (tHold bk (t1, t2, t3)) = q2 at *
  have HC := Lib.hid (show Caught _ (w.heap.size + 1) (w.heap.size + 1 + 1) a n c bk (t1, t2, t3) from ⟨hM.b1, hM.b2, hi.kept hM.kept⟩)
  have HT := Lib.hid (ht.keptN hM.kept)
  generalize ts.length = tn at *
  clear hi ht hts
  go_enter Try.func63, Try.ntmps63
  go_upto_region 1 with fail
  simp only [arrS] at hM HC HT
  generalize (((w.alloc (.cells #[.int .i64 k, .int .i64 k0, .int .i64 k1, .int .i64 k2, .slice ta tn tc, .slice ua un uc] 59)).alloc (.cells #[.slice a n c] 25)).alloc (.cells #[.int .i64 t1, .int .i64 t2, .int .i64 t3] 56)) = W at *
  have HM := Lib.hid hM
  have z0 := hM.b0.cell 0
  have z1 := hM.b0.cell 1
  have z2 := hM.b0.cell 2
  have z3 := hM.b0.cell 3
  have y0 := hM.b2.cell 0
  have y1 := hM.b2.cell 1
  have y2 := hM.b2.cell 2
  simp at z0 z1 z2 z3 y0 y1 y2
  clear hM
  by_cases e1 : k = 1 ∨ k = 2
  · rw [decide_eq_true e1, Bool.true_and] at HV
    rcases e1 with rfl | rfl
    all_goals
      go_wp2_with fail
      refine (CH.out _).mono ?_
      rintro e w1 ⟨rfl, k1'⟩
      have K1 := Lib.hid k1'
      have x2 := (HM.out.b0.kept k1' (fun e => e)).cell 4
      simp at x2
      have CC1 := Lib.hid (CC.out w1 (HC.out.kept k1') (HT.out.keptN k1'))
      clear k1' CC
      cases q1
      · go_wp2_with fail
        go_ret
        exact ⟨ret_bool (by rw [HV.out]; rfl), HM.out.kept.trans K1.out (fun _ _ e => e)⟩
      · go_wp2_with fail
        refine CC1.out.mono ?_
        rintro e w2 ⟨rfl, k2'⟩
        go_wp2_with fail
        go_ret
        exact ⟨ret_bool (by rw [HV.out]; cases q2 <;> rfl), (HM.out.kept.trans K1.out (fun _ _ e => e)).trans k2' (fun _ _ e => e)⟩
  · rw [decide_eq_false e1, Bool.false_and] at HV
    have n1 : (k != 1) = true := bne_iff_ne.2 (fun e => e1 (.inl e))
    have n2 : (k != 2) = true := bne_iff_ne.2 (fun e => e1 (.inr e))
    clear e1
    go_wp2_with fail
    go_ret
    exact ⟨ret_bool HV.out.symm, HM.out.kept⟩
end
section
open Go.RowKit
set_option maxRecDepth 100000

/-- A choice's cells. -/
def cH (x : Int × Int) : List Value := [.int .i64 x.1, .int .i64 x.2]
theorem cH_len (x : Int × Int) : (cH x).length = 2 := rfl
theorem cH_one (x : Int × Int) : ∀ v ∈ cH x, v.oneCell' = true := fun v hv => by
  simp only [cH, List.mem_cons, List.not_mem_nil, or_false] at hv
  rcases hv with rfl | rfl <;> rfl
theorem infoH2 : (Try.prog.info? 138).map (fun i => (i.zero, i.size, i.bytes)) = some (some (.agg #[.int .i64 0, .int .i64 0]), 2, 16) := by kernel_rfl
theorem elsH2 : Els Try.prog 123 138 2 := Els.of Try.underlying123 infoH2 rfl (by decide) (by decide)
theorem infoT3w : (Try.prog.info? 56).map (fun i => (i.zero, i.size, i.bytes)) = some (some (.agg #[.int .i64 0, .int .i64 0, .int .i64 0]), 3, 24) := by kernel_rfl
theorem elsT3 : Els Try.prog 25 56 3 := Els.of Try.underlying25 infoT3w rfl (by decide) (by decide)
theorem neq_IT : 3 ≠ 56 := by decide
theorem neq_IH : 3 ≠ 138 := by decide
theorem neq_TH : 56 ≠ 138 := by decide
/-- A block of another type is none of a row's. -/
theorem Row.notBlk {α : Type} {cells : α → List Value} {e t : TypeId} {size B g : Nat} {w : World} {v : Value} {l : List α} {cs : Array Value} (h : Row cells e size w B v l) (hb : Blk w g t cs) (hne : t ≠ e) : ¬ v.ownBlock = some g := fun hv => by
  obtain ⟨cur, hc⟩ := h.block hv
  unfold Blk at hb
  rw [hc] at hb
  injection hb with hb
  injection hb with _ h2 _
  exact hne h2.symm
/-- One element more, out of a block that is known whole. -/
theorem Row.pushLit {α : Type} {cells : α → List Value} {e : TypeId} {size B g : Nat} {l : List α} {P : Program} {t : TypeId} (T : Els P t e size) (hsz : ∀ x, (cells x).length = size) (h1 : ∀ x, ∀ u ∈ cells x, u.oneCell' = true) (ty : TypeId) {W : World} {v : Value} (h : Row cells e size W B v l) (hl : l.length ≤ 5000) (hB : B ≤ W.heap.size) {x : α} {cs : Array Value} (hb : Blk W g e cs) (hcs : cs.toList = cells x) :
    ∃ a' c' W', (Builtin.append_ #[t, t] ty #[v, .slice (some ⟨g, 0, none⟩) 1 1]).run P W = .ok (.slice a' (l.length + 1) c') W' ∧
      Row cells e size W' B (.slice a' (l.length + 1) c') (l ++ [x]) ∧ Kept (fun k => v.ownBlock = some k ∧ B ≤ k) W W' ∧ (∀ b, (Value.slice a' (l.length + 1) c').ownBlock = some b → (v.ownBlock = some b ∧ B ≤ b) ∨ b = W.heap.size) := by
  have hat : At W (.slice (some ⟨g, 0, none⟩) 1 1) 1 (cells x) := ⟨_, _, rfl, .inr ⟨g, 0, rfl, fun j y hj => by
    rw [Nat.zero_add, hb.cell j, ← hj, ← hcs]; simp⟩⟩
  obtain ⟨v', W', r, o, k, hw⟩ := append_any T ty h hat (by rw [hsz, Nat.one_mul]) (h1 x) (by omega) hB
  have o2 : Row cells e size W' B v' (l ++ [x]) := by simpa [Row] using o
  obtain ⟨a', c', e'⟩ := o2.shape
  rw [List.length_append] at e'
  subst e'
  refine ⟨a', c', W', r, o2, k.mono (fun i _ e => ⟨e, (h.lt i e).1⟩), fun b hb => ?_⟩
  rcases hw with e | e
  · have hb' : v.ownBlock = some b := e.symm.trans hb
    exact .inl ⟨hb', (h.lt b hb').1⟩
  · exact .inr (Option.some.inj (e.symm.trans hb)).symm
/-- A row's last element is taken away. -/
theorem Row.pop {α : Type} {cells : α → List Value} {e : TypeId} {size B : Nat} {l : List α} {x : α} {W : World} {a : Option Addr} {n c : Nat} (hsz : ∀ x, (cells x).length = size) (hn : n = l.length) (h : Row cells e size W B (.slice a (n + 1) c) (l ++ [x])) : Row cells e size W B (.slice a n c) l ∧ ∃ g, a = some ⟨g, 0, none⟩ := by
  subst hn
  have h' := h
  unfold Row at h'
  rw [List.length_append, List.flatMap_append] at h'
  obtain ⟨g, rfl⟩ : ∃ g, a = some ⟨g, 0, none⟩ := by
    rcases h'.2 with ⟨e0, _⟩ | ⟨g, cap, cur, e1, _⟩
    · cases e0
    · cases e1; exact ⟨g, rfl⟩
  refine ⟨ownsRow_pop (n := l.length) (flat_len hsz l) h', g, rfl⟩

theorem Row.caps {α : Type} {cells : α → List Value} {e : TypeId} {size B : Nat} {l : List α} {W : World} {a : Option Addr} {n c : Nat} (h : Row cells e size W B (.slice a n c) l) : n = l.length ∧ n ≤ c ∧ c ≤ maxLen := by
  rcases h.2 with ⟨e1, e2⟩ | ⟨g, cap, cur, e1, _, _, h1, h2, _⟩
  · cases e1; exact ⟨e2.symm, Nat.le_refl _, Nat.zero_le _⟩
  · cases e1; exact ⟨rfl, h1, h2⟩
/-- The triples behind which the next step stands: those handed in, without room behind them, or a row of the walk's own. -/
def BackV (W0 w : World) (B : Nat) (v : Value) (l : List T3) : Prop := (∃ a, v = .slice a l.length l.length ∧ In cT3 3 W0 a l.length l ∧ ((∃ b o, a = some ⟨b, o, none⟩ ∧ b < W0.heap.size) ∨ a = none)) ∨ Row cT3 56 3 w B v l
section
variable {W0 w w' : World} {B : Nat} {v : Value} {l : List T3}
theorem BackV.shape (h : BackV W0 w B v l) : ∃ a c, v = .slice a l.length c := by
  rcases h with ⟨a, e, _⟩ | h
  · exact ⟨a, _, e⟩
  · exact h.shape
theorem BackV.toIn {a : Option Addr} {n c : Nat} (h : BackV W0 w B (.slice a n c) l) (k : Kept Nil W0 w) : In cT3 3 w a n l := by
  rcases h with ⟨a', e, h, _⟩ | h
  · cases e; exact h.kept k
  · exact h.toIn cT3_len (by decide)
theorem BackV.lt (h : BackV W0 w B v l) (k : Kept Nil W0 w) {b : Nat} (hb : v.ownBlock = some b) : b < w.heap.size := by
  rcases h with ⟨a, rfl, _, ⟨b', o, rfl, hb'⟩ | rfl⟩ | h
  · cases hb; exact Nat.lt_of_lt_of_le hb' k.size
  · cases hb
  · exact (h.lt b hb).2
theorem BackV.kept {F : Nat → Prop} (h : BackV W0 w B v l) (k : Kept F w w') (hF : ∀ b, v.ownBlock = some b → B ≤ b → ¬ F b) : BackV W0 w' B v l := by
  rcases h with h | h
  · exact .inl h
  · exact .inr (h.keptF k fun b hb => hF b hb (h.lt b hb).1)
theorem BackV.notBlk {g : Nat} {t : TypeId} {cs : Array Value} (h : BackV W0 w B v l) (hB : W0.heap.size ≤ B) (hb : Blk w g t cs) (hne : t ≠ 56) : ¬ (v.ownBlock = some g ∧ B ≤ g) := fun ⟨hv, hg⟩ => by
  rcases h with ⟨a, rfl, _, ⟨b', o, rfl, hb'⟩ | rfl⟩ | h
  · have e : b' = g := Option.some.inj hv
    omega
  · cases hv
  · exact h.notBlk hb hne hv
/-- One triple more, out of a block that is known whole. -/
theorem BackV.pushLit {P : Program} {t : TypeId} (T : Els P t 56 3) (ty : TypeId) {W : World} {g : Nat} (h : BackV W0 W B v l) (k0 : Kept Nil W0 W) (hl : l.length ≤ 5000) (hB : B ≤ W.heap.size) {x : T3} (hb : Blk W g 56 #[.int .i64 x.1, .int .i64 x.2.1, .int .i64 x.2.2]) :
    ∃ a' c' W', (Builtin.append_ #[t, t] ty #[v, .slice (some ⟨g, 0, none⟩) 1 1]).run P W = .ok (.slice a' (l.length + 1) c') W' ∧
      Row cT3 56 3 W' B (.slice a' (l.length + 1) c') (l ++ [x]) ∧ Kept (fun b => v.ownBlock = some b ∧ B ≤ b) W W' ∧ (∀ b, (Value.slice a' (l.length + 1) c').ownBlock = some b → (v.ownBlock = some b ∧ B ≤ b) ∨ b = W.heap.size) := by
  have hnews : ∀ (j : Nat) u, (cT3 x)[j]? = some u → W.cell? ((⟨g, 0, none⟩ : Addr).add j) = some u := fun j u hj => by
    rw [Addr.add_lit, Nat.zero_add, hb.cell j, ← hj]; simp [cT3]
  have clip : ∀ (a : Addr), v = .slice (some a) l.length l.length → (∀ (j : Nat) u, (l.flatMap cT3)[j]? = some u → W.cell? (a.add j) = some u) → ∃ a' c' W', (Builtin.append_ #[t, t] ty #[v, .slice (some ⟨g, 0, none⟩) 1 1]).run P W = .ok (.slice a' (l.length + 1) c') W' ∧
      Row cT3 56 3 W' B (.slice a' (l.length + 1) c') (l ++ [x]) ∧ Kept (fun b => v.ownBlock = some b ∧ B ≤ b) W W' ∧ (∀ b, (Value.slice a' (l.length + 1) c').ownBlock = some b → (v.ownBlock = some b ∧ B ≤ b) ∨ b = W.heap.size) := by
    intro a e ha
    subst e
    obtain ⟨ht, ⟨i, z, bytes, hi, hz, hsz, hby, hzs, hb128⟩, hs⟩ := T
    have h63 : l.length + 1 ≤ maxLen := by unfold maxLen; omega
    have hbytes : (l.length + 1) * bytes ≤ 140737488355328 := Nat.le_trans (Nat.mul_le_mul (show l.length + 1 ≤ 5001 by omega) hb128) (by decide)
    have hr := run_append_grow (P := P) W t ty 56 i z ht hi hz a l.length l.length (l.flatMap cT3) (by rw [flat_len cT3_len, hsz]) ha ⟨g, 0, none⟩ 1 1 (cT3 x) (by rw [hsz]; rfl) hnews (by omega) (by unfold maxLen at h63; omega) (growslice_fits (by omega) (by rw [hby]; exact hbytes))
    have hrow : Row cT3 56 3 (W.drew.alloc (.cells ((l.flatMap cT3).toArray ++ (cT3 x).toArray ++ Builtin.zeroCells z.cells (grownCap W (l.length + 1) l.length 56 - (l.length + 1))) 56)) B (.slice (some ⟨W.heap.size, 0, none⟩) (l.length + 1) (grownCap W (l.length + 1) l.length 56)) (l ++ [x]) := by
      have hlx : (l ++ [x]).length = l.length + 1 := by rw [List.length_append]; rfl
      unfold Row
      rw [hlx]
      refine ⟨?_, .inr ⟨W.heap.size, _, _, rfl, hB, heap_alloc_new W.drew _, grownCap_ge W (l.length + 1) l.length _, grownCap_le_maxLen W (l.length + 1) l.length _ h63, ?_, ?_⟩⟩
      · rw [flat_len cT3_len, hlx]
      · have := grownCap_ge W (l.length + 1) l.length 56
        simp only [Array.size_append, List.size_toArray, size_zeroCells, hzs, flat_len cT3_len]
        rw [show (cT3 x).length = 1 * 3 from rfl, ← Nat.add_mul, ← Nat.add_mul]
        congr 1
        omega
      · rw [List.flatMap_append]
        simp only [Array.toList_append]
        have e2 : ([x].flatMap cT3) = cT3 x := by simp
        rw [e2]
        have : (l.length + 1) * 3 = (l.flatMap cT3 ++ cT3 x).length := by rw [List.length_append, flat_len cT3_len, Nat.add_mul]; rfl
        rw [this]
        exact List.take_left
    exact ⟨_, _, _, hr, hrow, (Kept.refl _ _).drew.alloc _, fun b hb => .inr (Option.some.inj hb).symm⟩
  rcases h with ⟨a, rfl, hi, ⟨b', o, rfl, hb'⟩ | rfl⟩ | h
  · refine clip _ rfl fun j u hj => ?_
    obtain ⟨a2, c2, e2, h2⟩ := (hi.kept k0).toAt (cap := l.length) cT3_len (by decide)
    cases e2
    rcases h2 with e0 | ⟨b, o', e0, hc⟩
    · rw [e0] at hj; simp at hj
    · cases e0
      rw [Addr.add_lit]; exact hc j u hj
  · have e0 : l.length = 0 := by
      rcases hi.2 with e0 | ⟨b, off, e0, _⟩
      · exact e0
      · cases e0
    obtain rfl := List.length_eq_zero_iff.1 e0
    exact (Row.nil (cells := cT3) (e := 56) (size := 3) W B).pushLit T cT3_len cT3_one ty (by simp) hB hb rfl
  · exact h.pushLit T cT3_len cT3_one ty hl hB hb rfl
end
/-- The walk: its block, and its lists; G are its blocks. -/
structure Wk (W0 : World) (B p : Nat) (fv cv : Value) (b0 : List F4) (w : World) (G : Nat → Prop) (n : Nat) (k : Stk) (u : Nat) (iv bv hv : Value) : Prop where
  blk : Blk w p 125 #[fv, cv, .int .i64 n, iv, bv, hv, .int .i64 u]
  ids : Row cN 3 1 w B iv (idsOf k)
  back : BackV W0 w B bv ((chOf b0 k).map Prod.snd)
  chs : Row cH 138 2 w B hv (hOf k)
  gp : G p
  gi : ∀ b, iv.ownBlock = some b → G b
  gb : ∀ b, bv.ownBlock = some b → B ≤ b → G b
  gh : ∀ b, hv.ownBlock = some b → G b
  base : ∀ b, G b → B ≤ b ∧ b < w.heap.size
  k0 : Kept Nil W0 w
  hB : W0.heap.size ≤ B
  bown : k ≠ [] → Row cT3 56 3 w B bv ((chOf b0 k).map Prod.snd)
section
variable {W0 w w' : World} {B p : Nat} {fv cv : Value} {b0 : List F4} {G : Nat → Prop} {n : Nat} {k : Stk} {u : Nat} {iv bv hv : Value}
theorem Wk.kept {F : Nat → Prop} (h : Wk W0 B p fv cv b0 w G n k u iv bv hv) (kk : Kept F w w') (hF : ∀ b, F b → W0.heap.size ≤ b ∧ ¬ G b) : Wk W0 B p fv cv b0 w' G n k u iv bv hv :=
  ⟨h.blk.kept kk (fun e => (hF p e).2 h.gp), h.ids.keptF kk (fun b hb e => (hF b e).2 (h.gi b hb)), h.back.kept kk (fun b hb hB e => (hF b e).2 (h.gb b hb hB)), h.chs.keptF kk (fun b hb e => (hF b e).2 (h.gh b hb)), h.gp, h.gi, h.gb, h.gh,
    fun b hb => ⟨(h.base b hb).1, Nat.lt_of_lt_of_le (h.base b hb).2 kk.size⟩, h.k0.trans kk (fun i hi e => absurd (hF i e).1 (Nat.not_le.2 hi)), h.hB, fun hk => (h.bown hk).keptF kk (fun b hb e => (hF b e).2 (h.gb b hb ((h.bown hk).lt b hb).1))⟩
theorem Wk.keptN (h : Wk W0 B p fv cv b0 w G n k u iv bv hv) (kk : Kept Nil w w') : Wk W0 B p fv cv b0 w' G n k u iv bv hv := h.kept kk (fun _ e => e.elim)
/-- More blocks are its own. -/
theorem Wk.more {G' : Nat → Prop} (h : Wk W0 B p fv cv b0 w G n k u iv bv hv) (hG : ∀ b, G b → G' b) (hb : ∀ b, G' b → B ≤ b ∧ b < w.heap.size) : Wk W0 B p fv cv b0 w G' n k u iv bv hv :=
  ⟨h.blk, h.ids, h.back, h.chs, hG _ h.gp, fun b e => hG b (h.gi b e), fun b e e2 => hG b (h.gb b e e2), fun b e => hG b (h.gh b e), hb, h.k0, h.hB, h.bown⟩
end
/-- The walk's blocks, and new ones. -/
def Gr (G : Nat → Prop) (w w' : World) (b : Nat) : Prop := G b ∨ (w.heap.size ≤ b ∧ b < w'.heap.size)
theorem Wk.gr {W0 w w' : World} {B p : Nat} {fv cv : Value} {b0 : List F4} {G : Nat → Prop} {n : Nat} {k : Stk} {u : Nat} {iv bv hv : Value} (h : Wk W0 B p fv cv b0 w G n k u iv bv hv) (hs : w.heap.size ≤ w'.heap.size) : ∀ b, Gr G w w' b → B ≤ b ∧ b < w'.heap.size := fun b hb => by
  rcases hb with hb | hb
  · exact ⟨(h.base b hb).1, Nat.lt_of_lt_of_le (h.base b hb).2 hs⟩
  · have := h.base p h.gp
    omega
theorem neq_WI : 125 ≠ 3 := by decide
theorem neq_WT : 125 ≠ 56 := by decide
theorem neq_WH : 125 ≠ 138 := by decide
/-- The two lists of a match, while they grow. -/
structure RB (W0 : World) (B : Nat) (iv bv : Value) (li : List Int) (lb : List T3) (W : World) : Prop where
  ids : Row cN 3 1 W B iv li
  back : BackV W0 W B bv lb
  k0 : Kept Nil W0 W
  hB : W0.heap.size ≤ B ∧ B ≤ W.heap.size
/-- What an append of one number, of one triple, comes to. -/
abbrev apI (W : World) (v : Value) (g : Nat) (v' : Value) (W' : World) : Prop := (Builtin.append_ #[49, 49] 49 #[v, .slice (some ⟨g, 0, none⟩) 1 1]).run Try.prog W = .ok v' W'
abbrev apT (W : World) (v : Value) (g : Nat) (v' : Value) (W' : World) : Prop := (Builtin.append_ #[25, 25] 25 #[v, .slice (some ⟨g, 0, none⟩) 1 1]).run Try.prog W = .ok v' W'
section
variable {W0 W W' : World} {B g : Nat} {iv bv : Value} {li : List Int} {lb : List T3}
theorem RB.keptN (h : RB W0 B iv bv li lb W) (k : Kept Nil W W') : RB W0 B iv bv li lb W' := ⟨h.ids.keptN k, h.back.kept k (fun _ _ _ e => e), h.k0.trans k (fun _ _ e => e), h.hB.1, Nat.le_trans h.hB.2 k.size⟩
theorem RB.apart (h : RB W0 B iv bv li lb W) : ∀ b, iv.ownBlock = some b → ¬ (bv.ownBlock = some b ∧ B ≤ b) := fun b hi hb => by
  obtain ⟨cur, hc⟩ := h.ids.block hi
  exact h.back.notBlk h.hB.1 (show Blk W b 3 cur from hc) neq_IT hb
theorem RB.pI (h : RB W0 B iv bv li lb W) {x : Int} (hb : Blk W g 3 #[.int .i64 x]) (hl : li.length ≤ 5000) :
    ∃ a c W', apI W iv g (.slice a (li.length + 1) c) W' ∧ RB W0 B (.slice a (li.length + 1) c) bv (li ++ [x]) lb W' ∧ Kept (fun b => iv.ownBlock = some b ∧ B ≤ b) W W' ∧ (∀ b, (Value.slice a (li.length + 1) c).ownBlock = some b → (iv.ownBlock = some b ∧ B ≤ b) ∨ b = W.heap.size) := by
  obtain ⟨a, c, W', r, hR, k, ho⟩ := h.ids.pushLit elsI1 cN_len cN_one 49 hl h.hB.2 hb (by rfl)
  exact ⟨a, c, W', r, ⟨hR, h.back.kept k (fun b hb hB e => h.apart b e.1 ⟨hb, hB⟩), h.k0.trans k (fun i hi e => absurd e.2 (by have := h.hB.1; omega)), h.hB.1, Nat.le_trans h.hB.2 k.size⟩, k, ho⟩
theorem RB.pT (h : RB W0 B iv bv li lb W) {x : T3} (hb : Blk W g 56 #[.int .i64 x.1, .int .i64 x.2.1, .int .i64 x.2.2]) (hl : lb.length ≤ 5000) :
    ∃ a c W', apT W bv g (.slice a (lb.length + 1) c) W' ∧ RB W0 B iv (.slice a (lb.length + 1) c) li (lb ++ [x]) W' ∧ Kept (fun b => bv.ownBlock = some b ∧ B ≤ b) W W' ∧ (∀ b, (Value.slice a (lb.length + 1) c).ownBlock = some b → (bv.ownBlock = some b ∧ B ≤ b) ∨ b = W.heap.size) := by
  obtain ⟨a, c, W', r, hR, k, ho⟩ := h.back.pushLit elsT3 25 h.k0 hl h.hB.2 hb
  exact ⟨a, c, W', r, ⟨h.ids.keptF k (fun b hb e => h.apart b hb e), .inr hR, h.k0.trans k (fun i hi e => absurd e.2 (by have := h.hB.1; omega)), h.hB.1, Nat.le_trans h.hB.2 k.size⟩, k, ho⟩
end
end
section
open Go.RowKit
set_option maxRecDepth 100000

section
variable {P : Program} {pre : Array Oper} {last : Oper} {Q Q' : Exit → Act → World → Prop} {md : Region.Mode}
/-- What is asked of the region: no guards, each waits for such as stand ahead of it alone, the last one for all others. -/
def lastB (md : Region.Mode) (pre : Array Oper) (last : Oper) : Bool :=
  ((List.range pre.size).all fun j => match pre[j]? with | some o => o.guard.isNone && o.after.all (fun e => !Region.binds md e || decide (e.on < j)) | none => false) &&
  (last.guard.isNone && (last.after.all (fun e => !Region.binds md e || decide (e.on < pre.size)) &&
  (List.range pre.size).all fun j => last.after.any fun e => Region.binds md e && (e.on == j || match pre[e.on]? with | some o => o.after.any (fun e' => Region.binds md e' && e'.on == j) | none => false)))
structure LastOK (md : Region.Mode) (pre : Array Oper) (last : Oper) : Prop where
  g : ∀ (j : Nat) (o : Oper), pre[j]? = some o → o.guard = none
  f : ∀ (j : Nat) (o : Oper), pre[j]? = some o → ∀ e ∈ o.after, Region.binds md e = true → e.on < j
  gl : last.guard = none
  fl : ∀ e ∈ last.after, Region.binds md e = true → e.on < pre.size
  al : ∀ (j : Nat), j < pre.size → ∃ e ∈ last.after, Region.binds md e = true ∧ (e.on = j ∨ ∃ o, pre[e.on]? = some o ∧ ∃ e' ∈ o.after, Region.binds md e' = true ∧ e'.on = j)
theorem LastOK.of (h : lastB md pre last = true) : LastOK md pre last := by
  unfold lastB at h
  simp only [Bool.and_eq_true, List.all_eq_true, List.mem_range] at h
  obtain ⟨h1, h2, h3, h4⟩ := h
  have hlt : ∀ {j : Nat} {o : Oper}, pre[j]? = some o → j < pre.size := fun ho => (Array.getElem?_eq_some_iff.1 ho).1
  refine ⟨fun j o ho => ?_, fun j o ho e he hb => ?_, by simpa using h2, fun e he hb => ?_, fun j hj => ?_⟩
  · have := h1 j (hlt ho)
    rw [ho] at this
    simp only [Bool.and_eq_true] at this
    simpa using this.1
  · have := h1 j (hlt ho)
    rw [ho] at this
    simp only [Bool.and_eq_true, Array.all_eq_true_iff_forall_mem] at this
    have := this.2 e he
    rw [hb] at this
    simpa using this
  · have := Array.all_eq_true_iff_forall_mem.1 h3 e he
    rw [hb] at this
    simpa using this
  · obtain ⟨i, hi, h5⟩ := Array.any_eq_true.1 (h4 j hj)
    simp only [Bool.and_eq_true, Bool.or_eq_true, beq_iff_eq] at h5
    refine ⟨_, Array.getElem_mem hi, h5.1, h5.2.imp id fun h6 => ?_⟩
    split at h6
    · rename_i o ho
      obtain ⟨i', hi', h7⟩ := Array.any_eq_true.1 h6
      simp only [Bool.and_eq_true, beq_iff_eq] at h7
      exact ⟨o, ho, _, Array.getElem_mem hi', h7.1, h7.2⟩
    · cases h6
/-- What has come up: the last one hasn't; all that something waited for has. -/
structure UpTo (md : Region.Mode) (pre : Array Oper) (listed : Array Bool) : Prop where
  sz : listed.size = pre.size + 1
  no : listed.getD pre.size true = false
  cl : ∀ (d : Nat) (o : Oper), pre[d]? = some o → listed.getD d false = true → ∀ e ∈ o.after, Region.binds md e = true → listed.getD e.on false = true
theorem getD_dn {listed : Array Bool} {j : Nat} (hj : j < listed.size) (d : Bool) : listed.getD j d = listed.getD j false := by simp [hj]
theorem UpTo.all {listed : Array Bool} (u : UpTo md pre listed) (h : LastOK md pre last) (hr : Region.ready md pre listed = []) : ∀ j, j < pre.size → listed.getD j false = true := by
  intro j
  induction j using Nat.strongRecOn with
  | _ j ih =>
    intro hj
    cases hb : listed.getD j false with
    | true => rfl
    | false =>
      exfalso
      have : j ∈ Region.ready md pre listed := mem_ready.2 ⟨(getD_dn (by rw [u.sz]; omega) _).trans hb, pre[j], Array.getElem?_eq_getElem hj, fun e he hbe => by
        have := h.f j _ (Array.getElem?_eq_getElem hj) e he hbe
        exact ih e.on this (by omega)⟩
      rw [hr] at this; cases this
theorem UpTo.lastReady {listed : Array Bool} (u : UpTo md pre listed) (h : LastOK md pre last) (hr : Region.ready md pre listed = []) : pre.size ∈ Region.ready md (pre.push last) listed :=
  mem_ready.2 ⟨u.no, last, Array.getElem?_push_size, fun e he hb => u.all h hr _ (h.fl e he hb)⟩
theorem UpTo.allOf {listed : Array Bool} (u : UpTo md pre listed) (h : LastOK md pre last) (hr : pre.size ∈ Region.ready md (pre.push last) listed) : ∀ j, j < pre.size → listed.getD j false = true := by
  intro j hj
  obtain ⟨_, o, ho, hall⟩ := mem_ready.1 hr
  rw [Array.getElem?_push_size] at ho
  cases ho
  obtain ⟨e, he, hb, rfl | ⟨o, ho, e', he', hb', rfl⟩⟩ := h.al j hj
  · exact hall e he hb
  · exact u.cl _ o ho (hall e he hb) e' he' hb'
theorem UpTo.none {listed : Array Bool} (u : UpTo md pre listed) (ha : ∀ j, j < pre.size → listed.getD j false = true) : Region.ready md pre listed = [] := by
  rw [List.eq_nil_iff_forall_not_mem]
  intro j hj
  obtain ⟨h0, o, ho, _⟩ := mem_ready.1 hj
  have hlt := (Array.getElem?_eq_some_iff.1 ho).1
  rw [getD_dn (by rw [u.sz]; omega), ha j hlt] at h0
  cases h0
theorem UpTo.step {listed : Array Bool} (u : UpTo md pre listed) {i : Nat} (hi : i ∈ Region.ready md pre listed) : UpTo md pre (listed.setIfInBounds i true) := by
  obtain ⟨_, o, ho, hall⟩ := mem_ready.1 hi
  have hlt := (Array.getElem?_eq_some_iff.1 ho).1
  refine ⟨by simp [u.sz], by rw [getD_set_ne true (by omega)]; exact u.no, fun d o' ho' hd e he hb => ?_⟩
  by_cases hdi : i = d
  · subst hdi
    rw [ho] at ho'
    cases ho'
    exact getD_set_true (hall e he hb)
  · rw [getD_set_ne false hdi] at hd
    exact getD_set_true (u.cl d o' ho' hd e he hb)
theorem wpTo {o : Oper} {a : Act} {w : World} {K K' : Act → World → Prop} (hp : ∀ c a w, Q' (.panic c) a w → Q (.panic c) a w) (ho : LetsOut Q' → LetsOut Q) (hK : ∀ a w, K a w → K' a w) (h : o.wp P a w K Q') : o.wp P a w K' Q := by
  unfold Oper.wp at *
  generalize (execOp a.eval o).run P w = r at *
  cases r with
  | ok n w' =>
    cases n <;> simp only [Oper.upon] at h ⊢
    case value u => exact hK _ _ h
    case skip => exact hK _ _ h
    case defer d => exact hK _ _ h
    case enter f args =>
      refine Calls.mono h fun e w'' he => ?_
      cases e with
      | returned u => exact hK _ _ he
      | panicked c => exact hp _ _ _ he
      | outgrown => exact ho he
    case row row args => exact Rows.mono h fun u w'' he => hK _ _ he
  | halt x w' =>
    cases x <;> simp only [Oper.upon] at h ⊢
    case panic u => exact hp _ _ _ h
theorem wpOpTo {ops : Array Oper} {i : Nat} {o : Oper} (hi : pre[i]? = some o) (hi' : ops[i]? = some o) (hg : o.guard = none) {a : Act} {w : World} {K K' : Act → World → Prop} (hp : ∀ c a w, Q' (.panic c) a w → Q (.panic c) a w) (ho : LetsOut Q' → LetsOut Q) (hK : ∀ a w, K a w → K' a w) (h : wpOp P pre Q' i K a w) : wpOp P ops Q i K' a w := by
  unfold wpOp at *
  rw [hi] at h
  rw [hi']
  simp only [Region.wanted, hg, if_true] at h ⊢
  exact h.imp (wpTo hp ho hK) fun ⟨h1, h2⟩ => ⟨h1, ho h2⟩
/-- What follows where the last one is left out: it is carried out. -/
def ThenLast (P : Program) (last : Oper) (Q : Exit → Act → World → Prop) : Exit → Act → World → Prop
  | .normal, a, w => last.wp P a w (fun a' w' => Q .normal a' w') Q
  | e, a, w => Q e a w
theorem wpAny_push (h : LastOK md pre last) : ∀ (fuel : Nat) (listed : Array Bool) (a : Act) (w : World), UpTo md pre listed → wpAny P md pre (ThenLast P last Q) fuel listed a w → wpAny P md (pre.push last) Q (fuel + 1) listed a w := by
  have hlast : ∀ (f : Nat) (listed : Array Bool) (a : Act) (w : World), UpTo md pre listed → Region.ready md pre listed = [] → ThenLast P last Q .normal a w → wpOp P (pre.push last) Q pre.size (wpAny P md (pre.push last) Q f (listed.setIfInBounds pre.size true)) a w := fun f listed a w u hr hq => by
    unfold wpOp
    rw [Array.getElem?_push_size]
    simp only [Region.wanted, h.gl, if_true]
    refine .inl (Oper.wp_mono (fun a' w' hq' => ?_) hq)
    have ha := u.all h hr
    have hn : Region.ready md (pre.push last) (listed.setIfInBounds pre.size true) = [] := by
      rw [List.eq_nil_iff_forall_not_mem]
      intro j hj
      obtain ⟨h0, o, ho, _⟩ := mem_ready.1 hj
      have hlt := (Array.getElem?_eq_some_iff.1 ho).1
      rw [Array.size_push] at hlt
      by_cases hjn : pre.size = j
      · subst hjn
        have : pre.size < listed.size := by rw [u.sz]; omega
        simp [this] at h0
      · rw [getD_set_ne true hjn, getD_dn (by rw [u.sz]; omega), ha j (by omega)] at h0
        cases h0
    cases f with
    | zero => exact ⟨hn, hq'⟩
    | succ f => exact ⟨fun _ => hq', by rw [hn]; simp⟩
  intro fuel
  induction fuel with
  | zero =>
    intro listed a w u ⟨hr, hq⟩
    refine ⟨fun hn => absurd (u.lastReady h hr) (by rw [hn]; simp), fun i hi => ?_⟩
    obtain ⟨h0, o, ho, hall⟩ := mem_ready.1 hi
    have hlt := (Array.getElem?_eq_some_iff.1 ho).1
    rw [Array.size_push] at hlt
    by_cases hin : i = pre.size
    · subst hin; exact hlast 0 listed a w u hr hq
    · rw [getD_dn (by rw [u.sz]; omega), u.all h hr i (by omega)] at h0
      cases h0
  | succ fuel ih =>
    intro listed a w u ⟨hq, hs⟩
    have hne : Region.ready md (pre.push last) listed = [] → Q .normal a w := fun hn => by
      have hp : Region.ready md pre listed = [] := by
        rw [List.eq_nil_iff_forall_not_mem]
        intro j hj
        obtain ⟨h0, o, ho, hall⟩ := mem_ready.1 hj
        have hlt := (Array.getElem?_eq_some_iff.1 ho).1
        have : j ∈ Region.ready md (pre.push last) listed := mem_ready.2 ⟨h0, o, by rw [Array.getElem?_push_lt hlt]; rw [Array.getElem?_eq_getElem hlt] at ho; exact ho, hall⟩
        rw [hn] at this; cases this
      exact absurd (u.lastReady h hp) (by rw [hn]; simp)
    refine ⟨hne, fun i hi => ?_⟩
    obtain ⟨h0, o, ho, hall⟩ := mem_ready.1 hi
    have hlt := (Array.getElem?_eq_some_iff.1 ho).1
    rw [Array.size_push] at hlt
    by_cases hin : i = pre.size
    · subst hin
      have hr := u.none (u.allOf h hi)
      exact hlast (fuel + 1) listed a w u hr (hq hr)
    · have hlt' : i < pre.size := by omega
      have ho' : pre[i]? = some o := by
        rw [Array.getElem?_push_lt hlt'] at ho
        rw [Array.getElem?_eq_getElem hlt']; exact ho
      have hi' : i ∈ Region.ready md pre listed := mem_ready.2 ⟨h0, o, ho', hall⟩
      exact wpOpTo ho' ho (h.g i o ho') (fun _ _ _ e => e) (fun e => e) (fun a' w' hw => ih _ a' w' (u.step hi') hw) (hs i hi')
/-- A region that draws: without its last operation, under a condition on the world that holds till then. -/
theorem wp_region_last {id : Nat} {ops : Array Oper} {a : Act} {w : World} (S : World → Prop) (pre : Array Oper) (last : Oper) (ho : ops = pre.push last) (hm : P.follows .mixedOrders = true) (hB : lastB .any pre last = true)
    (h : wpAnyH P .any pre (ThenLast P last Q) S pre.size (Array.replicate (pre.size + 1) false) a w.drew) : (Code.region id ops true).wp P Q a w := by
  subst ho
  refine wp_region_any hm ?_
  rw [Array.size_push]
  refine wpAny_push (LastOK.of hB) _ _ _ _ ⟨by simp, by simp, fun d o _ hd => ?_⟩ (wpAny_of_held _ _ _ _ h)
  have : (Array.replicate (pre.size + 1) false).getD d false = false := by
    rcases Nat.lt_or_ge d (pre.size + 1) with h | h
    · simp [h]
    · simp [Nat.not_lt.2 h]
  rw [this] at hd; cases hd
end
end
section
open Go.RowKit
set_option maxRecDepth 100000

/-- On the way from Z: the two lists, the walk's block, the fact's one, the choices. -/
structure Pt (W0 Z : World) (B p E : Nat) (parr farr : Array Value) (hv : Value) (hl : List (Int × Int)) (iv0 bv0 iv bv : Value) (li : List Int) (lb : List T3) (W : World) : Prop where
  rb : RB W0 B iv bv li lb W
  bp : Blk W p 125 parr
  bE : Blk W E 62 farr
  ch : Row cH 138 2 W B hv hl
  k : Kept (fun b => (iv0.ownBlock = some b ∨ bv0.ownBlock = some b) ∧ B ≤ b) Z W
  oi : ∀ b, iv.ownBlock = some b → (iv0.ownBlock = some b ∧ B ≤ b) ∨ Z.heap.size ≤ b
  ob : ∀ b, bv.ownBlock = some b → B ≤ b → (bv0.ownBlock = some b ∧ B ≤ b) ∨ Z.heap.size ≤ b
theorem neq_FI : 62 ≠ 3 := by decide
theorem neq_FT : 62 ≠ 56 := by decide
section
variable {W0 Z W W' : World} {B p E g gI gT : Nat} {parr farr : Array Value} {hv : Value} {hl : List (Int × Int)} {iv0 bv0 iv bv : Value} {li : List Int} {lb : List T3}
theorem Pt.keptN (h : Pt W0 Z B p E parr farr hv hl iv0 bv0 iv bv li lb W) (k : Kept Nil W W') : Pt W0 Z B p E parr farr hv hl iv0 bv0 iv bv li lb W' :=
  ⟨h.rb.keptN k, h.bp.kept k (fun e => e), h.bE.kept k (fun e => e), h.ch.keptN k, h.k.trans k (fun _ _ e => e.elim), h.oi, h.ob⟩
theorem Pt.pI (h : Pt W0 Z B p E parr farr hv hl iv0 bv0 iv bv li lb W) {x : Int} (hb : Blk W g 3 #[.int .i64 x]) (hn : li.length ≤ 5000) :
    ∃ a c W', apI W iv g (.slice a (li.length + 1) c) W' ∧ Pt W0 Z B p E parr farr hv hl iv0 bv0 (.slice a (li.length + 1) c) bv (li ++ [x]) lb W' ∧ (∀ {g t cs}, Blk W g t cs → t ≠ 3 → Blk W' g t cs) := by
  obtain ⟨a, c, W', r, hR, k, ho⟩ := h.rb.pI hb hn
  have keep : ∀ {g t cs}, Blk W g t cs → t ≠ 3 → Blk W' g t cs := fun hb hne => hb.kept k (fun e => h.rb.ids.notBlk hb hne e.1)
  refine ⟨a, c, W', r, ⟨hR, keep h.bp neq_WI, keep h.bE neq_FI, h.ch.keptF k (fun b hb e => rows_apart2 (fun e => neq_IH e.symm) h.ch h.rb.ids b hb e.1), h.k.trans k (fun i hi e => ?_), fun b hb => ?_, h.ob⟩, keep⟩
  · rcases h.oi i e.1 with e1 | e1
    · exact ⟨.inl e1.1, e1.2⟩
    · omega
  · rcases ho b hb with e1 | e1
    · exact h.oi b e1.1
    · exact .inr (by rw [e1]; exact h.k.size)
theorem Pt.pT (h : Pt W0 Z B p E parr farr hv hl iv0 bv0 iv bv li lb W) {x : T3} (hb : Blk W g 56 #[.int .i64 x.1, .int .i64 x.2.1, .int .i64 x.2.2]) (hn : lb.length ≤ 5000) :
    ∃ a c W', apT W bv g (.slice a (lb.length + 1) c) W' ∧ Pt W0 Z B p E parr farr hv hl iv0 bv0 iv (.slice a (lb.length + 1) c) li (lb ++ [x]) W' ∧ (∀ {g t cs}, Blk W g t cs → t ≠ 56 → Blk W' g t cs) ∧ Row cT3 56 3 W' B (.slice a (lb.length + 1) c) (lb ++ [x]) := by
  obtain ⟨a, c, W', r, hr, k, ho⟩ := h.rb.back.pushLit elsT3 25 h.rb.k0 hn h.rb.hB.2 hb
  have hR : RB W0 B iv (.slice a (lb.length + 1) c) li (lb ++ [x]) W' := ⟨h.rb.ids.keptF k (fun b hb e => h.rb.apart b hb e), .inr hr, h.rb.k0.trans k (fun i hi e => absurd e.2 (by have := h.rb.hB.1; omega)), h.rb.hB.1, Nat.le_trans h.rb.hB.2 k.size⟩
  have keep : ∀ {g t cs}, Blk W g t cs → t ≠ 56 → Blk W' g t cs := fun hb hne => hb.kept k (fun e => h.rb.back.notBlk h.rb.hB.1 hb hne e)
  refine ⟨a, c, W', r, ⟨hR, keep h.bp neq_WT, keep h.bE neq_FT, h.ch.keptF k (fun b hb e => ?_), h.k.trans k (fun i hi e => ?_), h.oi, fun b hb hB => ?_⟩, keep, hr⟩
  · obtain ⟨cur, hc⟩ := h.ch.block hb
    exact h.rb.back.notBlk h.rb.hB.1 (show Blk W b 138 cur from hc) (fun e => neq_TH e.symm) e
  · rcases h.ob i e.1 e.2 with e1 | e1
    · exact ⟨.inr e1.1, e1.2⟩
    · omega
  · rcases ho b hb with e1 | e1
    · exact h.ob b e1.1 e1.2
    · exact .inr (by rw [e1]; exact h.k.size)
variable {x : Int} {t : T3}
theorem Pt.two_IT (h : Pt W0 Z B p E parr farr hv hl iv0 bv0 iv bv li lb W) (hI : Blk W gI 3 #[.int .i64 x]) (hT : Blk W gT 56 #[.int .i64 t.1, .int .i64 t.2.1, .int .i64 t.2.2]) (hn : li.length ≤ 5000) (hn' : lb.length ≤ 5000) :
    ∃ a c W1 a' c' W2, apI W iv gI (.slice a (li.length + 1) c) W1 ∧ apT W1 bv gT (.slice a' (lb.length + 1) c') W2 ∧ Pt W0 Z B p E parr farr hv hl iv0 bv0 (.slice a (li.length + 1) c) bv (li ++ [x]) lb W1 ∧ Pt W0 Z B p E parr farr hv hl iv0 bv0 (.slice a (li.length + 1) c) (.slice a' (lb.length + 1) c') (li ++ [x]) (lb ++ [t]) W2 ∧ Row cT3 56 3 W2 B (.slice a' (lb.length + 1) c') (lb ++ [t]) := by
  obtain ⟨a, c, W1, r1, h1, k1⟩ := h.pI hI hn
  obtain ⟨a', c', W2, r2, h2, _, hr⟩ := h1.pT (k1 hT (fun e => neq_IT e.symm)) hn'
  exact ⟨a, c, W1, a', c', W2, r1, r2, h1, h2, hr⟩
theorem Pt.late_IT (h : Pt W0 Z B p E parr farr hv hl iv0 bv0 iv bv li lb W) (hI : Blk W gI 3 #[.int .i64 x]) (t : T3) (hn : li.length ≤ 5000) (hn' : lb.length ≤ 5000) :
    ∃ a c W1 a' c' W2, apI W iv gI (.slice a (li.length + 1) c) W1 ∧ apT (W1.alloc (.cells #[.int .i64 t.1, .int .i64 t.2.1, .int .i64 t.2.2] 56)) bv W1.heap.size (.slice a' (lb.length + 1) c') W2 ∧ Pt W0 Z B p E parr farr hv hl iv0 bv0 (.slice a (li.length + 1) c) bv (li ++ [x]) lb W1 ∧ Pt W0 Z B p E parr farr hv hl iv0 bv0 (.slice a (li.length + 1) c) (.slice a' (lb.length + 1) c') (li ++ [x]) (lb ++ [t]) W2 ∧ Row cT3 56 3 W2 B (.slice a' (lb.length + 1) c') (lb ++ [t]) := by
  obtain ⟨a, c, W1, r1, h1, k1⟩ := h.pI hI hn
  obtain ⟨a', c', W2, r2, h2, _, hr⟩ := (h1.keptN ((Kept.refl Nil W1).alloc (.cells #[.int .i64 t.1, .int .i64 t.2.1, .int .i64 t.2.2] 56))).pT (Blk.new W1 _ _) hn'
  exact ⟨a, c, W1, a', c', W2, r1, r2, h1, h2, hr⟩

end
/-- What choose leaves, where a fact is chosen. -/
theorem wk_hit {W0 w Y W : World} {B p E : Nat} {fv cv : Value} {b0 : List F4} {G : Nat → Prop} {n : Nat} {k : Stk} {u : Nat} {iv bv hv hv' iv' bv' : Value} {j : Nat} {f : F4} {farr : Array Value} (h : Wk W0 B p fv cv b0 w G n k u iv bv hv) (KY : Kept G w Y)
    (pt : Pt W0 Y.drew B p E #[fv, cv, .int .i64 n, iv, bv, hv', .int .i64 u] farr hv' (hOf k ++ [((n : Int), (j : Int))]) iv bv iv' bv' (idsOf k ++ [f.1]) ((chOf b0 k).map Prod.snd ++ [f.2]) W) (oh : ∀ b, hv'.ownBlock = some b → G b ∨ w.heap.size ≤ b) (hr : Row cT3 56 3 W B bv' ((chOf b0 k).map Prod.snd ++ [f.2]))
    {N : Value} (hN : N = .int .i64 ((n + 1 : Nat) : Int)) :
    Kept G w ((((W.setCell ⟨p, 2, none⟩ N).setCell ⟨p, 3, none⟩ iv').setCell ⟨p, 4, none⟩ bv').setCell ⟨p, 6, none⟩ (.int .i64 0)) ∧ Wk W0 B p fv cv b0 ((((W.setCell ⟨p, 2, none⟩ N).setCell ⟨p, 3, none⟩ iv').setCell ⟨p, 4, none⟩ bv').setCell ⟨p, 6, none⟩ (.int .i64 0)) (Gr G w ((((W.setCell ⟨p, 2, none⟩ N).setCell ⟨p, 3, none⟩ iv').setCell ⟨p, 4, none⟩ bv').setCell ⟨p, 6, none⟩ (.int .i64 0))) (n + 1) ((n, j, f) :: k) 0 iv' bv' hv' := by
  subst hN
  have kS : Kept (fun b => b = p) W ((((W.setCell ⟨p, 2, none⟩ (.int .i64 ((n + 1 : Nat) : Int))).setCell ⟨p, 3, none⟩ iv').setCell ⟨p, 4, none⟩ bv').setCell ⟨p, 6, none⟩ (.int .i64 0)) := ((((Kept.refl (fun b => b = p) W).setCell ⟨p, 2, none⟩ (.inl rfl) _).setCell ⟨p, 3, none⟩ (.inl rfl) _).setCell ⟨p, 4, none⟩ (.inl rfl) _).setCell ⟨p, 6, none⟩ (.inl rfl) _
  have bS : Blk ((((W.setCell ⟨p, 2, none⟩ (.int .i64 ((n + 1 : Nat) : Int))).setCell ⟨p, 3, none⟩ iv').setCell ⟨p, 4, none⟩ bv').setCell ⟨p, 6, none⟩ (.int .i64 0)) p 125 #[fv, cv, .int .i64 ((n + 1 : Nat) : Int), iv', bv', hv', .int .i64 0] := (((pt.bp.set_ 2 _).set_ 3 _).set_ 4 _).set_ 6 _
  have hsz : ((((W.setCell ⟨p, 2, none⟩ (.int .i64 ((n + 1 : Nat) : Int))).setCell ⟨p, 3, none⟩ iv').setCell ⟨p, 4, none⟩ bv').setCell ⟨p, 6, none⟩ (.int .i64 0)).heap.size = W.heap.size := by simp [World.setCell]
  generalize ((((W.setCell ⟨p, 2, none⟩ (.int .i64 ((n + 1 : Nat) : Int))).setCell ⟨p, 3, none⟩ iv').setCell ⟨p, 4, none⟩ bv').setCell ⟨p, 6, none⟩ (.int .i64 0)) = V at *
  have kYW : Kept G w W := KY.drew.trans pt.k (fun i hi e => by
    rcases e.1 with e1 | e1
    · exact h.gi i e1
    · exact h.gb i e1 e.2)
  have kV : Kept G w V := kYW.trans kS (fun i _ e => by subst e; exact h.gp)
  have hYw : w.heap.size ≤ Y.drew.heap.size := KY.size
  refine ⟨kV, bS, pt.rb.ids.keptF kS (fun b hb e => by subst e; exact pt.rb.ids.notBlk pt.bp neq_WI hb), .inr (?_), ?_, .inl h.gp, fun b hb => ?_, fun b hb hB => ?_, fun b hb => ?_, h.gr kV.size, h.k0.trans kV (fun i hi e => absurd (h.base i e).1 (by have := h.hB; omega)), h.hB, fun _ => ?_⟩
  · rw [chOf, List.map_append]
    exact hr.keptF kS (fun b hb e => by subst e; exact hr.notBlk pt.bp neq_WT hb)
  · exact pt.ch.keptF kS (fun b hb e => by subst e; exact pt.ch.notBlk pt.bp neq_WH hb)
  · rcases pt.oi b hb with e | e
    · exact .inl (h.gi b e.1)
    · exact .inr ⟨Nat.le_trans hYw e, by rw [hsz]; exact (pt.rb.ids.lt b hb).2⟩
  · rcases pt.ob b hb hB with e | e
    · exact .inl (h.gb b e.1 e.2)
    · exact .inr ⟨Nat.le_trans hYw e, by rw [hsz]; exact (hr.lt b hb).2⟩
  · rcases oh b hb with e | e
    · exact .inl e
    · exact .inr ⟨e, by rw [hsz]; exact (pt.ch.lt b hb).2⟩
  · rw [chOf, List.map_append]
    exact hr.keptF kS (fun b hb e => by subst e; exact hr.notBlk pt.bp neq_WT hb)
/-- An append, one of whatever comes up. -/
theorem app_wp {P : Program} {o : Oper} (d : Option Tmp) (hd : o.dst = d) {a : Act} {w : World} {K : Act → World → Prop} {Q : Exit → Act → World → Prop} (s x : Operand) (t ty : TypeId) (hty : o.type = ty)
    (ho : o.op = .call { callee := .builtin .append, args := #[s, x], argTypes := #[t, t] }) (v y : Value) (hs : a.eval s = v) (hx : a.eval x = y) {v' : Value} {w' : World}
    (hr : (Builtin.append_ #[t, t] ty #[v, y]).run P w = .ok v' w') (h : K (a.put d v') w') : o.wp P a w K Q := by
  subst hd hty
  unfold Oper.wp execOp
  simp only [ho, resolve, invoke, builtin, Sem.run_bind, Sem.run_pure, Result.andThen_ok, List.map_toArray, List.map_cons, List.map_nil, hs, hx, hr]
  exact h
theorem wpOp_of {P : Program} {ops : Array Oper} {Q : Exit → Act → World → Prop} {i : Nat} {o : Oper} {K : Act → World → Prop} {a : Act} {w : World} (hi : ops[i]? = some o) (hg : o.guard = none) (h : o.wp P a w K Q) : wpOp P ops Q i K a w := by
  unfold wpOp
  rw [hi]
  simp only [Region.wanted, hg, if_true]
  exact .inl h
/-- A literal in new memory. -/
theorem lit_wp {P : Program} {o : Oper} (d : Option Tmp) (hd : o.dst = d) {a : Act} {w w' : World} {v : Value} {K : Act → World → Prop} {Q : Exit → Act → World → Prop} (hr : (execOp a.eval o).run P w = .ok (.value v) w') (h : K (a.put d v) w') : o.wp P a w K Q := by
  subst hd
  unfold Oper.wp
  rw [hr]
  exact h
/-- One is taken first; the slot that it writes is given. -/
theorem takeH {P : Program} {ops : Array Oper} {Q : Exit → Act → World → Prop} {md : Region.Mode} {S : World → Prop} {i : Nat} {oi : Oper} (d : Option Tmp) (v : Value) {fuel : Nat} {listed : Array Bool} {a : Act} {w : World} (hi : ops[i]? = some oi) (hd : oi.dst = d)
    (hs : Region.noSelect ops = true) (hf : Region.free md ops listed i = true) (hr : (Region.ready md ops listed).contains i = true)
    (hQ : ∀ c a w, Q (.panic c) (a.put oi.dst v) w → Q (.panic c) a w) (hw : Region.wanted oi (yielded ops a.tmps) = true) (hS : S w) (hy : ∀ w, S w → (execOp a.eval oi).run P w = .ok (.value v) w)
    (h : wpAnyH P md ops Q S fuel (listed.setIfInBounds i true) (a.put d v) w) : wpAnyH P md ops Q S (fuel + 1) listed a w := by
  subst hd
  exact wpAnyH_take hi hs hf hr hQ (.inl ⟨hw, hy⟩) hS h
/-- The last operation is carried out. -/
theorem store_wp {P : Program} {last : Oper} {o : Oper} {Q : Exit → Act → World → Prop} {a : Act} {w : World} {K : Act → World → Prop} (ho : last = o) (hK : K = fun a' w' => Q .normal a' w') (h : o.wp P a w K Q) : ThenLast P last Q .normal a w := by
  subst ho hK
  exact h
theorem forall_two {p : Nat → Prop} {i j : Nat} (hi : p i) (hj : p j) : ∀ k ∈ [i, j], p k := fun k hk => by
  rcases List.mem_cons.1 hk with rfl | hk
  · exact hi
  · rw [List.mem_singleton.1 hk]; exact hj
theorem forall_one {p : Nat → Prop} {i : Nat} (hi : p i) : ∀ k ∈ [i], p k := fun k hk => by rw [List.mem_singleton.1 hk]; exact hi
end
end Go.Proofs.Ytiihjlafhiaigaa
