/- Layer plain: the law's own Facts, Ref of facts; the reference's Same. – Layer test: isField, against, Holds. – Layer plain: the reference's Has, Holds and Meets. -/
import Derived.Test.YtiihjlafhiaigaaA9
import Derived.BigRegion
import Derived.Test.YtiihjlafhiaigaaA8
import Derived.Deep.RegionHeld3
import Derived.BigQuiet
namespace Go.Proofs.Ytiihjlafhiaigaa
section
open Go.RowKit
set_option maxRecDepth 100000

theorem cF_one (f : F4) : ∀ v ∈ cF f, v.oneCell' = true := fun v hv => by
  simp only [cF, List.mem_cons, List.not_mem_nil, or_false] at hv
  rcases hv with rfl | rfl | rfl | rfl <;> rfl
theorem In.four {w : World} {a : Option Addr} {n : Nat} {l : List F4} (h : In cF 4 w a n l) {j : Nat} {t : F4} (hj : l[j]? = some t) : ∃ b o, a = some ⟨b, o, none⟩ ∧ b < w.heap.size ∧
    w.cell? ⟨b, o + j * 4, none⟩ = some (.int .i64 t.1) ∧ w.cell? ⟨b, o + j * 4 + 1, none⟩ = some (.int .i64 t.2.1) ∧ w.cell? ⟨b, o + j * 4 + 2, none⟩ = some (.int .i64 t.2.2.1) ∧ w.cell? ⟨b, o + j * 4 + 3, none⟩ = some (.int .i64 t.2.2.2) := by
  obtain ⟨b, o, e, hb, hc⟩ := h.at_ hj
  exact ⟨b, o, e, hb, hc 0 _ rfl, hc 1 _ rfl, hc 2 _ rfl, hc 3 _ rfl⟩
theorem Row.pushB {α : Type} {cells : α → List Value} {e : TypeId} {size B : Nat} {l : List α} {P : Program} {t : TypeId} (T : Els P t e size) (hsz : ∀ x, (cells x).length = size) (h1 : ∀ x, ∀ u ∈ cells x, u.oneCell' = true) (ty : TypeId) {wr : World} {n cap : Nat} {a : Option Addr} (h : Row cells e size wr B (.slice a n cap) l) (hn : n = l.length) (hl : l.length ≤ 5000) (hB : B ≤ wr.heap.size) (x : α) (cs : Array Value) (hcs : cs.toList = cells x) :
    ∃ a' cap' w', (Builtin.append_ #[t, t] ty #[.slice a n cap, .slice (some ⟨wr.heap.size, 0, none⟩) 1 1]).run P (wr.alloc (.cells cs e)) = .ok (.slice a' (n + 1) cap') w' ∧
      Row cells e size w' B (.slice a' (n + 1) cap') (l ++ [x]) ∧ Kept (fun k => B ≤ k) wr w' := by
  subst hn
  have h2 : Row cells e size (wr.alloc (.cells cs e)) B (.slice a l.length cap) l := h.keptN ((Kept.refl _ _).alloc _)
  obtain ⟨v', w', r, o, k, _⟩ := append_any T ty h2 (At.lit wr e cs (cells x) hcs) (by rw [hsz, Nat.one_mul]) (h1 x) (by omega) (by simp; omega)
  have o2 : Row cells e size w' B v' (l ++ [x]) := by simpa [Row] using o
  obtain ⟨a', cap', e⟩ := o2.shape
  rw [List.length_append] at e
  subst e
  exact ⟨a', cap', w', r, o2, ((Kept.refl _ _).alloc _).trans k (fun i _ e => (h.lt i e).1)⟩
theorem infoR4 : (Try.prog.info? 94).map (fun i => (i.zero, i.size, i.bytes)) = some (some (.agg #[.int .i64 0, .int .i64 0, .int .i64 0, .int .i64 0]), 4, 32) := by kernel_rfl
theorem elsR4 : Els Try.prog 43 94 4 := Els.of Try.underlying43 infoR4 rfl (by decide) (by decide)
set_option maxHeartbeats 4000000 in
theorem refF_any {w : World} {a : Option Addr} {n c : Nat} {fs : List F4} (h : In cF 4 w a n fs) (hn : n ≤ 1000) :
    Calls Try.prog 18 #[.slice a n c] w fun e w' => ∃ a' c', e = .returned (.slice a' n c') ∧ In cF 4 w' a' n fs ∧ (∀ b, (Value.slice a' n c').ownBlock = some b → w.heap.size ≤ b) ∧ Kept Nil w w' := by
  have HIn := Lib.hid h
  clear h
  go_enter Try.func18, Try.ntmps18
  go_wp2_with fail
  go_loopw [3, 8] (fun v i wr => ∃ (j : Nat) (a' : Option Addr) (c' : Nat), j ≤ n ∧ i = .int .i64 j ∧ v = .slice a' j c' ∧ (fs.take j).length = j ∧ Row cF 94 4 wr w.heap.size (.slice a' j c') (fs.take j) ∧ Kept Nil w wr) (fun _ i _ => n - (intOf i).toNat)
  case atStart => exact ⟨0, none, 0, Nat.zero_le _, rfl, rfl, rfl, Row.nil _ _, Kept.refl _ _⟩
  case round =>
    obtain ⟨j, a', c', hj, rfl, rfl, hlj, hR, hK⟩ := hrel
    have HR := Lib.hid hR
    have HK := Lib.hid hK
    have HLJ := Lib.hid hlj
    clear hR hK hlj
    by_cases hjn : j < n
    · obtain ⟨⟨fi, fx, fy, fz⟩, hf⟩ : ∃ f, fs[j]? = some f := ⟨fs[j]'(by rw [HIn.out.1]; exact hjn), by simp⟩
      obtain ⟨b, o, rfl, hb, p0, p1, p2, p3⟩ := (HIn.out.kept HK.out).four hf
      have HT := Lib.hid (show fs.take (j + 1) = fs.take j ++ [(fi, fx, fy, fz)] from by rw [List.take_add_one, hf]; rfl)
      simp only at p0 p1 p2 p3
      have kb := (Kept.refl Nil wr).alloc (.cells #[.int .i64 fi, .int .i64 fx, .int .i64 fy, .int .i64 fz] 62)
      obtain ⟨a4, c4, w4, r4, row4, kk4⟩ := (HR.out.keptN kb).pushB elsR4 cF_len cF_one 43 HLJ.out.symm (by rw [HLJ.out]; omega) (Nat.le_trans HK.out.size kb.size) (fi, fx, fy, fz) #[.int .i64 fi, .int .i64 fx, .int .i64 fy, .int .i64 fz] rfl
      have hs4 : (wr.alloc (.cells #[.int .i64 fi, .int .i64 fx, .int .i64 fy, .int .i64 fz] 62)).heap.size = wr.heap.size + 1 := by simp
      rw [hs4] at r4
      have R4 := Lib.hid r4
      have H4 := Lib.hid (And.intro row4 ((HK.out.trans kb (fun _ _ e => e)).trans kk4 (fun i hi e => absurd hi (Nat.not_lt.2 e))))
      clear hf kb r4 row4 kk4 hs4
      go_wp2_with (at_builtin; refine wpList_append_run rfl (.tmp 12) (.tmp 18) 43 rfl _ _ rfl rfl R4.out ?_)
      go_roundw
      case rel =>
        refine ⟨j + 1, a4, c4, hjn, by go_num, rfl, by rw [HT.out, List.length_append, HLJ.out]; rfl, ?_, H4.out.2⟩
        rw [HT.out]; exact H4.out.1
      case measure => simp [intOf]; omega
    · obtain rfl : n = j := by omega
      have e1 : fs.take n = fs := List.take_of_length_le (by rw [HIn.out.1]; exact Nat.le_refl _)
      rw [e1] at HR
      go_wp2_with fail
      go_ret
      exact ⟨a', c', rfl, HR.out.toIn cF_len (by decide), fun b hb => (HR.out.lt b hb).1, HK.out⟩
/-- Facts of triples. -/
def factsM (by' : Int) (l : List T3) : List F4 := l.zipIdx.map fun p => (1 + (p.2 : Int) * by', p.1)
theorem factsM_len (d : Int) (l : List T3) : (factsM d l).length = l.length := by unfold factsM; simp
theorem factsM_get {d : Int} {l : List T3} {j : Nat} {t : T3} (h : l[j]? = some t) : (factsM d l)[j]? = some (1 + (j : Int) * d, t) := by
  unfold factsM
  rw [List.getElem?_map, List.getElem?_zipIdx, h]
  simp
theorem factsM_take_succ {d : Int} {l : List T3} {j : Nat} {t : T3} (h : l[j]? = some t) : (factsM d l).take (j + 1) = (factsM d l).take j ++ [(1 + (j : Int) * d, t)] := by
  rw [List.take_add_one, factsM_get h]; rfl
theorem factsM_ok {d : Int} {l : List T3} (h : ∀ t ∈ l, okT t = true) : ∀ f ∈ factsM d l, okT f.2 = true := fun f hf => by
  unfold factsM at hf
  obtain ⟨p, hp, rfl⟩ := List.mem_map.1 hf
  exact h _ (List.fst_mem_of_mem_zipIdx hp)
theorem infoA4 : (Try.prog.info? 62).map (fun i => (i.zero, i.size, i.bytes)) = some (some (.agg #[.int .i64 0, .int .i64 0, .int .i64 0, .int .i64 0]), 4, 32) := by kernel_rfl
theorem elsA4 : Els Try.prog 28 62 4 := Els.of Try.underlying28 infoA4 rfl (by decide) (by decide)
/-- The facts, or nothing. -/
def FactsEnd (d : Int) (l : List T3) (w : World) (e : Ending) (w' : World) : Prop :=
  Kept Nil w w' ∧ ((∃ a c, e = .returned (.tuple #[.slice a l.length c, .bool true]) ∧ Row cF 62 4 w' w.heap.size (.slice a l.length c) (factsM d l) ∧ ∀ t ∈ l, okT t = true) ∨ e = .returned (.tuple #[.slice none 0 0, .bool false]))
set_option maxHeartbeats 4000000 in
theorem facts_any (l : List T3) (a : Option Addr) (n c : Nat) (d : Nat) (hd : d ≤ 2) (hn : n ≤ 1000) (w : World) (h : In cT3 3 w a n l) :
    Calls Try.prog 11 #[.slice a n c, .int .i64 d] w (FactsEnd d l w) := by
  have HIn := Lib.hid h
  clear h
  go_enter Try.func11, Try.ntmps11
  go_wp2_with fail
  go_loopw [6, 11] (fun v i wr => ∃ (j : Nat) (a' : Option Addr) (c' : Nat), j ≤ n ∧ i = .int .i64 j ∧ v = .slice a' j c' ∧ ((factsM d l).take j).length = j ∧ Row cF 62 4 wr w.heap.size (.slice a' j c') ((factsM d l).take j) ∧ (∀ t ∈ l.take j, okT t = true) ∧ Kept Nil w wr) (fun _ i _ => n - (intOf i).toNat)
  case atStart => exact ⟨0, none, 0, Nat.zero_le _, rfl, rfl, rfl, Row.nil _ _, fun t ht => (by simp at ht), Kept.refl _ _⟩
  case round =>
    obtain ⟨j, a', c', hj, rfl, rfl, hlj, hR, hok, hK⟩ := hrel
    have HR := Lib.hid hR
    have HK := Lib.hid hK
    have HLJ := Lib.hid hlj
    have HOk := Lib.hid hok
    clear hR hK hlj hok
    by_cases hjn : j < n
    · obtain ⟨⟨fx, fy, fz⟩, hf⟩ : ∃ f, l[j]? = some f := ⟨l[j]'(by rw [HIn.out.1]; exact hjn), by simp⟩
      obtain ⟨b, o, rfl, hb, p0, p1, p2⟩ := (HIn.out.kept HK.out).three hf
      have HT := Lib.hid (factsM_take_succ (d := d) hf)
      have HL := Lib.hid (show l.take (j + 1) = l.take j ++ [(fx, fy, fz)] from by rw [List.take_add_one, hf]; rfl)
      simp only at p0 p1 p2
      have CR : Hid (∀ W, Calls Try.prog 30 #[.agg #[.int .i64 fx, .int .i64 fy, .int .i64 fz]] W fun e w' => e = .returned (.bool (okT (fx, fy, fz))) ∧ Kept Nil W w') := Lib.hid fun W => refTri_any (fx, fy, fz) W
      have kb := (Kept.refl Nil wr).alloc (.cells #[.int .i64 fx, .int .i64 fy, .int .i64 fz] 56)
      have KB := Lib.hid kb
      have BX := Lib.hid (Blk.new wr 56 #[.int .i64 fx, .int .i64 fy, .int .i64 fz])
      clear hf kb
      go_wp2_with fail
      refine (CR.out _).mono ?_
      rintro e w2 ⟨rfl, k2⟩
      have K2 := Lib.hid ((HK.out.trans KB.out (fun _ _ e => e)).trans k2 (fun _ _ e => e))
      have B2 := Lib.hid (BX.out.kept k2 (fun e => e))
      have HR2 := Lib.hid ((HR.out.keptN KB.out).keptN k2)
      clear k2 p0 p1 p2 BX KB
      cases hq : okT (fx, fy, fz)
      · go_wp2_with fail
        go_ret2
        exact ⟨K2.out, .inr rfl⟩
      · have y0 := B2.out.cell 0
        have y1 := B2.out.cell 1
        have y2 := B2.out.cell 2
        simp at y0 y1 y2
        have HQ := Lib.hid hq
        obtain ⟨id, hid⟩ : ∃ id : Nat, 1 + j * d = id := ⟨_, rfl⟩
        have hjd : j * d ≤ 2000 := Nat.le_trans (Nat.mul_le_mul (show j ≤ 1000 by omega) hd) (by decide)
        have hid2 : (j : Int) * (d : Int) = ((j * d : Nat) : Int) := by push_cast; rfl
        have HId := Lib.hid (show 1 + (j : Int) * (d : Int) = (id : Int) by rw [hid2]; omega)
        generalize hjd' : j * d = jd at *
        obtain ⟨a4, c4, w4, r4, row4, kk4⟩ := HR2.out.pushB elsA4 cF_len cF_one 28 HLJ.out.symm (by rw [HLJ.out]; omega) K2.out.size ((id : Int), (fx, fy, fz)) #[.int .i64 id, .int .i64 fx, .int .i64 fy, .int .i64 fz] rfl
        have R4 := Lib.hid r4
        have H4 := Lib.hid (And.intro row4 (K2.out.trans kk4 (fun i hi e => absurd hi (Nat.not_lt.2 e))))
        have hidi : (1 : Int) + (jd : Int) = (id : Int) := by omega
        clear hq r4 row4 kk4 hid hjd'
        go_wp2_with (at_builtin; refine wpList_append_run rfl (.tmp 19) (.tmp 26) 28 rfl _ _ rfl rfl R4.out ?_)
        go_roundw
        case rel =>
          refine ⟨j + 1, a4, c4, hjn, by go_num, rfl, by rw [HT.out, List.length_append, HLJ.out]; rfl, ?_, fun t ht => ?_, H4.out.2⟩
          · rw [HT.out, HId.out]; exact H4.out.1
          · rw [HL.out] at ht
            rcases List.mem_append.1 ht with ht | ht
            · exact HOk.out t ht
            · rw [List.mem_singleton.1 ht]; exact HQ.out
        case measure => simp [intOf]; omega
    · obtain rfl : n = j := by omega
      have e1 : l.take n = l := List.take_of_length_le (by rw [HIn.out.1]; exact Nat.le_refl _)
      have e2 : (factsM d l).take n = factsM d l := List.take_of_length_le (by rw [factsM_len, HIn.out.1]; exact Nat.le_refl _)
      rw [e1] at HOk
      rw [e2] at HR
      go_wp2_with fail
      go_ret2
      refine ⟨HK.out, .inl ⟨a', c', ?_, ?_, HOk.out⟩⟩
      · rw [HIn.out.1]; rfl
      · rw [HIn.out.1]; exact HR.out
end
section
open Go.RowKit
set_option maxRecDepth 100000

abbrev vT (x : Tst) : Value := .agg #[.int .i64 x.1, .int .i64 x.2.1, .int .i64 x.2.2]
theorem isFieldT_any (f : Int) (hf : 0 ≤ f ∧ f ≤ 2) (w : World) : Calls Try.prog 88 #[.int .i64 f] w fun e w' => e = .returned (.bool true) ∧ w = w' := by
  obtain ⟨l, u⟩ := hf
  go_enter Try.func88, Try.ntmps88
  go_wp2_with fail
  go_ret
  exact ⟨rfl, rfl⟩
theorem results_pairT {fn : Func} {p q : Tmp} (h : fn.results = #[.cell p 56, .tmp q]) (tmps : Array Value) (w : World) (g : Nat) (x y z v : Value)
    (hp : tmps.getD p undef = .pointer (some ⟨g, 0, none⟩)) (hq : tmps.getD q undef = v) (hg : Blk w g 56 #[x, y, z]) :
    (results fn tmps).run Try.prog w = .ok (.tuple #[.agg #[x, y, z], v]) w := by
  have hp' : tmps[p]?.getD undef = .pointer (some ⟨g, 0, none⟩) := by simpa using hp
  have hq' : tmps[q]?.getD undef = v := by simpa using hq
  have hr := run_loadVar_row (P := Try.prog) w g _ _ _ _ _ hg Try.underlying56 rfl (by kernel_rfl)
  simp [results, h, hp', hq', asAddr, hr]
abbrev z3v : Array Value := #[.int .i64 0, .int .i64 0, .int .i64 0]
theorem blk_set3 {W : World} {X : Nat} {t : TypeId} {c0 c1 c2 : Value} (b : Blk W X t #[c0, c1, c2]) (v0 v1 v2 : Value) : Blk (((W.setCell ⟨X, 0, none⟩ v0).setCell ⟨X, 1, none⟩ v1).setCell ⟨X, 2, none⟩ v2) X t #[v0, v1, v2] := by
  simpa using ((b.set_ 0 v0).set_ 1 v1).set_ 2 v2
theorem blk_at {W : World} {X : Nat} {t : TypeId} {cs : Array Value} (h : W.heap.size = X) : Blk (W.alloc (.cells cs t)) X t cs := by subst h; exact Blk.new _ _ _
theorem Kept.set3 {F : Nat → Prop} {a W : World} {X : Nat} (h : Kept F a W) (hX : F X ∨ a.heap.size ≤ X) (v0 v1 v2 : Value) : Kept F a (((W.setCell ⟨X, 0, none⟩ v0).setCell ⟨X, 1, none⟩ v1).setCell ⟨X, 2, none⟩ v2) :=
  ((h.setCell _ hX _).setCell _ hX _).setCell _ hX _
def AgEnd (x : Tst) (bk : List T3) (t : T3) (w : World) (e : Ending) (w' : World) : Prop := e = .returned (.tuple #[av ((backT x bk t).getD (0, 0, 0)), .bool (backT x bk t).isSome]) ∧ Kept Nil w w'
/-- What stands in memory when against begins. -/
structure AG (w : World) (x : Tst) (t : T3) (W : World) : Prop where
  kept : Kept Nil w W
  b0 : Blk W w.heap.size 90 #[.int .i64 x.1, .int .i64 x.2.1, .int .i64 x.2.2]
  b1 : Blk W (w.heap.size + 1) 56 #[.int .i64 t.1, .int .i64 t.2.1, .int .i64 t.2.2]
  b2 : Blk W (w.heap.size + 1 + 1) 56 z3v
theorem AG.start (w : World) (x : Tst) (t : T3) : AG w x t (((w.alloc (.cells #[.int .i64 x.1, .int .i64 x.2.1, .int .i64 x.2.2] 90)).alloc (.cells #[.int .i64 t.1, .int .i64 t.2.1, .int .i64 t.2.2] 56)).alloc (.cells z3v 56)) :=
  ⟨(((Kept.refl Nil w).alloc _).alloc _).alloc _, ((Blk.new w _ _).alloc _).alloc _, (blk_at (by simp)).alloc _, blk_at (by simp)⟩
set_option maxHeartbeats 4000000 in
theorem against_any (x : Tst) (bk : List T3) (t : T3) (a : Option Addr) (n c : Nat) (hx : -1 ≤ x.2.1) (hn : n ≤ maxLen) (w : World) (h : In cT3 3 w a n bk) :
    Calls Try.prog 87 #[vT x, .slice a n c, av t] w (AgEnd x bk t w) := by
  obtain ⟨f, b, g⟩ := x
  obtain ⟨t1, t2, t3⟩ := t
  have hn1 := hn
  unfold maxLen at hn1
  have HN := Lib.hid h.1
  simp only at hx
  have hA := AG.start w (f, b, g) (t1, t2, t3)
  have HH := Lib.hid (h.kept hA.kept)
  clear h
  go_enter Try.func87, Try.ntmps87
  go_upto_region 1 with fail
  simp only [z3v] at hA HH
  generalize ((w.alloc (.cells #[.int .i64 f, .int .i64 b, .int .i64 g] 90)).alloc (.cells #[.int .i64 t1, .int .i64 t2, .int .i64 t3] 56)).alloc (.cells #[.int .i64 0, .int .i64 0, .int .i64 0] 56) = W at *
  have q1 := hA.b0.cell 1
  have r0 := hA.b1.cell 0
  have r1 := hA.b1.cell 1
  have r2 := hA.b1.cell 2
  have f0 := hA.b2.frozen 0
  have f1 := hA.b2.frozen 1
  have f2 := hA.b2.frozen 2
  have z0 := hA.b2.cell 0
  have z1 := hA.b2.cell 1
  have z2 := hA.b2.cell 2
  simp at q1 r0 r1 r2 z0 z1 z2
  have HA := Lib.hid hA
  have HX := Lib.hid hA.b2
  have HK := Lib.hid hA.kept
  clear hA
  by_cases e1 : b = -1
  · subst e1
    go_wp2_with fail
    exact bodyPost_ret (results_pairT Try.results87 _ _ _ _ _ _ (.bool true) rfl rfl (blk_set3 HX.out _ _ _)) rfl ⟨rfl, HK.out.set3 (.inr (by omega)) _ _ _⟩
  · have n1 : (b == -1) = false := beq_eq_false_iff_ne.2 e1
    obtain ⟨m, rfl⟩ : ∃ m : Nat, b = (m : Int) := ⟨b.toNat, by omega⟩
    have HB := Lib.hid (show backT (f, (m : Int), g) bk (t1, t2, t3) = bk[m]? from by
      unfold backT
      rw [if_neg (show ¬ ((f, (m : Int), g) : Tst).2.1 = -1 from e1), if_pos (show (0 : Int) ≤ ((f, (m : Int), g) : Tst).2.1 from by show (0 : Int) ≤ (m : Int); omega)]
      show bk[((m : Int)).toNat]? = _
      rw [Int.toNat_natCast])
    clear e1 hx
    by_cases hm : m < n
    · obtain ⟨⟨u1, u2, u3⟩, hu⟩ : ∃ u, bk[m]? = some u := ⟨bk[m]'(by rw [HN.out]; exact hm), by simp⟩
      obtain ⟨bb, o, rfl, hb, y0, y1, y2⟩ := HH.out.three hu
      have HU := Lib.hid (HB.out.trans hu)
      simp only at y0 y1 y2
      clear hu
      go_wp2_with fail
      refine bodyPost_ret (results_pairT Try.results87 _ _ _ _ _ _ (.bool true) rfl rfl (blk_set3 HX.out _ _ _)) rfl ⟨?_, HK.out.set3 (.inr (by omega)) _ _ _⟩
      rw [HU.out]; rfl
    · have HU := Lib.hid (HB.out.trans (List.getElem?_eq_none (by rw [HN.out]; omega)))
      have hd : decide (m < n) = false := decide_eq_false hm
      go_wp2_with fail
      refine bodyPost_ret (results_pairT Try.results87 _ _ _ _ _ _ (.bool false) rfl rfl (blk_set3 HX.out _ _ _)) rfl ⟨?_, HK.out.set3 (.inr (by omega)) _ _ _⟩
      rw [HU.out]; rfl
theorem kept_in (w : World) : ∀ W W', Kept Nil w W → Kept Nil W W' → Kept Nil w W' := fun _ _ h k => h.trans k (fun _ _ e => e)
theorem call_in_same2 {P : Program} {f : FuncId} {args : Array Value} {C : World → Prop} {n : CW C} {v : Value}
    (h : Calls P f args n.w fun e w' => e = .returned v ∧ n.w = w') : Calls P f args n.w fun e w' => e = .returned v ∧ ∃ m : CW C, w' = m.w := call_in_same h
/-- The cell of a field. -/
theorem fld_cell {W : World} {X : Nat} {t : T3} {T : TypeId} (h : Blk W X T #[.int .i64 t.1, .int .i64 t.2.1, .int .i64 t.2.2]) {f : Nat} (hf : f ≤ 2) : W.cell? ⟨X, f, none⟩ = some (.int .i64 (fld t f)) := by
  have : f = 0 ∨ f = 1 ∨ f = 2 := by omega
  rcases this with rfl | rfl | rfl
  · exact h.cell 0
  · exact h.cell 1
  · exact h.cell 2
theorem tHold_some {x : Tst} {bk : List T3} {t u : T3} (h : backT x bk t = some u) : tHold bk t x = decide (fld t x.1 = fld u x.2.2) := by unfold tHold; rw [h]
theorem tHold_none {x : Tst} {bk : List T3} {t : T3} (h : backT x bk t = none) : tHold bk t x = false := by unfold tHold; rw [h]
set_option maxHeartbeats 8000000 in
theorem holds_any (x : Tst) (bk : List T3) (t : T3) (a : Option Addr) (n c : Nat) (hx : -1 ≤ x.2.1) (hf : tFine x) (hn : n ≤ maxLen) (w : World) (h : In cT3 3 w a n bk) :
    Calls Try.prog 78 #[vT x, .slice a n c, av t] w fun e w' => e = .returned (.bool (tHold bk t x)) ∧ Kept Nil w w' := by
  have hk0 := ((Kept.refl Nil w).alloc (.cells #[.int .i64 x.1, .int .i64 x.2.1, .int .i64 x.2.2] 90)).alloc (.cells #[.int .i64 t.1, .int .i64 t.2.1, .int .i64 t.2.2] 56)
  have CA := Lib.hid (against_any x bk t a n c hx hn _ (h.kept hk0))
  have K0 := Lib.hid hk0
  have B0 := Lib.hid ((Blk.new w 90 #[.int .i64 x.1, .int .i64 x.2.1, .int .i64 x.2.2]).alloc (.cells #[.int .i64 t.1, .int .i64 t.2.1, .int .i64 t.2.2] 56))
  have B1 : Hid (Blk ((w.alloc (.cells #[.int .i64 x.1, .int .i64 x.2.1, .int .i64 x.2.2] 90)).alloc (.cells #[.int .i64 t.1, .int .i64 t.2.1, .int .i64 t.2.2] 56)) (w.heap.size + 1) 56 #[.int .i64 t.1, .int .i64 t.2.1, .int .i64 t.2.2]) := Lib.hid (blk_at (by simp))
  have H1 : tHold bk t x = ((backT x bk t).isSome && decide (fld t x.1 = fld ((backT x bk t).getD (0, 0, 0)) x.2.2)) := by unfold tHold; cases backT x bk t <;> rfl
  unfold AgEnd at CA
  generalize (backT x bk t).getD (0, 0, 0) = u at *
  generalize (backT x bk t).isSome = r at *
  generalize tHold bk t x = q at *
  have HQ := Lib.hid H1
  obtain ⟨f, b, g⟩ := x
  obtain ⟨t1, t2, t3⟩ := t
  obtain ⟨⟨hf0, hf2⟩, hg0, hg2⟩ := hf
  clear h H1 hk0
  simp only at hf0 hf2 hg0 hg2
  have CF := Lib.hid (fun W => isFieldT_any f ⟨hf0, hf2⟩ W)
  have CG := Lib.hid (fun W => isFieldT_any g ⟨hg0, hg2⟩ W)
  go_enter Try.func78, Try.ntmps78
  go_wp2_with fail
  refine CA.out.mono ?_
  rintro e w1 ⟨rfl, k1⟩
  have hsz : w.heap.size + 1 + 1 ≤ w1.heap.size := by simpa using k1.size
  have K1 := Lib.hid (K0.out.trans k1 (fun _ _ e => e))
  have B01 := Lib.hid (B0.out.kept k1 (fun e => e))
  have B11 := Lib.hid (B1.out.kept k1 (fun e => e))
  obtain ⟨f, rfl⟩ : ∃ m : Nat, f = (m : Int) := ⟨f.toNat, by omega⟩
  obtain ⟨g, rfl⟩ : ∃ m : Nat, g = (m : Int) := ⟨g.toNat, by omega⟩
  have hf3 : f ≤ 2 := by omega
  have hg3 : g ≤ 2 := by omega
  have hf3' : (f : Int) < 3 := by omega
  have hg3' : (g : Int) < 3 := by omega
  clear k1 B0 B1 CA K0
  obtain ⟨u1, u2, u3⟩ := u
  go_upto_region 2 with fail
  have B2 := Lib.hid (Blk.new w1 56 #[.int .i64 u1, .int .i64 u2, .int .i64 u3])
  have K2 := Lib.hid ((Kept.refl Nil w1).alloc (.cells #[.int .i64 u1, .int .i64 u2, .int .i64 u3] 56))
  have B02 := Lib.hid (B01.out.kept K2.out (fun e => e))
  have B12 := Lib.hid (B11.out.kept K2.out (fun e => e))
  generalize w1.alloc (.cells #[.int .i64 u1, .int .i64 u2, .int .i64 u3] 56) = W at *
  have c0 : ∀ n : CW (Kept Nil W), n.w.cell? ⟨w.heap.size, 0, none⟩ = some (.int .i64 (f : Int)) := fun n => (B02.out.kept n.of (fun e => e)).cell 0
  have c2 : ∀ n : CW (Kept Nil W), n.w.cell? ⟨w.heap.size, 2, none⟩ = some (.int .i64 (g : Int)) := fun n => (B02.out.kept n.of (fun e => e)).cell 2
  have e0 : ∀ n : CW (Kept Nil W), n.w.cell? ⟨w.heap.size + 1, f, none⟩ = some (.int .i64 (fld (t1, t2, t3) f)) := fun n => fld_cell (t := (t1, t2, t3)) (B12.out.kept n.of (fun e => e)) hf3
  have e1 : ∀ n : CW (Kept Nil W), n.w.cell? ⟨w1.heap.size, g, none⟩ = some (.int .i64 (fld (u1, u2, u3) g)) := fun n => fld_cell (t := (u1, u2, u3)) (B2.out.kept n.of (fun e => e)) hg3
  have CFn := Lib.hid (fun n : CW (Kept Nil W) => CF.out n.w)
  have CGn := Lib.hid (fun n : CW (Kept Nil W) => CG.out n.w)
  replace HQ : Hid (q = (r && decide (fld (t1, t2, t3) f = fld (u1, u2, u3) g))) := HQ
  generalize fld (t1, t2, t3) f = y1 at *
  generalize fld (u1, u2, u3) g = y2 at *
  refine wp_region_in (Kept Nil W) (by kernel_rfl) (by kernel_rfl) ((Kept.refl _ _).drew) ?_
  have inst : Nonempty (CW (Kept Nil W)) := ⟨⟨W, Kept.refl _ _⟩⟩
  cases r with
  | false =>
    repeat (go_big_quiet_step (first | (go_at_call 88; first | exact call_in_same (CFn.out _) | exact call_in_same (CGn.out _))))
    refine wpQuiet_nil ?_
    rintro _ ⟨n, rfl⟩
    go_wp2_with fail
    go_ret
    exact ⟨ret_bool (by rw [HQ.out]; rfl), (K1.out.trans K2.out (fun _ _ e => e)).trans n.of (fun _ _ e => e)⟩
  | true =>
    repeat (go_big_quiet_step (first | (go_at_call 88; first | exact call_in_same (CFn.out _) | exact call_in_same (CGn.out _))))
    refine wpQuiet_nil ?_
    rintro _ ⟨n, rfl⟩
    go_wp2_with fail
    go_ret
    exact ⟨ret_bool (by rw [HQ.out]; rfl), (K1.out.trans K2.out (fun _ _ e => e)).trans n.of (fun _ _ e => e)⟩
end
section
open Go.RowKit
set_option maxRecDepth 100000

set_option maxHeartbeats 1000000 in
theorem refKHas_any (t k : T3) (w : World) :
    Calls Try.prog 58 #[av t, av k] w fun e w' => e = .returned (.bool (hasK t k)) ∧ Kept Nil w w' := by
  obtain ⟨a, b, c⟩ := t
  obtain ⟨x, y, z⟩ := k
  show Calls Try.prog 58 #[.agg #[.int .i64 a, .int .i64 b, .int .i64 c], .agg #[.int .i64 x, .int .i64 y, .int .i64 z]] w _
  have T : ∀ s k : Int, hasF s k = true → (k == 0) = true ∨ ((k == 0) = false ∧ (k == s) = true) := fun s k h => by
    by_cases h0 : k = 0
    · exact .inl (beq_iff_eq.2 h0)
    · exact .inr ⟨beq_eq_false_iff_ne.2 h0, beq_iff_eq.2 ((hasF_iff.1 h).resolve_left h0)⟩
  have N : ∀ s k : Int, hasF s k = false → (k == 0) = false ∧ (k == s) = false := fun s k h => ⟨beq_eq_false_iff_ne.2 (hasF_no h).1, beq_eq_false_iff_ne.2 (hasF_no h).2⟩
  cases h1 : hasF a x with
  | false =>
    have H := Lib.hid (hasK_bad1 (t := (a, b, c)) (k := (x, y, z)) h1)
    obtain ⟨n0, n1⟩ := N _ _ h1
    clear T N h1
    go_enter Try.func58, Try.ntmps58
    go_wp2
    go_ret
    exact ⟨ret_bool H.out.symm, ((Kept.refl _ _).alloc _).alloc _⟩
  | true =>
    cases h2 : hasF b y with
    | false =>
      have H := Lib.hid (hasK_bad2 (t := (a, b, c)) (k := (x, y, z)) h2)
      obtain ⟨n0, n1⟩ := N _ _ h2
      rcases T _ _ h1 with m0 | ⟨m0, m1⟩
      all_goals
        clear T N h1 h2
        go_enter Try.func58, Try.ntmps58
        go_wp2
        go_ret
        exact ⟨ret_bool H.out.symm, ((Kept.refl _ _).alloc _).alloc _⟩
    | true =>
      cases h3 : hasF c z with
      | false =>
        have H := Lib.hid (hasK_bad3 (t := (a, b, c)) (k := (x, y, z)) h3)
        obtain ⟨n0, n1⟩ := N _ _ h3
        rcases T _ _ h1 with m0 | ⟨m0, m1⟩ <;> rcases T _ _ h2 with o0 | ⟨o0, o1⟩
        all_goals
          clear T N h1 h2 h3
          go_enter Try.func58, Try.ntmps58
          go_wp2
          go_ret
          exact ⟨ret_bool H.out.symm, ((Kept.refl _ _).alloc _).alloc _⟩
      | true =>
        have H := Lib.hid (hasK_good (t := (a, b, c)) (k := (x, y, z)) h1 h2 h3)
        rcases T _ _ h1 with m0 | ⟨m0, m1⟩ <;> rcases T _ _ h2 with o0 | ⟨o0, o1⟩ <;> rcases T _ _ h3 with p0 | ⟨p0, p1⟩
        all_goals
          clear T N h1 h2 h3
          go_enter Try.func58, Try.ntmps58
          go_wp2
          go_ret
          exact ⟨ret_bool H.out.symm, ((Kept.refl _ _).alloc _).alloc _⟩


/-- What stands in memory when the reference's Holds begins. -/
structure RHo (w : World) (x : Tst) (t : T3) (W : World) : Prop where
  kept : Kept Nil w W
  b0 : Blk W w.heap.size 89 #[.int .i64 x.1, .int .i64 x.2.1, .int .i64 x.2.2]
  b1 : Blk W (w.heap.size + 1) 51 #[.int .i64 t.1, .int .i64 t.2.1, .int .i64 t.2.2]
theorem RHo.start (w : World) (x : Tst) (t : T3) : RHo w x t ((w.alloc (.cells #[.int .i64 x.1, .int .i64 x.2.1, .int .i64 x.2.2] 89)).alloc (.cells #[.int .i64 t.1, .int .i64 t.2.1, .int .i64 t.2.2] 51)) :=
  ⟨((Kept.refl Nil w).alloc _).alloc _, (Blk.new w _ _).alloc _, blk_at (by simp)⟩
set_option maxHeartbeats 4000000 in
theorem refHolds_any (x : Tst) (bk : List T3) (t : T3) (a : Option Addr) (n c : Nat) (hx : -1 ≤ x.2.1) (hf : tFine x) (_hn : n ≤ 100000) (w : World) (h : In cT3 3 w a n bk) :
    Calls Try.prog 59 #[vT x, .slice a n c, av t] w fun e w' => e = .returned (.bool (tHold bk t x)) ∧ Kept Nil w w' := by
  obtain ⟨f, b, g⟩ := x
  have HN := Lib.hid h.1
  obtain ⟨⟨hf0, hf2⟩, hg0, hg2⟩ := hf
  simp only at hx hf0 hf2 hg0 hg2
  obtain ⟨f, rfl⟩ : ∃ m : Nat, f = (m : Int) := ⟨f.toNat, by omega⟩
  obtain ⟨g, rfl⟩ : ∃ m : Nat, g = (m : Int) := ⟨g.toNat, by omega⟩
  have hf3 : f ≤ 2 := by omega
  have hg3 : g ≤ 2 := by omega
  have hf3' : (f : Int) < 3 := by omega
  have hg3' : (g : Int) < 3 := by omega
  have hA := RHo.start w ((f : Int), b, (g : Int)) t
  have HH := Lib.hid (h.kept hA.kept)
  clear h
  obtain ⟨t1, t2, t3⟩ := t
  go_enter Try.func59, Try.ntmps59
  go_upto_region 1 with fail
  simp only at hA HH
  generalize (w.alloc (.cells #[.int .i64 (f : Int), .int .i64 b, .int .i64 (g : Int)] 89)).alloc (.cells #[.int .i64 t1, .int .i64 t2, .int .i64 t3] 51) = W at *
  have HA := Lib.hid hA
  have q0 := hA.b0.cell 0
  have q1 := hA.b0.cell 1
  have q2 := hA.b0.cell 2
  simp at q0 q1 q2
  have y0 := fld_cell (t := (t1, t2, t3)) hA.b1 hf3
  have y1 := fld_cell (t := (t1, t2, t3)) hA.b1 hg3
  clear hA
  by_cases e1 : b = -1
  · subst e1
    have HV : Hid (tHold bk (t1, t2, t3) ((f : Int), -1, (g : Int)) = decide (fld (t1, t2, t3) f = fld (t1, t2, t3) g)) := Lib.hid tHold_own
    generalize fld (t1, t2, t3) (f : Int) = p1 at *
    generalize fld (t1, t2, t3) (g : Int) = p2 at *
    go_wp2_with fail
    go_quiet (fail)
    go_wp2_with fail
    go_ret
    exact ⟨ret_bool (by rw [HV.out]; rfl), HA.out.kept.drewN _⟩
  · have n1 : (b == -1) = false := beq_eq_false_iff_ne.2 e1
    obtain ⟨m, rfl⟩ : ∃ m : Nat, b = (m : Int) := ⟨b.toNat, by omega⟩
    clear e1 hx
    by_cases hm : m < n
    · obtain ⟨⟨u1, u2, u3⟩, hu⟩ : ∃ u, bk[m]? = some u := ⟨bk[m]'(by rw [HN.out]; exact hm), by simp⟩
      have HV : Hid (tHold bk (t1, t2, t3) ((f : Int), (m : Int), (g : Int)) = decide (fld (t1, t2, t3) f = fld (u1, u2, u3) g)) := Lib.hid (tHold_back hu)
      obtain ⟨bb, o, rfl, hb, z0, z1, z2⟩ := HH.out.three hu
      have z : W.cell? ⟨bb, o + m * 3 + g, none⟩ = some (.int .i64 (fld (u1, u2, u3) g)) := by
        have : g = 0 ∨ g = 1 ∨ g = 2 := by omega
        rcases this with rfl | rfl | rfl
        · exact z0
        · exact z1
        · exact z2
      have hd : decide (n ≤ m) = false := decide_eq_false (by omega)
      generalize fld (t1, t2, t3) (f : Int) = p1 at *
      generalize fld (u1, u2, u3) (g : Int) = p2 at *
      clear hu z0 z1 z2 y1
      go_wp2_with fail
      go_quiet (fail)
      go_wp2_with fail
      go_ret
      exact ⟨ret_bool (by rw [HV.out]; rfl), HA.out.kept.drewN _⟩
    · have HV : Hid (tHold bk (t1, t2, t3) ((f : Int), (m : Int), (g : Int)) = false) := Lib.hid (by
        unfold tHold backT
        rw [if_neg (show ¬ (((f : Int), (m : Int), (g : Int)) : Tst).2.1 = -1 from by show ¬ (m : Int) = -1; omega), if_pos (show (0 : Int) ≤ (((f : Int), (m : Int), (g : Int)) : Tst).2.1 from by show (0 : Int) ≤ (m : Int); omega)]
        show (match bk[((m : Int)).toNat]? with | some u => _ | none => _) = _
        rw [Int.toNat_natCast, List.getElem?_eq_none (by rw [HN.out]; omega)])
      have hd : decide (n ≤ m) = true := decide_eq_true (by omega)
      go_wp2_with fail
      go_ret
      exact ⟨ret_bool HV.out.symm, HA.out.kept⟩
theorem all_drop2 {p : Tst → Bool} {ts : List Tst} {j : Nat} {x : Tst} (h : ts[j]? = some x) : (ts.drop j).all p = (p x && (ts.drop (j + 1)).all p) := by
  obtain ⟨hl, e⟩ := List.getElem?_eq_some_iff.1 h
  rw [List.drop_eq_getElem_cons hl, e, List.all_cons]
/-- As the reference says: no Ncc. -/
def meetR (h : SH) (bk : List T3) (t : T3) : Bool := if h.k = 3 then false else hasK t (h.k0, h.k1, h.k2) && h.ts.all (tHold bk t)
theorem meetR_eq {h : SH} (hk : h.k = 1 ∨ h.k = 2 ∨ h.k = 3) (bk : List T3) (t : T3) : meetR h bk t = meetH h bk t := by
  unfold meetR meetH
  rcases hk with e | e | e
  · rw [if_neg (by omega), decide_eq_true (.inl e)]; rfl
  · rw [if_neg (by omega), decide_eq_true (.inr e)]; rfl
  · rw [if_pos e, decide_eq_false (by omega)]; rfl
set_option maxHeartbeats 4000000 in
theorem refMeets_any (h : SH) (bk : List T3) (t : T3) (hts : ∀ x ∈ h.ts, tFine x ∧ -1 ≤ x.2.1) (hl : h.ts.length ≤ 5000) (a : Option Addr) (n c : Nat) (hn : n ≤ 100000) (ok : Nat → Nat → Prop) (ta : Option Addr) (tc : Nat) (u : Value) (hu : ∃ a n c, u = .slice a n c) (w : World) (hi : In cT3 3 w a n bk) (ht : TsAt w ok (.slice ta h.ts.length tc) h.ts) :
    Calls Try.prog 37 #[vS h (.slice ta h.ts.length tc) u, .slice a n c, av t] w fun e w' => e = .returned (.bool (meetR h bk t)) ∧ Kept Nil w w' := by
  obtain ⟨ua, un, uc, rfl⟩ := hu
  obtain ⟨k, k0, k1, k2, ts⟩ := h
  simp only at hts hl ht ⊢
  have hK := (((Kept.refl Nil w).alloc (.cells #[.int .i64 k, .int .i64 k0, .int .i64 k1, .int .i64 k2, .slice ta ts.length tc, .slice ua un uc] 54)).alloc (.cells #[.int .i64 t.1, .int .i64 t.2.1, .int .i64 t.2.2] 51))
  have hB0 := (Blk.new w 54 #[.int .i64 k, .int .i64 k0, .int .i64 k1, .int .i64 k2, .slice ta ts.length tc, .slice ua un uc]).alloc (.cells #[.int .i64 t.1, .int .i64 t.2.1, .int .i64 t.2.2] 51)
  have hB1 : Blk ((w.alloc (.cells #[.int .i64 k, .int .i64 k0, .int .i64 k1, .int .i64 k2, .slice ta ts.length tc, .slice ua un uc] 54)).alloc (.cells #[.int .i64 t.1, .int .i64 t.2.1, .int .i64 t.2.2] 51)) (w.heap.size + 1) 51 #[.int .i64 t.1, .int .i64 t.2.1, .int .i64 t.2.2] := blk_at (by simp)
  have HV := Lib.hid (show meetR ⟨k, k0, k1, k2, ts⟩ bk t = if k = 3 then false else hasK t (k0, k1, k2) && ts.all (tHold bk t) from rfl)
  generalize meetR ⟨k, k0, k1, k2, ts⟩ bk t = v at *
  have CH := Lib.hid (fun W => refKHas_any t (k0, k1, k2) W)
  have CX := Lib.hid (fun (x : Tst) (hx : x ∈ ts) W (kW : Kept Nil w W) => refHolds_any x bk t a n c (hts x hx).2 (hts x hx).1 hn W (hi.kept kW))
  have HT := Lib.hid ht
  obtain ⟨tn, htn⟩ : ∃ tn, ts.length = tn := ⟨_, rfl⟩
  have HTN := Lib.hid htn
  rw [htn] at hl hK hB0 hB1 HT ⊢
  obtain ⟨t1, t2, t3⟩ := t
  simp only at hK hB0 hB1
  clear hi ht hts htn
  go_enter Try.func37, Try.ntmps37
  go_upto_region 1 with fail
  generalize (w.alloc (.cells #[.int .i64 k, .int .i64 k0, .int .i64 k1, .int .i64 k2, .slice ta tn tc, .slice ua un uc] 54)).alloc (.cells #[.int .i64 t1, .int .i64 t2, .int .i64 t3] 51) = W at *
  have HB0 := Lib.hid hB0
  have HB1 := Lib.hid hB1
  have HK := Lib.hid hK
  have z0 := hB0.cell 0
  have z1 := hB0.cell 1
  have z2 := hB0.cell 2
  have z3 := hB0.cell 3
  have y0 := hB1.cell 0
  have y1 := hB1.cell 1
  have y2 := hB1.cell 2
  simp at z0 z1 z2 z3 y0 y1 y2
  clear hK hB0 hB1
  by_cases e3 : k = 3
  · rw [if_pos e3] at HV
    subst e3
    go_wp2_with fail
    go_ret
    exact ⟨ret_bool HV.out.symm, HK.out⟩
  rw [if_neg e3] at HV
  have n3 : (k == 3) = false := beq_eq_false_iff_ne.2 e3
  clear e3
  generalize hasK (t1, t2, t3) (k0, k1, k2) = q1 at *
  go_wp2_with fail
  refine (CH.out _).mono ?_
  rintro e w1 ⟨rfl, k1'⟩
  have K1 := Lib.hid (HK.out.trans k1' (fun _ _ e => e))
  have HB01 := Lib.hid (HB0.out.kept k1' (fun e => e))
  have HB11 := Lib.hid (HB1.out.kept k1' (fun e => e))
  clear k1' z0 z1 z2 z3 y0 y1 y2 CH
  cases q1
  · go_wp2_with fail
    go_ret
    exact ⟨ret_bool (by rw [HV.out]; rfl), K1.out⟩
  have z4 := HB01.out.cell 4
  simp at z4
  rw [Bool.true_and] at HV
  go_wp2_with fail
  go_loopw [22] (fun i wr => ∃ j : Nat, j ≤ tn ∧ i = .int .i64 j ∧ ts.all (tHold bk (t1, t2, t3)) = (ts.drop j).all (tHold bk (t1, t2, t3)) ∧ Kept Nil w1 wr) (fun i _ => tn - (intOf i).toNat)
  case atStart => exact ⟨0, by omega, rfl, rfl, Kept.refl _ _⟩
  case round =>
    obtain ⟨j, hj, rfl, hch, hKr⟩ := hrel
    have HKr := Lib.hid hKr
    have HCh := Lib.hid hch
    have HB2 := Lib.hid (HB11.out.kept hKr (fun e => e))
    have K2 := Lib.hid (K1.out.trans hKr (fun _ _ e => e))
    clear hKr hch
    by_cases hlt : j < tn
    · obtain ⟨⟨f, b', g⟩, hx⟩ : ∃ x, ts[j]? = some x := ⟨_, List.getElem?_eq_getElem (by have := HTN.out; omega)⟩
      obtain ⟨b, o, rfl, hok, hr⟩ := (HT.out.keptN K2.out).at_ hx
      have HR : Hid (wr.rangeAt b (o + j * 3) (cT (f, b', g))) := Lib.hid hr
      have HN := Lib.hid (all_drop2 (p := tHold bk (t1, t2, t3)) hx)
      have KA := Lib.hid (K2.out.trans ((Kept.refl Nil wr).alloc (.cells #[.int .i64 f, .int .i64 b', .int .i64 g] 89)) (fun _ _ e => e))
      have CX1 := Lib.hid (CX.out (f, b', g) (List.mem_of_getElem? hx) _ KA.out)
      generalize tHold bk (t1, t2, t3) (f, b', g) = q at CX1 HN
      have y0 := HB2.out.cell 0
      have y1 := HB2.out.cell 1
      have y2 := HB2.out.cell 2
      have hbw : w.heap.size + 1 < wr.heap.size := HB2.out.lt
      simp at y0 y1 y2
      clear hx hr hok
      go_wp2_with ((with_reducible refine wpList_load_U rfl (.tmp 24) rfl _ _ rfl f b' g ?_ ?_)
                   · exact HR.out)
      refine CX1.out.mono ?_
      rintro e w2 ⟨rfl, k2⟩
      have K3 := Lib.hid (KA.out.trans k2 (fun _ _ g => g))
      have K13 := Lib.hid ((HKr.out.trans ((Kept.refl Nil wr).alloc (.cells #[.int .i64 f, .int .i64 b', .int .i64 g] 89)) (fun _ _ e => e)).trans k2 (fun _ _ g => g))
      clear k2
      cases q
      · go_wp2_with fail
        go_ret
        exact ⟨ret_bool (by rw [HV.out, HCh.out, HN.out]; rfl), K3.out⟩
      · go_wp2_with fail
        go_roundw
        case rel => exact ⟨j + 1, by omega, by go_num, by rw [HCh.out, HN.out]; rfl, K13.out⟩
        case measure => simp [intOf]; omega
    · obtain rfl : j = tn := by omega
      have HE : Hid ((ts.drop j).all (tHold bk (t1, t2, t3)) = true) := Lib.hid (by rw [List.drop_eq_nil_of_le (by have := HTN.out; omega)]; rfl)
      go_wp2_with fail
      go_ret
      exact ⟨ret_bool (by rw [HV.out, HCh.out, HE.out]), K2.out⟩
end
end Go.Proofs.Ytiihjlafhiaigaa
