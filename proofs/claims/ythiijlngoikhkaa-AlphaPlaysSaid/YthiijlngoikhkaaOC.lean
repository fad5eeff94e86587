/- A store: begin, Want, Drop. -/
import Derived.Test.YthiijlngoikhkaaOB
import Derived.Deep.DeepCutAuto
namespace Go.Proofs.Ythiijlngoikhkaa
open Go.RowKit Go.Maps Go.WideMaps
set_option maxRecDepth 100000

/-- A fact's cells. -/
abbrev F4 := Int × T3
def cF (x : F4) : List Value := [.int .i64 x.1, .int .i64 x.2.1, .int .i64 x.2.2.1, .int .i64 x.2.2.2]
theorem cF_len (x : F4) : (cF x).length = 4 := rfl
theorem cF_one (x : F4) : ∀ v ∈ cF x, v.oneCell' = true := fun v hv => by
  simp only [cF, List.mem_cons, List.not_mem_nil, or_false] at hv
  rcases hv with rfl | rfl | rfl | rfl <;> rfl
theorem In.keptA {α : Type} {cells : α → List Value} {size : Nat} {w w' : World} {a : Option Addr} {len cap : Nat} {xs : List α} {F : Nat → Prop} (h : In cells size w a len xs) (hk : Kept F w w') (hF : len = 0 ∨ ∀ b, (Value.slice a len cap).ownBlock = some b → ¬ F b) : In cells size w' a len xs := by
  rcases hF with e | hF
  · exact ⟨h.1, .inl e⟩
  · exact h.keptF hk hF
theorem In.four {w : World} {a : Option Addr} {len : Nat} {fs : List F4} (h : In cF 4 w a len fs) {j : Nat} {f : F4} (hj : fs[j]? = some f) : ∃ b o, a = some ⟨b, o, none⟩ ∧ b < w.heap.size ∧
    w.cell? ⟨b, o + j * 4, none⟩ = some (.int .i64 f.1) ∧ w.cell? ⟨b, o + j * 4 + 1, none⟩ = some (.int .i64 f.2.1) ∧ w.cell? ⟨b, o + j * 4 + 2, none⟩ = some (.int .i64 f.2.2.1) ∧ w.cell? ⟨b, o + j * 4 + 3, none⟩ = some (.int .i64 f.2.2.2) := by
  obtain ⟨b, o, e, hb, hc⟩ := h.at_ hj
  exact ⟨b, o, e, hb, hc 0 _ rfl, hc 1 _ rfl, hc 2 _ rfl, hc 3 _ rfl⟩

theorem setCell_alloc (w : World) (o : Obj) (a : Addr) (u : Value) (h : a.block < w.heap.size) : (w.alloc o).setCell a u = (w.setCell a u).alloc o := by
  have e : (w.alloc o).heap = w.heap.push o := rfl
  have e2 : ((w.setCell a u).alloc o).heap = (w.setCell a u).heap.push o := rfl
  have hh : ((w.alloc o).setCell a u).heap = ((w.setCell a u).alloc o).heap := by
    rw [e2]
    unfold World.setCell
    simp only [e]
    apply Array.ext_getElem?
    intro j
    rw [Array.getElem?_modify, Array.getElem?_push, Array.getElem?_push]
    simp only [Array.size_modify]
    split
    · rename_i hj
      subst hj
      rw [if_neg (by omega), if_neg (by omega), Array.getElem?_modify, if_pos rfl]
    · split
      · rfl
      · rw [Array.getElem?_modify, if_neg (by assumption)]
  show { (w.alloc o) with heap := ((w.alloc o).setCell a u).heap } = { (w.setCell a u) with heap := ((w.setCell a u).alloc o).heap }
  rw [hh]; rfl
theorem Stc.outerMade2 {w : World} {F : Nat → Prop} {p : Nat} {mm : Value} {g : T3 → Nat} {l : List T3} {L : List Mem} (h : Stc w F p mm (.map none) g l L) : Stc ((w.alloc (.map #[] 0)).setCell ⟨p, 2, none⟩ (.map (some w.heap.size))) (Fup F w ((w.alloc (.map #[] 0)).setCell ⟨p, 2, none⟩ (.map (some w.heap.size)))) p mm (.map (some w.heap.size)) g l L := by
  have e := setCell_alloc w (.map #[] 0) ⟨p, 2, none⟩ (.map (some w.heap.size)) h.tal.lt
  rw [e]; exact h.outerMade
section
variable {w : World} {F : Nat → Prop} {p : Nat} {mm x : Value} {g : T3 → Nat} {l : List T3} {L : List Mem}
set_option maxHeartbeats 8000000 in
theorem begin_some {bo : Nat} (h : Stc w F p mm (.map (some bo)) g l L) {k : T3} (hk : K3.ok k) (hm : mem L k = none) (hl5 : L.length ≤ 5000) {a : Option Addr} {n c : Nat} {fs : List F4} (hfs : In cF 4 w a n fs) (hw : ∀ f ∈ fs, (Lit.int .i64 f.1).wf = true) (hn : n ≤ 5000) (_hF : n = 0 ∨ ∀ b, (Value.slice a n c).ownBlock = some b → ¬ F b) :
    Calls Try.prog 34 #[.pointer (some ⟨p, 0, none⟩), av k, .slice a n c] w fun e w' => e = .returned (.tuple #[]) ∧ ∃ F' mm x g, Stc w' F' p mm x g l (L ++ [⟨k, 1, beg k fs⟩]) ∧ (∀ i, F' i → F i ∨ w.heap.size ≤ i) ∧ Kept F w w' := by
  have B1 := Lib.hid (Box.new w k)
  have h1 := Lib.hid (h.keptN B1.out.kept)
  have HW := Lib.hid hw
  have hIn1 := Lib.hid (hfs.kept B1.out.kept)
  have hnil := fun W : World => run_eql_map_nil (P := Try.prog) W _ _ _ (some bo) Try.underlying76
  clear hw hfs
  go_enter Try.func34, Try.ntmps34
  have cx := h1.out.tal.cell2
  go_upto_region 3 with fail
  generalize w.alloc (.cells #[.int .i64 k.1, .int .i64 k.2.1, .int .i64 k.2.2] 31) = W at *
  generalize w.heap.size = b at *
  have HS := h1
  have BX := Lib.hid B1.out.three
  have KW := Lib.hid (show Kept F w W from B1.out.kept.mono (fun _ _ e => e.elim))
  have HG := Lib.hid (fun i (hi : F i) => (Or.inl hi : F i ∨ w.heap.size ≤ i))
  have HIn := hIn1
  have HN := Lib.hid (SetM.new W)
  have HNK := Lib.hid ((Kept.refl Nil W).alloc (.map #[] 0))
  clear h1 hIn1 B1 hnil cx
  -- from here on one text for both ways
  clear h
  have hmm := @run_makeMap Try.prog
  go_wp2_with fail
  have hlt := HIn.out.1
  generalize hbi : W.heap.size = bi at *
  go_loopw [21] (fun i wr => ∃ j : Nat, j ≤ n ∧ i = .int .i64 j ∧ SetM wr bi (beg k (fs.take j)) ∧ Kept Nil W wr) (fun i _ => n - (intOf i).toNat)
  case atStart => exact ⟨0, Nat.zero_le _, rfl, HN.out, HNK.out⟩
  case round =>
    obtain ⟨j, hj, rfl, hS, hK⟩ := hrel
    have HT := Lib.hid hS
    have HK := Lib.hid hK
    clear hS hK
    have HB := Lib.hid (BX.out.kept HK.out (fun e => e))
    by_cases hjn : j < n
    · obtain ⟨f, hf⟩ : ∃ f, fs[j]? = some f := ⟨fs[j]'(by omega), by simp⟩
      obtain ⟨bf, o, e, hbf, f0, f1, f2, f3⟩ := (HIn.out.kept HK.out).four hf
      subst e
      have HF := Lib.hid hf
      have hfw := HW.out f (List.mem_of_getElem? hf)
      have ⟨b0, b1, b2⟩ := HB.out
      have hbl : b < wr.heap.size := World.block_lt_of_cell? wr _ b0
      obtain ⟨fi, f1', f2', f3'⟩ := f
      simp only at f0 f1 f2 f3 hfw
      clear hf
      go_wp2_with fail
      refine (has_any (f1', f2', f3') k _).mono ?_
      rintro e w4 ⟨rfl, k4⟩
      have K4 := Lib.hid (((Kept.refl Nil wr).alloc (.cells #[.int .i64 fi, .int .i64 f1', .int .i64 f2', .int .i64 f3'] 51)).trans k4 (fun _ _ e => e))
      have HT4 := Lib.hid (HT.out.kept K4.out (fun e => e))
      have q0 := (k4.cell (p := ⟨wr.heap.size, 0, none⟩) (by simp) (fun e => e)).trans (by go_simp : _ = some (Value.int .i64 fi))
      have hle4 : (beg k (fs.take j)).length ≤ 5000 := by
        have := beg_le k (fs.take j)
        have h2 : (fs.take j).length ≤ fs.length := List.length_take_le' ..
        omega
      have HE := Lib.hid (show beg k (fs.take (j + 1)) = if hasK (f1', f2', f3') k then put (beg k (fs.take j)) fi else beg k (fs.take j) from by
        rw [List.take_add_one, HF.out]
        exact beg_snoc k (fs.take j) (fi, f1', f2', f3'))
      clear k4 f0 f1 f2 f3 b0 b1 b2
      by_cases hh : hasK (f1', f2', f3') k = true
      · rw [hh]
        obtain ⟨w5, hrun, hs5, hk5⟩ := HT4.out.put hle4 hfw
        have H5 := Lib.hid (And.intro hs5 hk5)
        clear hs5 hk5
        go_wp2_with fail
        go_roundw
        case rel => exact ⟨j + 1, hjn, by go_num, by rw [HE.out, if_pos hh]; exact H5.out.1, (HK.out.trans K4.out (fun _ _ e => e)).trans H5.out.2 (fun i hi e => by rw [e, ← hbi] at hi; exact absurd hi (Nat.lt_irrefl _))⟩
        case measure => simp [intOf]; omega
      · have hh' : hasK (f1', f2', f3') k = false := by simpa using hh
        rw [hh']
        go_wp2_with fail
        go_roundw
        case rel => exact ⟨j + 1, hjn, by go_num, by rw [HE.out, if_neg hh]; exact HT4.out, HK.out.trans K4.out (fun _ _ e => e)⟩
        case measure => simp [intOf]; omega
    · obtain rfl : j = n := by omega
      have ⟨b0, b1, b2⟩ := HB.out
      have HS2 := Lib.hid (HS.out.keptN HK.out)
      have cx := HS2.out.tal.cell2
      have HT5 := Lib.hid (show SetM wr bi (beg k fs) from by have := HT.out; rwa [List.take_of_length_le (by omega)] at this)
      obtain ⟨w5, hrun, hk5, fo, hs5⟩ := (HS2.out.keptN ((Kept.refl _ _).drew)).begun hk hm (HT5.out.kept (F := Nil) ((Kept.refl _ _).drew) (fun e => e)) (fun e => by have := HS.out.inF _ e; omega) 1 hl5
      have H5 := Lib.hid (And.intro hs5 (And.intro hk5 fo))
      clear hs5 hk5 fo
      go_wp2_with fail
      go_region
      go_wp2
      go_end0
      obtain ⟨hs5, hk5, fo⟩ := H5.out
      refine ⟨rfl, _, _, _, _, hs5, fun i hi => ?_, ?_⟩
      · rcases hi with hi | rfl
        · exact HG.out i hi
        · right
          have := KW.out.size
          omega
      · exact (KW.out.trans HK.out (fun _ _ e => e.elim)).trans (((Kept.refl (fun i => i = bo) wr).drew).trans hk5 (fun i hi e => e)) (fun i hi e => by
          rcases HG.out i (by rw [e]; exact fo) with e2 | e2
          · exact e2
          · omega)
set_option maxHeartbeats 8000000 in
theorem begin_none (h : Stc w F p mm (.map none) g l L) {k : T3} (hk : K3.ok k) (hm : mem L k = none) (hl5 : L.length ≤ 5000) {a : Option Addr} {n c : Nat} {fs : List F4} (hfs : In cF 4 w a n fs) (hw : ∀ f ∈ fs, (Lit.int .i64 f.1).wf = true) (hn : n ≤ 5000) (_hF : n = 0 ∨ ∀ b, (Value.slice a n c).ownBlock = some b → ¬ F b) :
    Calls Try.prog 34 #[.pointer (some ⟨p, 0, none⟩), av k, .slice a n c] w fun e w' => e = .returned (.tuple #[]) ∧ ∃ F' mm x g, Stc w' F' p mm x g l (L ++ [⟨k, 1, beg k fs⟩]) ∧ (∀ i, F' i → F i ∨ w.heap.size ≤ i) ∧ Kept F w w' := by
  have B1 := Lib.hid (Box.new w k)
  have h1 := Lib.hid (h.keptN B1.out.kept)
  have HW := Lib.hid hw
  have hIn := Lib.hid hfs
  have hnil := fun W : World => run_eql_map_nil (P := Try.prog) W _ _ _ none Try.underlying76
  have hmm := @run_makeMap Try.prog
  clear hw hfs
  go_enter Try.func34, Try.ntmps34
  have cx := h1.out.tal.cell2
  have fx := h1.out.tal.free 2
  have hlt := h1.out.tal.lt
  have cxa : ((w.alloc (.cells #[.int .i64 k.1, .int .i64 k.2.1, .int .i64 k.2.2] 31)).alloc (.map #[] 0)).cell? ⟨p, 2, none⟩ = some (.map none) := by rw [World.cell?_alloc_past _ _ _ hlt]; exact cx
  have fxa : ((w.alloc (.cells #[.int .i64 k.1, .int .i64 k.2.1, .int .i64 k.2.2] 31)).alloc (.map #[] 0)).frozen? ⟨p, 2, none⟩ = false := by rw [World.frozen?_alloc_past _ _ _ hlt]; exact fx
  go_upto_region 3 with fail
  clear cx fx cxa fxa hlt
  have hpw : p < w.heap.size := h.inF p h.fp
  have HS := Lib.hid h1.out.outerMade2
  have BX := Lib.hid (B1.out.three.kept (((Kept.refl (fun i => i = p) _).alloc (.map #[] 0)).setCell ⟨p, 2, none⟩ (.inl rfl) (.map (some (w.heap.size + 1)))) (fun e => by omega))
  have KW := Lib.hid (((B1.out.kept.mono (G := F) (fun _ _ e => e.elim)).alloc (.map #[] 0)).setCell ⟨p, 2, none⟩ (.inl h.fp) (.map (some (w.heap.size + 1))))
  have hs1 : (w.alloc (.cells #[.int .i64 k.1, .int .i64 k.2.1, .int .i64 k.2.2] 31)).heap.size = w.heap.size + 1 := by simp
  rw [hs1] at HS
  have HIn := Lib.hid (hIn.out.keptA KW.out _hF)
  have HG0 : ∀ (W' : World) (i : Nat), Fup F (w.alloc (.cells #[.int .i64 k.1, .int .i64 k.2.1, .int .i64 k.2.2] 31)) W' i → F i ∨ w.heap.size ≤ i := fun W' i hi => hi.elim (fun e => .inl e) (fun e => .inr (by have := e.1; rw [hs1] at this; omega))
  generalize ((w.alloc (.cells #[.int .i64 k.1, .int .i64 k.2.1, .int .i64 k.2.2] 31)).alloc (.map #[] 0)).setCell ⟨p, 2, none⟩ (.map (some (w.heap.size + 1))) = W at *
  have HN := Lib.hid (SetM.new W)
  have HNK := Lib.hid ((Kept.refl Nil W).alloc (.map #[] 0))
  clear h1 B1 hnil hmm hs1 hpw hIn
  generalize hbw : w.heap.size = b at *
  have HG := Lib.hid (fun i (hi : Fup F _ W i) => (hbw.symm ▸ HG0 W i hi : F i ∨ w.heap.size ≤ i))
  clear HG0 hbw
  generalize hbo : b + 1 = bo at *
  -- from here on one text for both ways
  clear h
  have hmm := @run_makeMap Try.prog
  go_wp2_with fail
  have hlt := HIn.out.1
  generalize hbi : W.heap.size = bi at *
  go_loopw [21] (fun i wr => ∃ j : Nat, j ≤ n ∧ i = .int .i64 j ∧ SetM wr bi (beg k (fs.take j)) ∧ Kept Nil W wr) (fun i _ => n - (intOf i).toNat)
  case atStart => exact ⟨0, Nat.zero_le _, rfl, HN.out, HNK.out⟩
  case round =>
    obtain ⟨j, hj, rfl, hS, hK⟩ := hrel
    have HT := Lib.hid hS
    have HK := Lib.hid hK
    clear hS hK
    have HB := Lib.hid (BX.out.kept HK.out (fun e => e))
    by_cases hjn : j < n
    · obtain ⟨f, hf⟩ : ∃ f, fs[j]? = some f := ⟨fs[j]'(by omega), by simp⟩
      obtain ⟨bf, o, e, hbf, f0, f1, f2, f3⟩ := (HIn.out.kept HK.out).four hf
      subst e
      have HF := Lib.hid hf
      have hfw := HW.out f (List.mem_of_getElem? hf)
      have ⟨b0, b1, b2⟩ := HB.out
      have hbl : b < wr.heap.size := World.block_lt_of_cell? wr _ b0
      obtain ⟨fi, f1', f2', f3'⟩ := f
      simp only at f0 f1 f2 f3 hfw
      clear hf
      go_wp2_with fail
      refine (has_any (f1', f2', f3') k _).mono ?_
      rintro e w4 ⟨rfl, k4⟩
      have K4 := Lib.hid (((Kept.refl Nil wr).alloc (.cells #[.int .i64 fi, .int .i64 f1', .int .i64 f2', .int .i64 f3'] 51)).trans k4 (fun _ _ e => e))
      have HT4 := Lib.hid (HT.out.kept K4.out (fun e => e))
      have q0 := (k4.cell (p := ⟨wr.heap.size, 0, none⟩) (by simp) (fun e => e)).trans (by go_simp : _ = some (Value.int .i64 fi))
      have hle4 : (beg k (fs.take j)).length ≤ 5000 := by
        have := beg_le k (fs.take j)
        have h2 : (fs.take j).length ≤ fs.length := List.length_take_le' ..
        omega
      have HE := Lib.hid (show beg k (fs.take (j + 1)) = if hasK (f1', f2', f3') k then put (beg k (fs.take j)) fi else beg k (fs.take j) from by
        rw [List.take_add_one, HF.out]
        exact beg_snoc k (fs.take j) (fi, f1', f2', f3'))
      clear k4 f0 f1 f2 f3 b0 b1 b2
      by_cases hh : hasK (f1', f2', f3') k = true
      · rw [hh]
        obtain ⟨w5, hrun, hs5, hk5⟩ := HT4.out.put hle4 hfw
        have H5 := Lib.hid (And.intro hs5 hk5)
        clear hs5 hk5
        go_wp2_with fail
        go_roundw
        case rel => exact ⟨j + 1, hjn, by go_num, by rw [HE.out, if_pos hh]; exact H5.out.1, (HK.out.trans K4.out (fun _ _ e => e)).trans H5.out.2 (fun i hi e => by rw [e, ← hbi] at hi; exact absurd hi (Nat.lt_irrefl _))⟩
        case measure => simp [intOf]; omega
      · have hh' : hasK (f1', f2', f3') k = false := by simpa using hh
        rw [hh']
        go_wp2_with fail
        go_roundw
        case rel => exact ⟨j + 1, hjn, by go_num, by rw [HE.out, if_neg hh]; exact HT4.out, HK.out.trans K4.out (fun _ _ e => e)⟩
        case measure => simp [intOf]; omega
    · obtain rfl : j = n := by omega
      have ⟨b0, b1, b2⟩ := HB.out
      have HS2 := Lib.hid (HS.out.keptN HK.out)
      have cx := HS2.out.tal.cell2
      have HT5 := Lib.hid (show SetM wr bi (beg k fs) from by have := HT.out; rwa [List.take_of_length_le (by omega)] at this)
      obtain ⟨w5, hrun, hk5, fo, hs5⟩ := (HS2.out.keptN ((Kept.refl _ _).drew)).begun hk hm (HT5.out.kept (F := Nil) ((Kept.refl _ _).drew) (fun e => e)) (fun e => by have := HS.out.inF _ e; omega) 1 hl5
      have H5 := Lib.hid (And.intro hs5 (And.intro hk5 fo))
      clear hs5 hk5 fo
      go_wp2_with fail
      go_region
      go_wp2
      go_end0
      obtain ⟨hs5, hk5, fo⟩ := H5.out
      refine ⟨rfl, _, _, _, _, hs5, fun i hi => ?_, ?_⟩
      · rcases hi with hi | rfl
        · exact HG.out i hi
        · right
          have := KW.out.size
          omega
      · exact (KW.out.trans HK.out (fun _ _ e => e.elim)).trans (((Kept.refl (fun i => i = bo) wr).drew).trans hk5 (fun i hi e => e)) (fun i hi e => by
          rcases HG.out i (by rw [e]; exact fo) with e2 | e2
          · exact e2
          · omega)
end
end Go.Proofs.Ythiijlngoikhkaa
