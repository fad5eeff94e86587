/- The tally of a store: Add, Drop (out of XNtB). -/
import Derived.Test.YthiijlngoikhkaaOtA
import Derived.BigRegion
namespace Go.Proofs.Ythiijlngoikhkaa
open Go.RowKit Go.Maps Go.WideMaps
set_option maxRecDepth 100000

section
variable {P : Program} {κ : Type} [DecidableEq κ] {K : KT P κ} {e tT : TypeId} {w w1 w2 : World} {B p : Nat} {m x : Value} {l l' : List κ}
theorem TGrewX.from (g : TGrewX K e tT w1 w2 B p m x l) (k : Kept Nil w w1) : TGrewX K e tT w w2 B p m x l := by
  obtain ⟨m', r1, r2, r3⟩ := g
  exact ⟨m', r1, fun i hi => (r2 i hi).imp id (fun h => Nat.le_trans k.size h), (k.mono (fun _ _ e => e.elim)).trans r3 (fun _ _ e => e)⟩
theorem TalX.own {bm : Nat} (h : TalX K e tT w B p (.map (some bm)) x l) : ∃ D, w.ownsMap (H := Unit) P K.t (plainElem P e) bm l.length D ∧ Cnt K D l := by
  rcases h.mp with ⟨e, _⟩ | ⟨bm, D, e, _, ho, hc⟩
  · cases e
  · cases e; exact ⟨D, ho, hc⟩
end

/-- A block that holds a triple. -/
def B3 (w : World) (b : Nat) (k : T3) : Prop := w.cell? ⟨b, 0, none⟩ = some (.int .i64 k.1) ∧ w.cell? ⟨b, 1, none⟩ = some (.int .i64 k.2.1) ∧ w.cell? ⟨b, 2, none⟩ = some (.int .i64 k.2.2)
theorem Box.three {w w1 : World} {b : Nat} {k : T3} (h : Box w w1 b k) : B3 w1 b k := ⟨h.c0, h.c1, h.c2⟩
theorem B3.kept {w w' : World} {b : Nat} {k : T3} (h : B3 w b k) {F : Nat → Prop} (hk : Kept F w w') (hb : ¬ F b) : B3 w' b k := by
  have hl : b < w.heap.size := World.block_lt_of_cell? w _ h.1
  exact ⟨by rw [hk.cell hl hb]; exact h.1, by rw [hk.cell hl hb]; exact h.2.1, by rw [hk.cell hl hb]; exact h.2.2⟩

set_option maxHeartbeats 4000000 in
theorem add_t {w : World} {B p : Nat} {m x : Value} {l : List T3} (h : Talt w B p m x l) (hl : l.length < 10000) {k : T3} (hk : K3.ok k) :
    Calls Try.prog 33 #[.pointer (some ⟨p, 0, none⟩), .agg #[.int .i64 k.1, .int .i64 k.2.1, .int .i64 k.2.2]] w fun e w' => e = .returned (.int .i64 ((cnt k l : Int) + 1)) ∧ TGrewt w w' B p m x (l ++ [k]) := by
  have B1 := Lib.hid (Box.new w k)
  have h1 := Lib.hid (h.keptN B1.out.kept)
  have hpb : p < w.heap.size := h.lt
  clear h
  have hmm := @run_makeMap Try.prog
  have HN := Lib.hid (cnt_le k l)
  obtain ⟨n, hn⟩ : ∃ n, n = cnt k l := ⟨_, rfl⟩
  rw [← hn] at HN ⊢
  have HE := Lib.hid hn
  have hn1 : n ≤ l.length := HN.out
  have hkey := K3.key k hk
  have HK := Lib.hid hk
  clear hn hk
  go_enter Try.func33, Try.ntmps33
  go_wp2_with fail
  refine (find_t h1.out HK.out).mono ?_
  rintro e w2 ⟨rfl, k2⟩
  rw [← HE.out]
  have B2 := Lib.hid (B1.out.stepN k2)
  have h2 := Lib.hid (h1.out.keptN k2)
  clear k2 h1 B1
  have hpb2 : p < w.heap.size ∧ True := ⟨hpb, trivial⟩
  generalize w.heap.size = b at *
  rcases h2.out.mp with ⟨rfl, e⟩ | ⟨bm, D0, rfl, _⟩
  · have HT := Lib.hid h2.out.withMap
    have HF := fun w5 (hg : TGrewt ((w2.setCell ⟨p, 0, none⟩ (.map (some w2.heap.size))).alloc (.map #[] 0)) w5 B p (.map (some w2.heap.size)) x (l ++ [k])) => TGrewX.from (TGrewX.made hg) B2.out.kept
    have kk : Kept (fun i => i = p) w2 ((w2.setCell ⟨p, 0, none⟩ (.map (some w2.heap.size))).alloc (.map #[] 0)) := ((Kept.refl (fun i => i = p) w2).setCell ⟨p, 0, none⟩ (.inl rfl) _).alloc _
    have BX := Lib.hid (B2.out.three.kept kk (fun e => by omega))
    have hnil := fun W : World => run_eql_map_nil (P := Try.prog) W _ _ _ none Try.underlying73
    have c0' := h2.out.cell0
    have f0' := h2.out.free 0
    have hlt := h2.out.lt
    have c0a : (w2.alloc (.map #[] 0)).cell? ⟨p, 0, none⟩ = some (.map none) := by rw [World.cell?_alloc_past _ _ _ hlt]; exact c0'
    have f0a : (w2.alloc (.map #[] 0)).frozen? ⟨p, 0, none⟩ = false := by rw [World.frozen?_alloc_past _ _ _ hlt]; exact f0'
    clear kk e h2 B2
    go_wp2_with fail
    generalize (w2.setCell ⟨p, 0, none⟩ (.map (some w2.heap.size))).alloc (.map #[] 0) = W at *
    generalize w2.heap.size = bm at *
    clear c0' f0' c0a f0a hlt
    obtain ⟨D, ho, hc⟩ := HT.out.own
    obtain ⟨w5, hrun, ho5, hg5⟩ := (ho.drew).update (val := .int .i64 ((n : Int) + 1)) K3.keyed Try.underlying73 (by unfold maxLen; omega) hkey (plainElem_int Try.underlying3 (WalkArith.wf_i64 (by omega)))
    change (Instr.mapUpdate 73 (.map (some bm)) (.agg #[.int .i64 k.1, .int .i64 k.2.1, .int .i64 k.2.2]) (.int .i64 ((n : Int) + 1))).run Try.prog W.drew = .ok () w5 at hrun
    have hp5 := TalX.mapped (HT.out.keptN ((Kept.refl _ _).drew)) hg5
    have c0 := HT.out.cell0
    have c1 := HT.out.cell1
    have c05 : w5.cell? ⟨p, 0, none⟩ = some (.map (some bm)) := by simp [World.cell?, hp5]
    have c15 : w5.cell? ⟨p, 1, none⟩ = some (.int .i64 l.length) := by simp [World.cell?, hp5]
    have f15 : w5.frozen? ⟨p, 1, none⟩ = false := by simp [World.frozen?, hp5]
    have ⟨b0, b1, b2⟩ := BX.out
    have hfin := TalX.done (HT.out.keptN ((Kept.refl _ _).drew)) (q := (l.length : Int) + 1) hg5 (by rw [HE.out] at ho5; exact ho5) (hc.put HK.out) (by simp; omega) (fun x hx => by
      rcases List.mem_append.1 hx with hx | hx
      · exact HT.out.ok x hx
      · rw [List.mem_singleton.1 hx]; exact HK.out) (by simp)
    have HG := Lib.hid (HF _ (hfin.from ((Kept.refl _ _).drew)))
    clear hfin hc ho hg5 hp5 ho5
    go_region
    go_wp2
    go_ret
    exact ⟨rfl, HG.out⟩
  · have HT := h2
    have HF := fun w5 (hg : TGrewt w2 w5 B p (.map (some bm)) x (l ++ [k])) => TGrewX.from hg B2.out.kept
    have BX := Lib.hid B2.out.three
    have hnil := fun W : World => run_eql_map_nil (P := Try.prog) W _ _ _ (some bm) Try.underlying73
    have c0' := h2.out.cell0
    clear B2
    go_wp2_with fail
    clear c0' h2
    rename World => W
    obtain ⟨D, ho, hc⟩ := HT.out.own
    obtain ⟨w5, hrun, ho5, hg5⟩ := (ho.drew).update (val := .int .i64 ((n : Int) + 1)) K3.keyed Try.underlying73 (by unfold maxLen; omega) hkey (plainElem_int Try.underlying3 (WalkArith.wf_i64 (by omega)))
    change (Instr.mapUpdate 73 (.map (some bm)) (.agg #[.int .i64 k.1, .int .i64 k.2.1, .int .i64 k.2.2]) (.int .i64 ((n : Int) + 1))).run Try.prog W.drew = .ok () w5 at hrun
    have hp5 := TalX.mapped (HT.out.keptN ((Kept.refl _ _).drew)) hg5
    have c0 := HT.out.cell0
    have c1 := HT.out.cell1
    have c05 : w5.cell? ⟨p, 0, none⟩ = some (.map (some bm)) := by simp [World.cell?, hp5]
    have c15 : w5.cell? ⟨p, 1, none⟩ = some (.int .i64 l.length) := by simp [World.cell?, hp5]
    have f15 : w5.frozen? ⟨p, 1, none⟩ = false := by simp [World.frozen?, hp5]
    have ⟨b0, b1, b2⟩ := BX.out
    have hfin := TalX.done (HT.out.keptN ((Kept.refl _ _).drew)) (q := (l.length : Int) + 1) hg5 (by rw [HE.out] at ho5; exact ho5) (hc.put HK.out) (by simp; omega) (fun x hx => by
      rcases List.mem_append.1 hx with hx | hx
      · exact HT.out.ok x hx
      · rw [List.mem_singleton.1 hx]; exact HK.out) (by simp)
    have HG := Lib.hid (HF _ (hfin.from ((Kept.refl _ _).drew)))
    clear hfin hc ho hg5 hp5 ho5
    go_region
    go_wp2
    go_ret
    exact ⟨rfl, HG.out⟩

theorem drop_none_t {w : World} {B p : Nat} {m x : Value} {l : List T3} (h : Talt w B p m x l) {k : T3} (hk : K3.ok k) (hn : cnt k l = 0) :
    Calls Try.prog 38 #[.pointer (some ⟨p, 0, none⟩), .agg #[.int .i64 k.1, .int .i64 k.2.1, .int .i64 k.2.2]] w fun e w' => e = .returned (.tuple #[.int .i64 0, .int .i64 16]) ∧ Kept Nil w w' := by
  have B1 := Lib.hid (Box.new w k)
  have h1 := Lib.hid (h.keptN B1.out.kept)
  clear h
  have HN := Lib.hid hn
  clear hn
  go_enter Try.func38, Try.ntmps38
  go_wp2_with fail
  refine (count_t h1.out hk).mono ?_
  rintro e w2 ⟨rfl, k2⟩
  rw [HN.out]
  have K2 := Lib.hid (B1.out.kept.trans k2 (fun _ _ e => e))
  clear B1 k2 h1
  go_wp2_with fail
  go_ret2
  exact ⟨rfl, K2.out⟩

set_option maxHeartbeats 4000000 in
theorem drop_some_t {w : World} {B p : Nat} {m x : Value} {l : List T3} (h : Talt w B p m x l) {k : T3} (hk : K3.ok k) (hn : 0 < cnt k l) :
    Calls Try.prog 38 #[.pointer (some ⟨p, 0, none⟩), .agg #[.int .i64 k.1, .int .i64 k.2.1, .int .i64 k.2.2]] w fun e w' => e = .returned (.tuple #[.int .i64 ((cnt k l : Int) - 1), .int .i64 0]) ∧ TGrewt w w' B p m x (drp k l) := by
  have B1 := Lib.hid (Box.new w k)
  have h1 := Lib.hid (h.keptN B1.out.kept)
  have hm := cnt_pos.1 hn
  have hlen := h.len
  have hdl := drp_length hm
  have hl1 : (drp k l).length ≤ 10000 := by omega
  have hq : (l.length : Int) - 1 = ((drp k l).length : Int) := by omega
  have hok := Lib.hid (show ∀ x ∈ drp k l, K3.ok x from fun x hx => h.ok x (drp_sub hx))
  have HN := Lib.hid (cnt_le k l)
  obtain ⟨n, e⟩ : ∃ n, n = cnt k l := ⟨_, rfl⟩
  have HE := Lib.hid e
  rw [← e] at HN hn ⊢
  have hn1 : n ≤ l.length := HN.out
  have hkey := K3.key k hk
  have HK := Lib.hid hk
  rcases h.mp with ⟨_, rfl⟩ | ⟨bm, D0, rfl, _⟩
  · simp at hm
  clear h hk e hm hdl
  have HQ := Lib.hid hq
  have HL1 := Lib.hid hl1
  clear hq hl1
  go_enter Try.func38, Try.ntmps38
  go_wp2_with fail
  refine (count_t h1.out HK.out).mono ?_
  rintro e W ⟨rfl, k2⟩
  rw [← HE.out]
  have B2 := Lib.hid (B1.out.stepN k2)
  have HT := Lib.hid (h1.out.keptN k2)
  have HF := fun w5 (hg : TGrewt W w5 B p (.map (some bm)) x (drp k l)) => TGrewX.from hg B2.out.kept
  have BX := Lib.hid B2.out.three
  clear k2 h1 B1 B2
  generalize w.heap.size = b at *
  by_cases h1 : n = 1
  · obtain ⟨D, ho, hc⟩ := HT.out.own
    obtain ⟨w5, hrun, ho5, ht5⟩ := (ho.drew).drop K3.keyed Try.underlying73 hkey 0
    change (Builtin.delete_ #[73, 31] 0 #[.map (some bm), .agg #[.int .i64 k.1, .int .i64 k.2.1, .int .i64 k.2.2]]).run Try.prog W.drew = .ok (.tuple #[]) w5 at hrun
    have hp5 := TalX.mapped (HT.out.keptN ((Kept.refl _ _).drew)) ht5.grown
    have c0 := HT.out.cell0
    have c1 := HT.out.cell1
    have c05 : w5.cell? ⟨p, 0, none⟩ = some (.map (some bm)) := by simp [World.cell?, hp5]
    have c15 : w5.cell? ⟨p, 1, none⟩ = some (.int .i64 l.length) := by simp [World.cell?, hp5]
    have f15 : w5.frozen? ⟨p, 1, none⟩ = false := by simp [World.frozen?, hp5]
    have ⟨b0, b1, b2⟩ := BX.out
    have hfin := TalX.done (HT.out.keptN ((Kept.refl _ _).drew)) (q := (l.length : Int) - 1) ht5.grown ho5 (hc.del HK.out (by rw [← HE.out]; exact h1)) HL1.out hok.out HQ.out
    have HG := Lib.hid (HF _ (hfin.from ((Kept.refl _ _).drew)))
    subst h1
    clear hfin hc ho ht5 hp5 ho5 HN HE hn1
    go_wp2_with fail
    go_region
    go_wp2
    go_ret2
    exact ⟨rfl, HG.out⟩
  · have h2 : 1 < n := by omega
    obtain ⟨D, ho, hc⟩ := HT.out.own
    obtain ⟨w5, hrun, ho5, hg5⟩ := (ho.drew).update (val := .int .i64 ((n : Int) - 1)) K3.keyed Try.underlying73 (by unfold maxLen; omega) hkey (plainElem_int Try.underlying3 (WalkArith.wf_i64 (by omega)))
    change (Instr.mapUpdate 73 (.map (some bm)) (.agg #[.int .i64 k.1, .int .i64 k.2.1, .int .i64 k.2.2]) (.int .i64 ((n : Int) - 1))).run Try.prog W.drew = .ok () w5 at hrun
    have hp5 := TalX.mapped (HT.out.keptN ((Kept.refl _ _).drew)) hg5
    have c0 := HT.out.cell0
    have c1 := HT.out.cell1
    have c05 : w5.cell? ⟨p, 0, none⟩ = some (.map (some bm)) := by simp [World.cell?, hp5]
    have c15 : w5.cell? ⟨p, 1, none⟩ = some (.int .i64 l.length) := by simp [World.cell?, hp5]
    have f15 : w5.frozen? ⟨p, 1, none⟩ = false := by simp [World.frozen?, hp5]
    have ⟨b0, b1, b2⟩ := BX.out
    have hfin := TalX.done (HT.out.keptN ((Kept.refl _ _).drew)) (q := (l.length : Int) - 1) hg5 (ho5) (by rw [HE.out]; exact hc.less HK.out (by rw [← HE.out]; exact h2)) (HL1.out) (hok.out) (HQ.out)
    have HG := Lib.hid (HF _ (hfin.from ((Kept.refl _ _).drew)))
    clear hfin hc ho hg5 hp5 ho5
    go_wp2_with fail
    go_region
    go_wp2
    go_ret2
    exact ⟨rfl, HG.out⟩
end Go.Proofs.Ythiijlngoikhkaa
