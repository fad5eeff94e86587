/- Tallies of string: Add, Drop. -/
import Derived.Test.YtjnknbegapofiaaNsA
namespace Go.Proofs.Ytjnknbegapofiaa
open Go.RowKit Go.Maps Go.WideMaps
set_option maxRecDepth 100000

set_option maxHeartbeats 4000000 in
theorem add_s {w : World} {B p : Nat} {m : Value} {l : List ByteArray} (h : Tals w B p m l) (hl : l.length < 10000) {k : ByteArray} (hk : KS.ok k) :
    Calls Try.prog 12 #[.pointer (some ⟨p, 0, none⟩), .string k] w fun e w' => e = .returned (.int .i64 ((cnt k l : Int) + 1)) ∧ TGrews w w' B p m (l ++ [k]) := by
  have C := Lib.hid (find_s h hk)
  have hmm := @run_makeMap Try.prog
  have c0 := h.cell0
  have f0 := h.free 0
  have hlt := h.lt
  have HN := Lib.hid (cnt_le k l)
  obtain ⟨n, hn⟩ : ∃ n, n = cnt k l := ⟨_, rfl⟩
  rw [← hn] at C HN ⊢
  have HE := Lib.hid hn
  have hn1 : n ≤ l.length := HN.out
  clear hn
  have hkey := KS.key k hk
  have HK := Lib.hid hk
  clear hk
  rcases h.mp with ⟨rfl, e⟩ | ⟨bm, D0, rfl, _⟩
  · have T1 := h.withMap
    have HF := fun w5 => TGrew.made (K := KS) (e := 3) (tT := 58) (w := w) (w' := w5) (B := B) (p := p) (l := l ++ [k])
    clear e h
    have hnil := fun W : World => run_eql_map_nil (P := Try.prog) W _ _ _ none Try.underlying56
    have c0a : (w.alloc (.map #[] 0)).cell? ⟨p, 0, none⟩ = some (.map none) := by rw [World.cell?_alloc_past _ _ _ hlt]; exact c0
    have f0a : (w.alloc (.map #[] 0)).frozen? ⟨p, 0, none⟩ = false := by rw [World.frozen?_alloc_past _ _ _ hlt]; exact f0
    obtain ⟨D, ho, hc⟩ : ∃ D, ((w.setCell ⟨p, 0, none⟩ (.map (some w.heap.size))).alloc (.map #[] 0)).ownsMap (H := Unit) Try.prog 9 (plainElem Try.prog 3) w.heap.size l.length D ∧ Cnt KS D l := by
      rcases T1.mp with ⟨e, _⟩ | ⟨bm, D, e, _, ho, hc⟩
      · cases e
      · cases e; exact ⟨D, ho, hc⟩
    obtain ⟨w2, hrun, ho2, hg2⟩ := ho.update (val := .int .i64 ((n : Int) + 1)) KS.keyed Try.underlying56 (by unfold maxLen; omega) hkey (plainElem_int Try.underlying3 (WalkArith.wf_i64 (by omega)))
    change (Instr.mapUpdate 56 (.map (some w.heap.size)) (.string k) (.int .i64 ((n : Int) + 1))).run Try.prog ((w.setCell ⟨p, 0, none⟩ (.map (some w.heap.size))).alloc (.map #[] 0)) = .ok () w2 at hrun
    have hp2 := T1.mapped hg2
    have c02 : w2.cell? ⟨p, 0, none⟩ = some (.map (some w.heap.size)) := by simp [World.cell?, hp2]
    have c12 : w2.cell? ⟨p, 1, none⟩ = some (.int .i64 l.length) := by simp [World.cell?, hp2]
    have f12 : w2.frozen? ⟨p, 1, none⟩ = false := by simp [World.frozen?, hp2]
    have hc2 : Cnt KS _ (l ++ [k]) := hc.put HK.out
    have hfin := HF _ (T1.done (q := (l.length : Int) + 1) hg2 (by rw [HE.out] at ho2; exact ho2) hc2 (by simp; omega) (fun x hx => by
      rcases List.mem_append.1 hx with hx | hx
      · exact T1.ok x hx
      · rw [List.mem_singleton.1 hx]; exact HK.out) (by simp))
    have HG := Lib.hid hfin
    clear hfin hc2 hc ho2 hg2 hp2 ho T1 HF
    go_enter Try.func12, Try.ntmps12
    go_wp2_with (go_at_call 32; refine C.out.mono ?_; rintro e w1 ⟨rfl, rfl⟩)
    go_ret
    exact ⟨rfl, HG.out⟩
  · have T1 := h
    have HF := fun w5 (hg : TGrews w w5 B p (.map (some bm)) (l ++ [k])) => hg
    clear h
    have hnil := fun W : World => run_eql_map_nil (P := Try.prog) W _ _ _ (some bm) Try.underlying56
    obtain ⟨D, ho, hc⟩ : ∃ D, w.ownsMap (H := Unit) Try.prog 9 (plainElem Try.prog 3) bm l.length D ∧ Cnt KS D l := by
      rcases T1.mp with ⟨e, _⟩ | ⟨bm, D, e, _, ho, hc⟩
      · cases e
      · cases e; exact ⟨D, ho, hc⟩
    obtain ⟨w2, hrun, ho2, hg2⟩ := ho.update (val := .int .i64 ((n : Int) + 1)) KS.keyed Try.underlying56 (by unfold maxLen; omega) hkey (plainElem_int Try.underlying3 (WalkArith.wf_i64 (by omega)))
    change (Instr.mapUpdate 56 (.map (some bm)) (.string k) (.int .i64 ((n : Int) + 1))).run Try.prog w = .ok () w2 at hrun
    have hp2 := T1.mapped hg2
    have c02 : w2.cell? ⟨p, 0, none⟩ = some (.map (some bm)) := by simp [World.cell?, hp2]
    have c12 : w2.cell? ⟨p, 1, none⟩ = some (.int .i64 l.length) := by simp [World.cell?, hp2]
    have f12 : w2.frozen? ⟨p, 1, none⟩ = false := by simp [World.frozen?, hp2]
    have hc2 : Cnt KS _ (l ++ [k]) := hc.put HK.out
    have hfin := HF _ (T1.done (q := (l.length : Int) + 1) hg2 (by rw [HE.out] at ho2; exact ho2) hc2 (by simp; omega) (fun x hx => by
      rcases List.mem_append.1 hx with hx | hx
      · exact T1.ok x hx
      · rw [List.mem_singleton.1 hx]; exact HK.out) (by simp))
    have HG := Lib.hid hfin
    clear hfin hc2 hc ho2 hg2 hp2 ho T1 HF
    go_enter Try.func12, Try.ntmps12
    go_wp2_with (go_at_call 32; refine C.out.mono ?_; rintro e w1 ⟨rfl, rfl⟩)
    go_ret
    exact ⟨rfl, HG.out⟩

theorem drop_none_s {w : World} {B p : Nat} {m : Value} {l : List ByteArray} (h : Tals w B p m l) {k : ByteArray} (hk : KS.ok k) (hn : cnt k l = 0) :
    Calls Try.prog 10 #[.pointer (some ⟨p, 0, none⟩), .string k] w fun e w' => e = .returned (.tuple #[.int .i64 0, .int .i64 16]) ∧ w' = w := by
  have C := Lib.hid (count_s h hk)
  rw [hn] at C
  clear hn h hk
  go_enter Try.func10, Try.ntmps10
  go_wp2_with (go_at_call 9; refine C.out.mono ?_; rintro e w1 ⟨rfl, rfl⟩)
  go_ret2
  exact ⟨rfl, rfl⟩

set_option maxHeartbeats 4000000 in
theorem drop_some_s {w : World} {B p : Nat} {m : Value} {l : List ByteArray} (h : Tals w B p m l) {k : ByteArray} (hk : KS.ok k) (hn : 0 < cnt k l) :
    Calls Try.prog 10 #[.pointer (some ⟨p, 0, none⟩), .string k] w fun e w' => e = .returned (.tuple #[.int .i64 ((cnt k l : Int) - 1), .int .i64 0]) ∧ TGrews w w' B p m (drp k l) := by
  have C := Lib.hid (count_s h hk)
  have c0 := h.cell0
  have hm := cnt_pos.1 hn
  have hlen := h.len
  have HN := Lib.hid (cnt_le k l)
  have hdl := drp_length hm
  have hl1 : (drp k l).length ≤ 10000 := by omega
  have hq : (l.length : Int) - 1 = ((drp k l).length : Int) := by omega
  have hok : ∀ x ∈ drp k l, KS.ok x := fun x hx => h.ok x (drp_sub hx)
  have hkey := KS.key k hk
  rcases h.mp with ⟨_, rfl⟩ | ⟨bm, D, rfl, hb, ho, hc⟩
  · simp at hm
  obtain ⟨n, e⟩ : ∃ n, n = cnt k l := ⟨_, rfl⟩
  have HE := Lib.hid e
  rw [← e] at C HN hn ⊢
  have hn1 : n ≤ l.length := HN.out
  have hl0 : 1 ≤ l.length := by omega
  by_cases h1 : n = 1
  · obtain ⟨w2, hrun, ho2, ht2⟩ := ho.drop KS.keyed Try.underlying56 hkey 0
    change (Builtin.delete_ #[56, 9] 0 #[.map (some bm), .string k]).run Try.prog w = .ok (.tuple #[]) w2 at hrun
    have hp2 := h.mapped ht2.grown
    have c02 : w2.cell? ⟨p, 0, none⟩ = some (.map (some bm)) := by simp [World.cell?, hp2]
    have c12 : w2.cell? ⟨p, 1, none⟩ = some (.int .i64 l.length) := by simp [World.cell?, hp2]
    have f12 : w2.frozen? ⟨p, 1, none⟩ = false := by simp [World.frozen?, hp2]
    have hfin := h.done (q := (l.length : Int) - 1) ht2.grown ho2 (hc.del hk (by rw [← HE.out]; exact h1)) hl1 hok hq
    have HG := Lib.hid hfin
    subst h1
    clear hfin hc ht2 ho2 hp2 ho h hq hdl hl1 hok hk hm hn HN e HE hn1
    go_enter Try.func10, Try.ntmps10
    go_wp2_with (go_at_call 9; refine C.out.mono ?_; rintro e w1 ⟨rfl, rfl⟩)
    go_ret2
    exact ⟨rfl, HG.out⟩
  · have h2 : 1 < n := by omega
    obtain ⟨w2, hrun, ho2, hg2⟩ := ho.update (val := .int .i64 ((n : Int) - 1)) KS.keyed Try.underlying56 (by unfold maxLen; omega) hkey (plainElem_int Try.underlying3 (WalkArith.wf_i64 (by omega)))
    change (Instr.mapUpdate 56 (.map (some bm)) (.string k) (.int .i64 ((n : Int) - 1))).run Try.prog w = .ok () w2 at hrun
    have hp2 := h.mapped hg2
    have c02 : w2.cell? ⟨p, 0, none⟩ = some (.map (some bm)) := by simp [World.cell?, hp2]
    have c12 : w2.cell? ⟨p, 1, none⟩ = some (.int .i64 l.length) := by simp [World.cell?, hp2]
    have f12 : w2.frozen? ⟨p, 1, none⟩ = false := by simp [World.frozen?, hp2]
    have hfin := h.done (q := (l.length : Int) - 1) hg2 ho2 (by rw [HE.out]; exact hc.less hk (by rw [← HE.out]; exact h2)) hl1 hok hq
    have HG := Lib.hid hfin
    clear hfin hc ho2 hp2 ho h hq hdl hl1 hok hk hm HN e HE hg2
    go_enter Try.func10, Try.ntmps10
    go_wp2_with (go_at_call 9; refine C.out.mono ?_; rintro e w1 ⟨rfl, rfl⟩)
    go_ret2
    exact ⟨rfl, HG.out⟩
end Go.Proofs.Ytjnknbegapofiaa
