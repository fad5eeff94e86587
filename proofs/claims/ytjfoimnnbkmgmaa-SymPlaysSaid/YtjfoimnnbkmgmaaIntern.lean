/- The table's add and Intern. -/
import Derived.Test.YtjfoimnnbkmgmaaTab
import Derived.BigRegion
namespace Go.Proofs.Ytjfoimnnbkmgmaa
open Go.RowKit Go.Maps Go.WideMaps

theorem Try.infoStr : (Try.prog.info? 9).map (fun i => (i.zero, i.size, i.bytes)) = some (some (.string .empty), 1, 16) := by kernel_rfl

/-- What a table's call that writes leaves: a table of other names at the same place; nothing has turned but the table's own blocks. -/
def Grew (w w' : World) (B p : Nat) (m sv : Value) (l : List ByteArray) : Prop :=
  ∃ m' sv', Tab w' B p m' sv' l ∧ (∀ k, Foot p m' sv' k → Foot p m sv k ∨ w.heap.size ≤ k) ∧ Kept (Foot p m sv) w w'

theorem Tab.withMap {w : World} {B p : Nat} {sv : Value} (h : Tab w B p (.map none) sv []) :
    Tab ((w.setCell ⟨p, 0, none⟩ (.map (some w.heap.size))).alloc (.map #[] 0)) B p (.map (some w.heap.size)) sv [] := by
  have hp := h.lt
  have hB := h.base
  have hsz : (w.setCell ⟨p, 0, none⟩ (.map (some w.heap.size))).heap.size = w.heap.size := by simp [World.setCell]
  refine ⟨h.len, h.short, h.nodup, h.base, ?_, ?_, .inr ⟨w.heap.size, .map [], rfl, by omega, ?_, tabMap_nil⟩⟩
  · rw [Below.heap_alloc _ _ p (by rw [hsz]; exact hp)]
    simp [World.setCell, Array.getElem?_modify, h.here]
  · have r := h.row
    refine ⟨r.1, ?_⟩
    rcases r.2 with e | ⟨g, cap, cur, e, hb, hg, rest⟩
    · exact .inl e
    · refine .inr ⟨g, cap, cur, e, hb, ?_, rest⟩
      have hgp : g ≠ p := fun e => by rw [e, h.here] at hg; cases hg
      rw [Below.heap_alloc _ _ g (by rw [hsz]; exact (Array.getElem?_eq_some_iff.1 hg).1), Below.heap_setCell _ _ _ _ hgp]
      exact hg
  · have := World.ownsMap_made (H := Unit) (w.setCell ⟨p, 0, none⟩ (.map (some w.heap.size))) Try.prog 9 (plainElem Try.prog 3)
    rw [hsz] at this
    exact this

/-- What the world is behind the append and the store of the names' new value. -/
structure Stored (w w3 w4 : World) (B p bm : Nat) (sv v' : Value) (l : List ByteArray) (s : ByteArray) : Prop where
  four : w4 = w3.setCell ⟨p, 1, none⟩ v'
  cells : w3.cell? ⟨p, 0, none⟩ = some (.map (some bm)) ∧ w3.cell? ⟨p, 1, none⟩ = some sv ∧ w3.frozen? ⟨p, 1, none⟩ = false ∧
    w4.cell? ⟨p, 0, none⟩ = some (.map (some bm)) ∧ w4.cell? ⟨p, 1, none⟩ = some v'
  here : w4.heap[p]? = some (.cells #[.map (some bm), v'] 44 (0, 0))
  row : w4.ownsRow B 9 1 v' (l.length + 1) ((l ++ [s]).map .string)
  mp : ∃ D, B ≤ bm ∧ w4.ownsMap (H := Unit) Try.prog 9 (plainElem Try.prog 3) bm l.length D ∧ TabMap D l
  kept : Kept (Foot p (.map (some bm)) sv) w w4
  loc : ∀ k, v'.ownBlock = some k → Foot p (.map (some bm)) sv k ∨ w.heap.size ≤ k

theorem row_cells {w : World} {B : Nat} {e : TypeId} {v : Value} {n : Nat} {xs : List Value} (h : w.ownsRow B e 1 v n xs) {k : Nat} (hk : v.ownBlock = some k) : ∃ cur, w.heap[k]? = some (.cells cur e (0, 0)) := by
  rcases h.2 with ⟨rfl, _⟩ | ⟨g, cap, cur, rfl, _, hg, _⟩
  · cases hk
  · cases hk; exact ⟨cur, hg⟩

theorem Tab.stored {w w3 : World} {B p bm : Nat} {sv : Value} {l : List ByteArray} (h : Tab w B p (.map (some bm)) sv l) {s : ByteArray} (X : Obj) (hg : (w.alloc X).grownBy w3 sv.ownBlock) {v' : Value}
    (hown : w3.ownsRow B 9 1 v' (l.length + 1) (l.map .string ++ [.string s])) (hloc : v'.ownBlock = sv.ownBlock ∨ v'.ownBlock = some (w.heap.size + 1)) :
    Stored w w3 (w3.setCell ⟨p, 1, none⟩ v') B p bm sv v' l s := by
  have hp := h.lt
  have hB := h.base
  have hsz : (w.alloc X).heap.size = w.heap.size + 1 := by simp
  have hpp : some p ≠ sv.ownBlock := fun e => by
    obtain ⟨cur, hc⟩ := row_cells h.row e.symm
    rw [h.here] at hc; cases hc
  have hp3 : w3.heap[p]? = some (.cells #[.map (some bm), sv] 44 (0, 0)) := by
    rw [hg.block p (by rw [hsz]; omega) hpp, Below.heap_alloc _ _ _ hp]; exact h.here
  have hpv : ∀ k, v'.ownBlock = some k → k ≠ p := fun k hk e => by
    obtain ⟨cur, hc⟩ := row_cells hown hk
    rw [e, hp3] at hc; cases hc
  rcases h.mp with ⟨e, _⟩ | ⟨bm', D, e, hb, ho, ht⟩
  · cases e
  cases e
  have hbm : bm < w.heap.size := ho.lt
  have hbs : some bm ≠ sv.ownBlock := fun e => by
    obtain ⟨cur, hc⟩ := row_cells h.row e.symm
    obtain ⟨es, clock, hbb, _⟩ := ho
    rw [hbb] at hc; cases hc
  have hbp : bm ≠ p := fun e => by
    obtain ⟨es, clock, hbb, _⟩ := ho
    rw [e, h.here] at hbb; cases hbb
  have h4 : (w3.setCell ⟨p, 1, none⟩ v').heap[p]? = some (.cells #[.map (some bm), v'] 44 (0, 0)) := by
    simp [World.setCell, Array.getElem?_modify, hp3]
  refine ⟨rfl, ⟨by simp [World.cell?, hp3], by simp [World.cell?, hp3], by simp [World.frozen?, hp3], by simp [World.cell?, h4], by simp [World.cell?, h4]⟩, h4, ?_, ⟨D, hb, (((ho.alloc X).kept hg hbs).setCell (a := ⟨p, 1, none⟩) hbp _), ht⟩, ?_, ?_⟩
  · rw [List.map_append]
    refine ⟨hown.1, ?_⟩
    rcases hown.2 with e | ⟨g, cap, cur, e, hb, hgg, rest⟩
    · exact .inl e
    · exact .inr ⟨g, cap, cur, e, hb, by rw [Below.heap_setCell _ _ _ _ (hpv g (by rw [e]; rfl))]; exact hgg, rest⟩
  · exact ((((Kept.refl _ w).alloc X).grown hg (fun k hk => .inl (.inr (.inr hk)))).setCell ⟨p, 1, none⟩ (.inl (.inl rfl)) _)
  · intro k hk
    rcases hloc with e | e
    · exact .inl (.inr (.inr (e ▸ hk)))
    · rw [hk] at e; cases e; right; omega

section
variable {w w3 w4 w5 : World} {B p bm : Nat} {sv v' : Value} {l : List ByteArray} {s : ByteArray} {D D' : DataW Unit} {n : Nat}
theorem Stored.ne (hst : Stored w w3 w4 B p bm sv v' l s) (ho : w4.ownsMap (H := Unit) Try.prog 9 (plainElem Try.prog 3) bm n D) : p ≠ bm := fun e => by
  obtain ⟨es, clock, hbb, _⟩ := ho
  rw [← e, hst.here] at hbb; cases hbb
theorem Stored.heap5 (hst : Stored w w3 w4 B p bm sv v' l s) (ho : w4.ownsMap (H := Unit) Try.prog 9 (plainElem Try.prog 3) bm n D) (hg : w4.drew.grownBy w5 (some bm)) : w5.heap[p]? = some (.cells #[.map (some bm), v'] 44 (0, 0)) := by
  rw [hg.block p (Array.getElem?_eq_some_iff.1 hst.here).1 (fun e => hst.ne ho (Option.some.inj e))]
  exact hst.here
theorem Stored.cell5 (hst : Stored w w3 w4 B p bm sv v' l s) (ho : w4.ownsMap (H := Unit) Try.prog 9 (plainElem Try.prog 3) bm n D) (hg : w4.drew.grownBy w5 (some bm)) : w5.cell? ⟨p, 1, none⟩ = some v' := by
  simp [World.cell?, hst.heap5 ho hg]
theorem Stored.done (hst : Stored w w3 w4 B p bm sv v' l s) (h : Tab w B p (.map (some bm)) sv l) (hs : s.size ≤ 32) (hp : pos l s = 0) (hl : l.length < 4096) (ht : TabMap D l) (hb : B ≤ bm)
    (ho : w4.ownsMap (H := Unit) Try.prog 9 (plainElem Try.prog 3) bm n D)
    (hg : w4.drew.grownBy w5 (some bm)) (hm : w5.ownsMap (H := Unit) Try.prog 9 (plainElem Try.prog 3) bm (l.length + 1) (D.put (.string s.data.toList) (.lit (.int .i64 ((l.length : Int) + 1))))) : Grew w w5 B p (.map (some bm)) sv (l ++ [s]) := by
  have hlen : (l ++ [s]).length = l.length + 1 := by simp
  refine ⟨.map (some bm), v', ⟨by omega, ?_, ?_, h.base, hst.heap5 ho hg, ?_, .inr ⟨bm, _, rfl, hb, by rw [hlen]; exact hm, tabMap_put ht hp⟩⟩, ?_, ?_⟩
  · intro x hx
    rcases List.mem_append.1 hx with hx | hx
    · exact h.short x hx
    · rw [List.mem_singleton.1 hx]; exact hs
  · rw [List.nodup_append]
    refine ⟨h.nodup, by simp, fun a ha b hb e => ?_⟩
    rw [List.mem_singleton.1 hb] at e
    exact pos_zero.1 hp (e ▸ ha)
  · rw [hlen]
    exact (hst.row.drew).kept hg (.inr (fun e => by
      obtain ⟨cur, hc⟩ := row_cells hst.row e
      obtain ⟨es, clock, hbb, _⟩ := ho
      rw [hbb] at hc; cases hc))
  · intro k hk
    rcases hk with rfl | hk | hk
    · exact .inl (.inl rfl)
    · exact .inl (.inr (.inl hk))
    · exact hst.loc k hk
  · exact hst.kept.drew.grown hg (fun k hk => .inl (.inr (.inl (by cases hk; rfl))))
end

theorem Tab.grewMap {w w5 : World} {B p : Nat} {sv : Value} {l : List ByteArray}
    (hg : Grew ((w.setCell ⟨p, 0, none⟩ (.map (some w.heap.size))).alloc (.map #[] 0)) w5 B p (.map (some w.heap.size)) sv l) : Grew w w5 B p (.map none) sv l := by
  obtain ⟨m', sv', r1, r2, r3⟩ := hg
  have hsz : ((w.setCell ⟨p, 0, none⟩ (.map (some w.heap.size))).alloc (.map #[] 0)).heap.size = w.heap.size + 1 := by simp [World.setCell]
  refine ⟨m', sv', r1, fun k hk => ?_, ?_⟩
  · rcases r2 k hk with (rfl | e | e) | e
    · exact .inl (.inl rfl)
    · cases e; exact .inr (Nat.le_refl _)
    · exact .inl (.inr (.inr e))
    · exact .inr (by rw [hsz] at e; omega)
  · refine (((Kept.refl _ w).setCell ⟨p, 0, none⟩ (.inl (.inl rfl)) _).alloc _).trans r3 (fun i hi e => ?_)
    rcases e with rfl | e | e
    · exact .inl rfl
    · cases e; exact absurd hi (Nat.lt_irrefl _)
    · exact .inr (.inr e)

set_option maxHeartbeats 4000000 in
theorem add_any {w : World} {B p : Nat} {m sv : Value} {l : List ByteArray} (h : Tab w B p m sv l) (s : ByteArray) (hs : s.size ≤ 32) (hp : pos l s = 0) (hl : l.length < 4096) :
    Calls Try.prog 19 #[.pointer (some ⟨p, 0, none⟩), .string s] w fun e w' => e = .returned (.int .i64 ((l.length : Int) + 1)) ∧ Grew w w' B p m sv (l ++ [s]) := by
  obtain ⟨i0, hi, hz0, hz1, hz2⟩ := info_parts Try.infoStr
  have hkey : keyOf Try.prog 9 (.string s) = some (.string s.data.toList) := keyOf_string_mk Try.underlying9 (by unfold maxLen; omega)
  have hmm := @run_makeMap Try.prog
  have c0 := h.cell0
  have f0 := h.free 0
  have hlt := h.lt
  have HP := Lib.hid hp
  clear hp
  rcases h.mp with ⟨rfl, e⟩ | ⟨bm, D0, rfl, _⟩
  · have T1 := (e ▸ h).withMap
    have HF := fun w5 => Tab.grewMap (w := w) (w5 := w5) (B := B) (p := p) (sv := sv) (l := l ++ [s])
    rw [← e] at T1
    clear e
    have hnil := fun W : World => run_eql_map_nil (P := Try.prog) W _ _ _ none Try.underlying42
    have c0a : (w.alloc (.map #[] 0)).cell? ⟨p, 0, none⟩ = some (.map none) := by rw [World.cell?_alloc_past _ _ _ hlt]; exact c0
    have f0a : (w.alloc (.map #[] 0)).frozen? ⟨p, 0, none⟩ = false := by rw [World.frozen?_alloc_past _ _ _ hlt]; exact f0
    go_enter Try.func19, Try.ntmps19
    go_wp2_with fail
    generalize (w.setCell ⟨p, 0, none⟩ (.map (some w.heap.size))).alloc (.map #[] 0) = w1 at *
    generalize w.heap.size = bm at *
    refine (clone_any s _ (by omega)).mono ?_
    rintro e w2 ⟨rfl, k2⟩
    have h2 := T1.kept k2 (fun _ _ g => g)
    have c0' := h2.cell0
    have c1' := h2.cell1
    go_wp2_with (at_builtin; refine wpList_append_own_at _ rfl (.tmp 21) (.tmp 23) 24 rfl B 9 i0 (.string .empty) 1 16 Try.underlying24 hi hz0 hz1 hz2 rfl (by decide) _ _ _ rfl (h2.row.alloc _) ⟨w2.heap.size, 0, none⟩ 1 1 [.string s] rfl rfl (cell_one_new _ _ _) ?c2 (by unfold maxLen; omega) (by omega) (by simp; have := h2.foot (.inl rfl); omega) ?_)
    case c2 => intro u hu; simp at hu; subst hu; rfl
    intro v' w3 hown hgrow _ hloc
    obtain ⟨g, cap, rfl⟩ : ∃ g cap, v' = .slice (some ⟨g, 0, none⟩) (l.length + 1) cap := by
      rcases hown.2 with ⟨_, h⟩ | ⟨g, cap, _, h, _⟩
      · omega
      · exact ⟨g, cap, h⟩
    have hst := h2.stored _ hgrow hown hloc
    have ⟨c0'', c1'', f1'', hq0, hq1⟩ := hst.cells
    obtain ⟨D, hbb, hom, htm⟩ := hst.mp
    have HT := Lib.hid htm
    clear hloc hown htm
    go_wp2_with fail
    generalize hw4 : w3.setCell ⟨p, 1, none⟩ (.slice (some ⟨g, 0, none⟩) (l.length + 1) cap) = w4 at *
    obtain ⟨w5, hrun, hom5, hgr5⟩ := hom.drew.update (val := .int .i64 ((l.length : Int) + 1)) lawS Try.underlying42 (by unfold maxLen; omega) hkey (plainElem_int Try.underlying3 (WalkArith.wf_i64 (by omega)))
    have HG := Lib.hid hgr5
    clear hgr5 hw4 hgrow c0'' c1'' f1''
    have hc5 := hst.cell5 hom HG.out
    go_region
    go_wp2
    go_ret
    refine ⟨ret_int (by simp), HF _ ?_⟩
    obtain ⟨m', sv', r1, r2, r3⟩ := hst.done h2 hs HP.out hl HT.out hbb hom HG.out hom5
    exact ⟨m', sv', r1, fun k hk => (r2 k hk).imp id (fun h => Nat.le_trans k2.size h), (k2.mono (fun _ _ g => g.elim)).trans r3 (fun _ _ g => g)⟩
  · have T1 := h
    have HF := fun w5 (hg : Grew w w5 B p (.map (some bm)) sv (l ++ [s])) => hg
    have hnil := fun W : World => run_eql_map_nil (P := Try.prog) W _ _ _ (some bm) Try.underlying42
    go_enter Try.func19, Try.ntmps19
    go_wp2_with fail
    refine (clone_any s _ (by omega)).mono ?_
    rintro e w2 ⟨rfl, k2⟩
    have h2 := T1.kept k2 (fun _ _ g => g)
    have c0' := h2.cell0
    have c1' := h2.cell1
    go_wp2_with (at_builtin; refine wpList_append_own_at _ rfl (.tmp 21) (.tmp 23) 24 rfl B 9 i0 (.string .empty) 1 16 Try.underlying24 hi hz0 hz1 hz2 rfl (by decide) _ _ _ rfl (h2.row.alloc _) ⟨w2.heap.size, 0, none⟩ 1 1 [.string s] rfl rfl (cell_one_new _ _ _) ?c2 (by unfold maxLen; omega) (by omega) (by simp; have := h2.foot (.inl rfl); omega) ?_)
    case c2 => intro u hu; simp at hu; subst hu; rfl
    intro v' w3 hown hgrow _ hloc
    obtain ⟨g, cap, rfl⟩ : ∃ g cap, v' = .slice (some ⟨g, 0, none⟩) (l.length + 1) cap := by
      rcases hown.2 with ⟨_, h⟩ | ⟨g, cap, _, h, _⟩
      · omega
      · exact ⟨g, cap, h⟩
    have hst := h2.stored _ hgrow hown hloc
    have ⟨c0'', c1'', f1'', hq0, hq1⟩ := hst.cells
    obtain ⟨D, hbb, hom, htm⟩ := hst.mp
    have HT := Lib.hid htm
    clear hloc hown htm
    go_wp2_with fail
    generalize hw4 : w3.setCell ⟨p, 1, none⟩ (.slice (some ⟨g, 0, none⟩) (l.length + 1) cap) = w4 at *
    obtain ⟨w5, hrun, hom5, hgr5⟩ := hom.drew.update (val := .int .i64 ((l.length : Int) + 1)) lawS Try.underlying42 (by unfold maxLen; omega) hkey (plainElem_int Try.underlying3 (WalkArith.wf_i64 (by omega)))
    have HG := Lib.hid hgr5
    clear hgr5 hw4 hgrow c0'' c1'' f1''
    have hc5 := hst.cell5 hom HG.out
    go_region
    go_wp2
    go_ret
    refine ⟨ret_int (by simp), HF _ ?_⟩
    obtain ⟨m', sv', r1, r2, r3⟩ := hst.done h2 hs HP.out hl HT.out hbb hom HG.out hom5
    exact ⟨m', sv', r1, fun k hk => (r2 k hk).imp id (fun h => Nat.le_trans k2.size h), (k2.mono (fun _ _ g => g.elim)).trans r3 (fun _ _ g => g)⟩

theorem intern_bad {w : World} {B p : Nat} {m sv : Value} {l : List ByteArray} (_h : Tab w B p m sv l) (s : ByteArray) (hs : s.size ≤ maxLen) (hok : okName s = false) :
    Calls Try.prog 15 #[.pointer (some ⟨p, 0, none⟩), .string s] w fun e w' => e = .returned (.tuple #[.int .i64 0, .int .i64 1]) ∧ Kept Nil w w' := by
  have HO := Lib.hid hok
  clear hok
  go_enter Try.func15, Try.ntmps15
  go_wp2_with (go_at_call 9; refine (right_any s _ hs).mono ?_; rintro e w' ⟨rfl, hk⟩; rw [HO.out])
  go_ret2
  exact ⟨rfl, hk⟩

theorem intern_there {w : World} {B p : Nat} {m sv : Value} {l : List ByteArray} (h : Tab w B p m sv l) (s : ByteArray) (hs : s.size ≤ maxLen) (hok : okName s = true) (hp : 0 < pos l s) :
    Calls Try.prog 15 #[.pointer (some ⟨p, 0, none⟩), .string s] w fun e w' => e = .returned (.tuple #[.int .i64 (pos l s), .int .i64 0]) ∧ Kept Nil w w' := by
  have hkey : keyOf Try.prog 9 (.string s) = some (.string s.data.toList) := keyOf_string_mk Try.underlying9 hs
  have HO := Lib.hid hok
  clear hok
  rcases h.mp with ⟨rfl, rfl⟩ | ⟨bm, D, rfl, hb, ho, ht⟩
  · exact absurd hp (by simp [pos, posFrom])
  obtain ⟨h1, h2⟩ := ht.2 s
  rw [decide_eq_true hp] at h2
  have H1 := Lib.hid h1
  have H2 := Lib.hid h2
  clear h1 h2 hp
  go_enter Try.func15, Try.ntmps15
  go_wp2_with fail
  refine (right_any s _ hs).mono ?_
  rintro e w1 ⟨rfl, hk⟩
  rw [HO.out]
  have T1 := h.kept hk (fun _ _ g => g)
  have c0 := T1.cell0
  rcases T1.mp with ⟨e, _⟩ | ⟨bm', D', e, _, ho1, ht1⟩
  · cases e
  cases e
  obtain ⟨h1, h2⟩ := ht1.2 s
  have hp : 0 < pos l s := by
    have := H2.out
    rw [(ht.2 s).2] at this
    exact of_decide_eq_true this
  rw [decide_eq_true hp] at h2
  have H1' := Lib.hid h1
  have H2' := Lib.hid h2
  clear h1 h2 hp
  go_wp2_with (at_lookup; refine wpList_lookup_own_ok_int _ rfl _ _ 42 rfl 9 3 .i64 lawS Try.underlying42 Try.underlying3 (zeroI _) bm _ D' rfl ho1 _ _ rfl hkey ?_; intro c hat hwc; have HA := Lib.hid hat; clear hat; rw [H2'.out])
  go_ret2
  have := HA.out.symm.trans H1'.out
  simp at this
  subst this
  exact ⟨rfl, hk⟩

/-- What the walk of Intern meets at the look-up, whatever the map: nothing is there. -/
theorem look_none {w : World} {B p : Nat} {m sv : Value} {l : List ByteArray} (h : Tab w B p m sv l) (s : ByteArray) (hs : s.size ≤ maxLen) (hp : pos l s = 0) :
    (Instr.lookup 42 m (.string s) true).run Try.prog w = .ok (.tuple #[.int .i64 0, .bool false]) w := by
  have hkey : keyOf Try.prog 9 (.string s) = some (.string s.data.toList) := keyOf_string_mk Try.underlying9 hs
  rcases h.mp with ⟨rfl, rfl⟩ | ⟨bm, D, rfl, hb, ho, ht⟩
  · exact look_nil (w := w) true lawS Try.underlying42 (zeroI w) hkey
  · obtain ⟨v, ps, hrun, hv⟩ := ho.look_ok lawS Try.underlying42 (zeroI w) (plainElem_int Try.underlying3 (by decide)) hkey
    obtain ⟨c, rfl, hc, _⟩ := plainElem_int_inv Try.underlying3 hv
    have e := (ht.2 s)
    rw [hp] at e
    rw [e.1] at hc
    simp at hc
    rw [hrun, e.2, ← hc.1]
    rfl

set_option maxRecDepth 100000 in
theorem intern_full {w : World} {B p : Nat} {m sv : Value} {l : List ByteArray} (h : Tab w B p m sv l) (s : ByteArray) (hs : s.size ≤ maxLen) (hok : okName s = true) (hp : pos l s = 0) (hl : 4096 ≤ l.length) :
    Calls Try.prog 15 #[.pointer (some ⟨p, 0, none⟩), .string s] w fun e w' => e = .returned (.tuple #[.int .i64 0, .int .i64 15]) ∧ Kept Nil w w' := by
  have HO := Lib.hid hok
  have HP := Lib.hid hp
  clear hok hp
  go_enter Try.func15, Try.ntmps15
  go_wp2_with fail
  refine (right_any s _ hs).mono ?_
  rintro e w1 ⟨rfl, hk⟩
  rw [HO.out]
  have T1 := h.kept hk (fun _ _ g => g)
  obtain ⟨a, cap, rfl⟩ := T1.sv
  have c0 := T1.cell0
  have c1 := T1.cell1
  have hlen := T1.len
  have hrun := look_none T1 s hs HP.out
  go_wp2_with fail
  go_ret2
  exact ⟨rfl, hk⟩

set_option maxRecDepth 100000 in
theorem intern_new {w : World} {B p : Nat} {m sv : Value} {l : List ByteArray} (h : Tab w B p m sv l) (s : ByteArray) (hs : s.size ≤ 32) (hok : okName s = true) (hp : pos l s = 0) (hl : l.length < 4096) :
    Calls Try.prog 15 #[.pointer (some ⟨p, 0, none⟩), .string s] w fun e w' => e = .returned (.tuple #[.int .i64 ((l.length : Int) + 1), .int .i64 0]) ∧ Grew w w' B p m sv (l ++ [s]) := by
  have hsm : s.size ≤ maxLen := by unfold maxLen; omega
  have HO := Lib.hid hok
  have HP := Lib.hid hp
  clear hok hp
  go_enter Try.func15, Try.ntmps15
  go_wp2_with fail
  refine (right_any s _ hsm).mono ?_
  rintro e w1 ⟨rfl, hk⟩
  rw [HO.out]
  have T1 := h.kept hk (fun _ _ g => g)
  obtain ⟨a, cap, e⟩ := T1.sv
  subst e
  have c0 := T1.cell0
  have c1 := T1.cell1
  have hrun := look_none T1 s hsm HP.out
  go_wp2_with fail
  refine (add_any T1 s hs HP.out hl).mono ?_
  rintro e w2 ⟨rfl, hg⟩
  go_wp2_with fail
  go_ret2
  obtain ⟨m', sv', r1, r2, r3⟩ := hg
  exact ⟨rfl, m', sv', r1, fun k hk' => (r2 k hk').imp id (fun h => Nat.le_trans hk.size h), (hk.mono (fun _ _ g => g.elim)).trans r3 (fun _ _ g => g)⟩
end Go.Proofs.Ytjfoimnnbkmgmaa
