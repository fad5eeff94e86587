/- Notes by string: likeItself, note. -/
import Derived.Test.YtbaplplaokbnnaaMSto
namespace Go.Proofs.Ytbaplplaokbnnaa
open Go.RowKit Go.Maps Go.WideMaps
set_option maxRecDepth 100000

/-- The deferred closure of a frame that returns: recover finds nothing. -/
theorem likeD_s (w : World) :
    CallsD Try.prog 59 #[] .returning w fun e u' w' => e = .returned (.tuple #[]) ∧ u' = .returning ∧ w' = w := by
  refine callsD_of_wpS Try.func59 rfl fun c₀ cs hu => ?_
  apply wpS_region
  simp [wpOpsS, go_sem, recoverD, hu, Try.ntmps59]
  cases c₀
  simp_all [bodyPostS, results, Try.results59]
theorem like_s (w : World) (k : ByteArray) :
    Calls Try.prog 55 #[.string k] w fun e w' => e = .returned (.bool true) ∧ w' = w := by
  go_enter_defers Try.func55, Try.ntmps55
  go_wp2
  refine leaves_cons (f := 59) (args := #[]) (by simp) (by simp [go_sem]) ?_
  refine (likeD_s _).mono ?_
  rintro e u' w'' ⟨rfl, rfl, rfl⟩
  simp [Leaves, settle, results, Try.results55, go_sem]
theorem noteO_s : Try.prog.underlying 71 = some (.map KS.t 106) := Try.underlying71

section
variable {w : World} {p o : Nat} {tT : TypeId} {cs : Array Value} {F : Nat → Prop} {x : Value} {g : ByteArray → Option Nat} {N : ByteArray → List Int} {n : Nat}
/-- What note leaves. -/
def Noted_s (w w' : World) (p o : Nat) (tT : TypeId) (cs : Array Value) (F : Nat → Prop) (N : ByteArray → List Int) (n : Nat) : Prop :=
  ∃ x' g', Blk w' p tT (cs.setIfInBounds o x') ∧ Not KS w' (Fup F w w') x' g' N n ∧ Kept (fun b => b = p ∨ F b) w w'
set_option maxHeartbeats 4000000 in
theorem noteC_s {bo b : Nat} (hb : Blk w p tT cs) (hx : cs[o]? = some (.map (some bo))) (hF : ¬ F p) (h : Not KS w F (.map (some bo)) g N n) {k : ByteArray} (hk : KS.ok k) (hg : g k = some b) {id : Int} (hid : (Lit.int .i64 id).wf = true) (hl : (N k).length ≤ 5000) :
    Calls Try.prog 50 #[.pointer (some ⟨p, o, none⟩), .string k, .int .i64 id] w fun e w' => e = .returned (.tuple #[]) ∧ Noted_s w w' p o tT cs F (upd N k (put (N k) id)) (n + 1) := by
  have C := fun W => Lib.hid (like_s W k)
  have c0 : w.cell? ⟨p, o, none⟩ = some (.map (some bo)) := by rw [hb.cell]; exact hx
  have hlk : (Instr.lookup 71 (.map (some bo)) (.string k) false).run Try.prog w = .ok (.map (some b)) w := by
    have := h.look noteO_s hk
    rw [hg] at this; exact this
  obtain ⟨w4, hrun, kk, fb, h4⟩ := h.put hk hg hid hl
  have hnil := fun W : World => run_eql_map_nil (P := Try.prog) W _ _ _ (some bo) Try.underlying71
  have hnil2 := fun W : World => run_eql_map_nil (P := Try.prog) W _ _ _ (some b) Try.underlying106
  have HG := Lib.hid (show Noted_s w w4 p o tT cs F (upd N k (put (N k) id)) (n + 1) from ⟨_, g, by
    have e : cs.setIfInBounds o (.map (some bo)) = cs := by
      apply Array.ext_getElem?
      intro j
      rw [Array.getElem?_setIfInBounds]
      split
      · rename_i ej
        subst ej
        split
        · exact hx.symm
        · rw [Array.getElem?_eq_none (by omega)]
      · rfl
    rw [e]
    exact hb.kept kk (fun e => hF (by rw [e]; exact fb)), (h4.more (Nat.le_succ n)).wider (fun _ e => .inl e) (fun b e => e.elim (fun e => h4.inF b e) (fun e => e.2)), kk.mono (fun i _ e => .inr (by rw [e]; exact fb))⟩)
  clear h4 kk hb hx h hg fb hl
  go_enter Try.func50, Try.ntmps50
  go_wp2_with (go_at_call 55; refine (C _).out.mono ?_; rintro e w1 ⟨rfl, rfl⟩)
  go_end0
  exact ⟨rfl, HG.out⟩

theorem enter_s {bo : Nat} (hb : Blk w p tT cs) (hx : cs[o]? = some (.map (some bo))) (hF : ¬ F p) (h : Not KS w F (.map (some bo)) g N n) (hn : n ≤ 5000) {k : ByteArray} (hk : KS.ok k) (hg : g k = none) {id : Int} (hid : (Lit.int .i64 id).wf = true) :
    (Instr.lookup 71 (.map (some bo)) (.string k) false).run Try.prog w = .ok (.map none) w ∧ ∃ W3 W4, (Instr.mapUpdate 71 (.map (some bo)) (.string k) (.map (some w.heap.size))).run Try.prog (w.alloc (.map #[] 0)) = .ok () W3 ∧
      W3.cell? ⟨p, o, none⟩ = some (.map (some bo)) ∧ (Instr.lookup 71 (.map (some bo)) (.string k) false).run Try.prog W3 = .ok (.map (some w.heap.size)) W3 ∧
      (Instr.mapUpdate 106 (.map (some w.heap.size)) (.int .i64 id) (.bool true)).run Try.prog W3 = .ok () W4 ∧ Noted_s w W4 p o tT cs F (upd N k (put (N k) id)) (n + 1) := by
  have hlk : (Instr.lookup 71 (.map (some bo)) (.string k) false).run Try.prog w = .ok (.map none) w := by
    have := h.look noteO_s hk
    rw [hg] at this; exact this
  refine ⟨hlk, ?_⟩
  have ka : Kept Nil w (w.alloc (.map #[] 0)) := (Kept.refl _ _).alloc _
  have hbf : ¬ F w.heap.size := fun e => by have := h.inF _ e; omega
  obtain ⟨W3, r3, k3, fo, h3⟩ := (h.keptN ka).entered noteO_s hn hk hg hbf (SetM.new w)
  have hN := h.miss k hk hg
  obtain ⟨W4, r4, k4, _, h4⟩ := h3.put (k := k) hk (upd_same _ _ _) hid (by rw [hN]; exact Nat.zero_le _)
  have hpo : p ≠ bo := fun e => hF (by rw [e]; exact fo)
  have hpb : p ≠ w.heap.size := fun e => by have := hb.lt; omega
  have b3 : Blk W3 p tT cs := (hb.kept ka (fun e => e)).kept k3 hpo
  have b4 : Blk W4 p tT cs := b3.kept k4 hpb
  have hlk3 := h3.look noteO_s hk
  rw [upd_same] at hlk3
  refine ⟨W3, W4, r3, by rw [b3.cell]; exact hx, hlk3, r4, .map (some bo), _, ?_, h4.wider (fun b e => ?_) (fun b e => ?_), ?_⟩
  · have e : cs.setIfInBounds o (.map (some bo)) = cs := by
      apply Array.ext_getElem?
      intro j
      rw [Array.getElem?_setIfInBounds]
      split
      · rename_i ej
        subst ej
        split
        · exact hx.symm
        · rw [Array.getElem?_eq_none (by omega)]
      · rfl
    rw [e]; exact b4
  · rcases e with e | e
    · exact .inl e
    · exact .inr ⟨by omega, by rw [e]; exact Nat.lt_of_lt_of_le (by simp) (Nat.le_trans k3.size k4.size)⟩
  · rcases e with e | e
    · exact Nat.lt_of_lt_of_le (h.inF b e) (Nat.le_trans ka.size (Nat.le_trans k3.size k4.size))
    · exact e.2
  · refine ((ka.mono (fun _ _ e => e.elim)).trans k3 (fun i _ e => .inr (by rw [e]; exact fo))).trans k4 (fun i hi e => by omega)
set_option maxHeartbeats 4000000 in
theorem noteB_s {bo : Nat} (hb : Blk w p tT cs) (hx : cs[o]? = some (.map (some bo))) (hF : ¬ F p) (h : Not KS w F (.map (some bo)) g N n) (hn : n ≤ 5000) {k : ByteArray} (hk : KS.ok k) (hg : g k = none) {id : Int} (hid : (Lit.int .i64 id).wf = true) :
    Calls Try.prog 50 #[.pointer (some ⟨p, o, none⟩), .string k, .int .i64 id] w fun e w' => e = .returned (.tuple #[]) ∧ Noted_s w w' p o tT cs F (upd N k (put (N k) id)) (n + 1) := by
  have C := fun W => Lib.hid (like_s W k)
  have hmm := @run_makeMap Try.prog
  have c0 : w.cell? ⟨p, o, none⟩ = some (.map (some bo)) := by rw [hb.cell]; exact hx
  obtain ⟨hlk, W3, W4, r3, c3, hlk3, r4, hN⟩ := enter_s hb hx hF h hn hk hg hid
  have hnil := fun W : World => run_eql_map_nil (P := Try.prog) W _ _ _ (some bo) Try.underlying71
  have hnil2 := fun W : World => run_eql_map_nil (P := Try.prog) W _ _ _ none Try.underlying106
  have HG := Lib.hid hN
  clear hb hx h hg hN
  go_enter Try.func50, Try.ntmps50
  go_wp2_with (go_at_call 55; refine (C _).out.mono ?_; rintro e w1 ⟨rfl, rfl⟩)
  go_end0
  exact ⟨rfl, HG.out⟩
set_option maxHeartbeats 4000000 in
theorem noteA_s (hb : Blk w p tT cs) (hx : cs[o]? = some (.map none)) (hF : ¬ F p) (h : Not KS w F (.map none) g N n) (hn : n ≤ 5000) {k : ByteArray} (hk : KS.ok k) {id : Int} (hid : (Lit.int .i64 id).wf = true) :
    Calls Try.prog 50 #[.pointer (some ⟨p, o, none⟩), .string k, .int .i64 id] w fun e w' => e = .returned (.tuple #[]) ∧ Noted_s w w' p o tT cs F (upd N k (put (N k) id)) (n + 1) := by
  have C := fun W => Lib.hid (like_s W k)
  have hmm := @run_makeMap Try.prog
  have hlt := hb.lt
  have c0 : w.cell? ⟨p, o, none⟩ = some (.map none) := by rw [hb.cell]; exact hx
  have f0 : w.frozen? ⟨p, o, none⟩ = false := hb.frozen o
  have c0a : (w.alloc (.map #[] 0)).cell? ⟨p, o, none⟩ = some (.map none) := by rw [World.cell?_alloc_past _ _ _ hlt]; exact c0
  have f0a : (w.alloc (.map #[] 0)).frozen? ⟨p, o, none⟩ = false := by rw [World.frozen?_alloc_past _ _ _ hlt]; exact f0
  have hg : g k = none := by
    rcases h.outer with ⟨_, e⟩ | ⟨bo, D, e, _⟩
    · exact e k
    · cases e
  have hsz : (w.setCell ⟨p, o, none⟩ (.map (some w.heap.size))).heap.size = w.heap.size := by simp [World.setCell]
  have kS : Kept (fun b => b = p) w ((w.setCell ⟨p, o, none⟩ (.map (some w.heap.size))).alloc (.map #[] 0)) := (Kept.setCell (F := fun b => b = p) (Kept.refl _ w) ⟨p, o, none⟩ (.inl rfl) _).alloc _
  have hM := h.made kS (Nat.le_of_eq hsz.symm)
  have hb1 : Blk ((w.setCell ⟨p, o, none⟩ (.map (some w.heap.size))).alloc (.map #[] 0)) p tT (cs.setIfInBounds o (.map (some w.heap.size))) := (hb.set_ o _).alloc _
  rw [hsz] at hM
  have c1 := hb1.cell o
  have hosz : o < cs.size := (Array.getElem?_eq_some_iff.1 hx).1
  rw [Array.getElem?_setIfInBounds, if_pos rfl, if_pos hosz] at c1
  have hF1 : ¬ Fup F w ((w.setCell ⟨p, o, none⟩ (.map (some w.heap.size))).alloc (.map #[] 0)) p := fun e => e.elim hF (fun e => by omega)
  obtain ⟨hlk, W3, W4, r3, c3, hlk3, r4, hN⟩ := enter_s hb1 (by rw [Array.getElem?_setIfInBounds, if_pos rfl, if_pos hosz]) hF1 hM hn hk hg hid
  have hsz1 : ((w.setCell ⟨p, o, none⟩ (.map (some w.heap.size))).alloc (.map #[] 0)).heap.size = w.heap.size + 1 := by simp [World.setCell]
  have HG := Lib.hid (show Noted_s w W4 p o tT cs F (upd N k (put (N k) id)) (n + 1) from by
    obtain ⟨x', g', a1, a2, a3⟩ := hN
    refine ⟨x', g', by rw [Array.setIfInBounds_setIfInBounds] at a1; exact a1, a2.wider (fun b e => ?_) (fun b e => ?_), ?_⟩
    · rcases e with (e | e) | e
      · exact .inl e
      · exact .inr ⟨e.1, Nat.lt_of_lt_of_le e.2 a3.size⟩
      · exact .inr ⟨Nat.le_trans kS.size e.1, e.2⟩
    · rcases e with e | e
      · exact Nat.lt_of_lt_of_le (h.inF b e) (Nat.le_trans kS.size a3.size)
      · exact e.2
    · refine (kS.mono (fun _ _ e => .inl e)).trans a3 (fun i hi e => ?_)
      rcases e with e | e | e
      · exact .inl e
      · exact .inr e
      · omega)
  have hnil := fun W : World => run_eql_map_nil (P := Try.prog) W _ _ _ none Try.underlying71
  have hnil2 := fun W : World => run_eql_map_nil (P := Try.prog) W _ _ _ none Try.underlying106
  rw [hsz1] at r3 hlk3 r4
  clear hb hx h hg hN hb1 hM kS hF1 hosz hsz hsz1
  go_enter Try.func50, Try.ntmps50
  go_wp2_with (go_at_call 55; refine (C _).out.mono ?_; rintro e w1 ⟨rfl, rfl⟩)
  go_end0
  exact ⟨rfl, HG.out⟩
theorem note_s (hb : Blk w p tT cs) (hx : cs[o]? = some x) (hF : ¬ F p) (h : Not KS w F x g N n) (hn : n ≤ 5000) {k : ByteArray} (hk : KS.ok k) {id : Int} (hid : (Lit.int .i64 id).wf = true) (hl : (N k).length ≤ 5000) :
    Calls Try.prog 50 #[.pointer (some ⟨p, o, none⟩), .string k, .int .i64 id] w fun e w' => e = .returned (.tuple #[]) ∧ Noted_s w w' p o tT cs F (upd N k (put (N k) id)) (n + 1) := by
  rcases h.outer with ⟨rfl, _⟩ | ⟨bo, D, rfl, _⟩
  · exact noteA_s hb hx hF h hn hk hid
  · cases hg : g k with
    | none => exact noteB_s hb hx hF h hn hk hg hid
    | some b => exact noteC_s hb hx hF h hk hg hid hl
end
end Go.Proofs.Ytbaplplaokbnnaa
