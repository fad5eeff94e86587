/- Notes by string: forget, noted. -/
import Derived.Test.YtbaplplaokbnnaaMsA
import Derived.Test.YtbaplplaokbnnaaMSort
namespace Go.Proofs.Ytbaplplaokbnnaa
open Go.RowKit Go.Maps Go.WideMaps
set_option maxRecDepth 100000

section
variable {w : World} {p o : Nat} {tT : TypeId} {cs : Array Value} {F : Nat → Prop} {x : Value} {g : ByteArray → Option Nat} {N : ByteArray → List Int} {n : Nat}
set_option maxHeartbeats 4000000 in
theorem forgetN_s (hb : Blk w p tT cs) (hx : cs[o]? = some x) (hF : ¬ F p) (h : Not KS w F x g N n) {k : ByteArray} (hk : KS.ok k) (hg : g k = none) {id : Int} (hid : (Lit.int .i64 id).wf = true) :
    Calls Try.prog 52 #[.pointer (some ⟨p, o, none⟩), .string k, .int .i64 id] w fun e w' => e = .returned (.tuple #[]) ∧ ∃ g', Blk w' p tT cs ∧ Not KS w' F x g' (upd N k (del id (N k))) n ∧ Kept F w w' := by
  have C := fun W => Lib.hid (like_s W k)
  have c0 : w.cell? ⟨p, o, none⟩ = some x := by rw [hb.cell]; exact hx
  have hlk : (Instr.lookup 71 x (.string k) false).run Try.prog w = .ok (.map none) w := by
    have := h.look noteO_s hk
    rw [hg] at this; exact this
  have hd : (Builtin.delete_ #[106, 3] 0 #[.map none, .int .i64 id]).run Try.prog w = .ok (.tuple #[]) w := Maps.drop_nil lawI Try.underlying106 (keyI hid) 0
  have hln := Maps.len_nil (P := Try.prog) (w := w) Try.underlying106 3
  have hN := h.miss k hk hg
  obtain ⟨w4, hrun, kk, h4⟩ := h.gone noteO_s hk hN
  change (Builtin.delete_ #[71, 9] 0 #[x, .string k]).run Try.prog w = .ok (.tuple #[]) w4 at hrun
  have HG := Lib.hid (show ∃ g', Blk w4 p tT cs ∧ Not KS w4 F x g' (upd N k (del id (N k))) n ∧ Kept F w w4 from
    ⟨_, hb.kept kk (fun e => hF e.1), h4.same (fun j _ => by
      by_cases e : j = k
      · subst e; rw [upd_same, hN]; rfl
      · rw [upd_other _ _ e]), kk.mono (fun _ _ e => e.1)⟩)
  clear h4 kk hb hx h hg hN
  go_enter Try.func52, Try.ntmps52
  go_wp2_with (go_at_call 55; refine (C _).out.mono ?_; rintro e w1 ⟨rfl, rfl⟩)
  go_end0
  exact ⟨rfl, HG.out⟩
set_option maxHeartbeats 4000000 in
theorem forgetS_s {b : Nat} (hb : Blk w p tT cs) (hx : cs[o]? = some x) (hF : ¬ F p) (h : Not KS w F x g N n) {k : ByteArray} (hk : KS.ok k) (hg : g k = some b) {id : Int} (hid : (Lit.int .i64 id).wf = true) (hl : (N k).length ≤ 5000) :
    Calls Try.prog 52 #[.pointer (some ⟨p, o, none⟩), .string k, .int .i64 id] w fun e w' => e = .returned (.tuple #[]) ∧ ∃ g', Blk w' p tT cs ∧ Not KS w' F x g' (upd N k (del id (N k))) n ∧ Kept F w w' := by
  have C := fun W => Lib.hid (like_s W k)
  have c0 : w.cell? ⟨p, o, none⟩ = some x := by rw [hb.cell]; exact hx
  have hlk : (Instr.lookup 71 x (.string k) false).run Try.prog w = .ok (.map (some b)) w := by
    have := h.look noteO_s hk
    rw [hg] at this; exact this
  obtain ⟨w1, r1, k1, fb, h1⟩ := h.less hk hg hid
  have b1 : Blk w1 p tT cs := hb.kept k1 (fun e => hF (by rw [e]; exact fb))
  have c1 : w1.cell? ⟨p, o, none⟩ = some x := by rw [b1.cell]; exact hx
  have hlk1 : (Instr.lookup 71 x (.string k) false).run Try.prog w1 = .ok (.map (some b)) w1 := by
    have := h1.look noteO_s hk
    rw [hg] at this; exact this
  have hln := (h1.sets k b hk hg).2.2.len 3
  rw [upd_same] at hln
  have hdl : (del id (N k)).length ≤ 5000 := Nat.le_trans (del_le _ _) hl
  obtain ⟨m, hm⟩ : ∃ m, (del id (N k)).length = m := ⟨_, rfl⟩
  rw [hm] at hln hdl
  by_cases hm0 : m = 0
  · subst hm0
    obtain ⟨w4, hrun, kk, h4⟩ := h1.gone noteO_s hk (by rw [upd_same]; exact List.length_eq_zero_iff.1 hm)
    change (Builtin.delete_ #[71, 9] 0 #[x, .string k]).run Try.prog w1 = .ok (.tuple #[]) w4 at hrun
    have HG := Lib.hid (show ∃ g', Blk w4 p tT cs ∧ Not KS w4 F x g' (upd N k (del id (N k))) n ∧ Kept F w w4 from
      ⟨_, b1.kept kk (fun e => hF e.1), h4, (k1.mono (fun _ _ e => by rw [e]; exact fb)).trans kk (fun _ _ e => e.1)⟩)
    clear h4 kk hb hx h hg hm h1 b1 k1 fb hl
    go_enter Try.func52, Try.ntmps52
    go_wp2_with (go_at_call 55; refine (C _).out.mono ?_; rintro e w1 ⟨rfl, rfl⟩)
    go_end0
    exact ⟨rfl, HG.out⟩
  · have hz : ((m : Int) == 0) = false := by simp; omega
    have HG := Lib.hid (show ∃ g', Blk w1 p tT cs ∧ Not KS w1 F x g' (upd N k (del id (N k))) n ∧ Kept F w w1 from
      ⟨_, b1, h1, k1.mono (fun _ _ e => by rw [e]; exact fb)⟩)
    clear hb hx h hg hm h1 b1 k1 fb hl
    go_enter Try.func52, Try.ntmps52
    go_wp2_with (go_at_call 55; refine (C _).out.mono ?_; rintro e w1 ⟨rfl, rfl⟩)
    go_end0
    exact ⟨rfl, HG.out⟩
theorem forget_s (hb : Blk w p tT cs) (hx : cs[o]? = some x) (hF : ¬ F p) (h : Not KS w F x g N n) {k : ByteArray} (hk : KS.ok k) {id : Int} (hid : (Lit.int .i64 id).wf = true) (hl : (N k).length ≤ 5000) :
    Calls Try.prog 52 #[.pointer (some ⟨p, o, none⟩), .string k, .int .i64 id] w fun e w' => e = .returned (.tuple #[]) ∧ ∃ g', Blk w' p tT cs ∧ Not KS w' F x g' (upd N k (del id (N k))) n ∧ Kept F w w' := by
  cases hg : g k with
  | none => exact forgetN_s hb hx hF h hk hg hid
  | some b => exact forgetS_s hb hx hF h hk hg hid hl
set_option maxHeartbeats 1000000 in
theorem noted_s (c0 : w.cell? ⟨p, o, none⟩ = some x) (h : Not KS w F x g N n) {k : ByteArray} (hk : KS.ok k) (hl : (N k).length ≤ 5000) :
    Calls Try.prog 54 #[.pointer (some ⟨p, o, none⟩), .string k] w fun e w' => ∃ a cap, e = .returned (.slice a (N k).length cap) ∧ Row cN 3 1 w' w.heap.size (.slice a (N k).length cap) (N k) ∧ Kept Nil w w' := by
  have C := fun W => Lib.hid (like_s W k)
  have hlk : (Instr.lookup 71 x (.string k) false).run Try.prog w = .ok (.map (g k)) w := h.look noteO_s hk
  cases hg : g k with
  | none =>
    have hN := h.miss k hk hg
    rw [hg] at hlk
    rw [hN]
    clear h hg hN hl
    go_enter Try.func54, Try.ntmps54
    go_wp2_with fail
    refine (C _).out.mono ?_
    rintro e w1 ⟨rfl, rfl⟩
    go_wp2_with fail
    refine (keysC none _).mono ?_
    rintro e w2 ⟨rfl, rfl⟩
    go_wp2_with fail
    refine (sortedN _).mono ?_
    rintro e w3 ⟨rfl, k3⟩
    go_wp2_with fail
    go_ret
    exact ⟨none, 0, rfl, Row.nil _ _, k3⟩
  | some b =>
    have HC := Lib.hid (sortedC (h.sets k b hk hg).2.2 hl)
    rw [hg] at hlk
    generalize N k = l at *
    clear h hg
    go_enter Try.func54, Try.ntmps54
    go_wp2_with fail
    refine (C _).out.mono ?_
    rintro e w1 ⟨rfl, rfl⟩
    go_wp2_with fail
    refine (keysC (some b) _).mono ?_
    rintro e w2 ⟨rfl, rfl⟩
    go_wp2_with fail
    refine HC.out.mono ?_
    rintro e w3 ⟨a, cap, rfl, r3, k3⟩
    have H3 := Lib.hid (And.intro r3 k3)
    clear r3 k3 HC
    go_wp2_with fail
    go_ret
    exact ⟨a, cap, rfl, H3.out.1, H3.out.2⟩
end
end Go.Proofs.Ytbaplplaokbnnaa
