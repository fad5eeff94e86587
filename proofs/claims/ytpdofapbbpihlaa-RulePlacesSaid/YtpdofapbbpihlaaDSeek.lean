/- Layer rule: the contract of the program's places: the ways to where a variable stands, from the rule's own conditions on. -/
import Derived.Test.YtpdofapbbpihlaaDWays
namespace Go.Proofs.Ytpdofapbbpihlaa
open Go.RowKit

/-- What a slice holds lies in memory. -/
theorem Holds.under {w : World} {ok : Nat → Nat → Prop} {v : Value} {subs : List Sh} (h : Holds cA w ok v subs) : Holds cA w (fun b _ => b < w.heap.size) v subs := by
  induction h with
  | nil a cap => exact .nil a cap
  | row b o cap subs u hok hr hs ih =>
    cases subs with
    | nil => exact .nil _ _
    | cons x r =>
      have h0 := hr 0 x rfl 0 (.int .i64 x.hd.k) rfl
      exact .row b o cap (x :: r) u (World.block_lt_of_cell? w _ h0) hr ih
theorem WRow.less {w : World} {B B' : Nat} {v : Value} {ws : List (List Nat)} (h : WRow w B v ws) (hB : B' ≤ B) : WRow w B' v ws := by
  obtain ⟨vals, ⟨h1, h2⟩, hk⟩ := h
  refine ⟨vals, ⟨h1, ?_⟩, fun i way u a b => (hk i way u a b).less hB⟩
  rcases h2 with h2 | ⟨g, cap, cur, e, hb, r⟩
  · exact .inl h2
  · exact .inr ⟨g, cap, cur, e, Nat.le_trans hB hb, r⟩
def WaysNew (out : List (List Nat)) (w : World) (e : Ending) (w' : World) : Prop := ∃ r, e = .returned r ∧ WRow w' w.heap.size r out ∧ Kept Nil w w'
set_option maxHeartbeats 1000000 in
theorem seek_any (l : List Sh) (hc : countL l ≤ 100) (hk : chkL l 1 = 0) (ok : Nat → Nat → Prop) (a : Option Addr) (cap : Nat) (v : Int) (w : World) (h : Holds cA w ok (.slice a l.length cap) l) :
    Calls Try.prog 30 #[.slice a l.length cap, .int .i64 v] w (WaysNew (wayL l 0 v []) w) := by
  have CW' := Lib.hid (fun W (kk : Kept Nil w W) b (hb : w.heap.size ≤ b) S (hS : S ≠ b) (h1 : Blk W S 42 #[.bool true, .int .i64 v]) (h2 : Buf W b []) => ways_tree v S b (.mk zeroH l) (by simp only [Sh.count]; omega) _ a cap [] W hk (h.under.keptN kk) (fun x o hx e => by omega) hS h1 h2)
  have HL := Lib.hid h
  clear h hk hc
  go_enter Try.func30, Try.ntmps30
  obtain ⟨i0, hi, hz0, hz1, hz2⟩ := info_parts infoI
  go_wp2_with (at_make; refine wpList_make_own _ rfl _ _ 38 rfl w.heap.size 3 i0 (.int .i64 0) 1 Try.underlying38 hi hz0 hz1 .i64 .i64 3 3 rfl rfl rfl (by rw [hz2]; omega) (by unfold maxLen; omega) (by simp) ?_)
  intro w2 own2 grow2
  have K2 := Lib.hid (((Kept.refl Nil w).alloc (.cells #[.bool true, .int .i64 v] 42)).grown grow2 (fun k hk => by cases hk))
  have BS := Lib.hid ((Blk.new w 42 #[.bool true, .int .i64 v]).kept (((Kept.refl Nil _).grown grow2 (fun k hk => by cases hk))) id)
  have HBu : Hid (Buf w2 (w.heap.size + 1) []) := Lib.hid (by
    rcases own2.2 with ⟨e, _⟩ | ⟨g, cap, cur, e, hb, hg, hn, hm, hs, _⟩
    · cases e
    · have e2 : g = w.heap.size + 1 ∧ cap = 3 := by
        simp at e
        exact ⟨e.1.symm, e.2.symm⟩
      obtain ⟨rfl, rfl⟩ := e2
      exact ⟨cur, hg, by omega, fun j x hj => by simp at hj⟩)
  have CX := Lib.hid (CW'.out w2 K2.out (w.heap.size + 1) (by omega) w.heap.size (by omega) BS.out HBu.out)
  clear own2 grow2 hz0 hz1 hz2 hi
  go_wp2_with fail
  refine CX.out.mono ?_
  rintro e w3 ⟨r, rfl, h3, k3, _⟩
  have K3 := Lib.hid (K2.out.trans (k3.mono (F := fun k => k = w.heap.size + 1) (G := fun k => k = w.heap.size + 1) (fun _ _ g => g)) (fun i hi e => by omega))
  have H3 : Hid (WRow w3 w.heap.size r (wayL l 0 v [])) := Lib.hid (h3.less K2.out.size)
  clear h3 k3
  go_wp2_with fail
  go_ret
  exact ⟨_, rfl, H3.out, K3.out⟩
end Go.Proofs.Ytpdofapbbpihlaa
