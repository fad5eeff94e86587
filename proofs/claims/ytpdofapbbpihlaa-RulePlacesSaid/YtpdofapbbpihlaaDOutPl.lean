/- Layer rule: the contract of the program's outOfPlace: a variable has a place outside of its scope. -/
import Derived.Test.YtpdofapbbpihlaaDScope
namespace Go.Proofs.Ytpdofapbbpihlaa
open Go.RowKit

/-- The closure: a way is not within the scope that it has captured. -/
theorem outside_any (w : World) {B1 B2 C : Nat} {t : TypeId} {u1 u2 : Value} {p q : List Nat} (h1 : Kid w B1 u1 p) (h2 : Kid w B2 u2 q) (hq : q.length ≤ 1000) (hc : Blk w C t #[u2]) :
    Calls Try.prog 39 #[u1, .pointer (some ⟨C, 0, none⟩)] w fun e w' => e = .returned (.bool (!decide (q <+: p))) ∧ Kept Nil w w' := by
  have HC := Lib.hid (within_any w h1 h2 hq)
  have c0 := hc.cell 0
  simp at c0
  obtain ⟨a1, m1, n1, rfl⟩ := h1.shape
  obtain ⟨a2, m2, n2, rfl⟩ := h2.shape
  clear h1 h2 hc
  generalize decide (q <+: p) = r at *
  go_enter Try.func39, Try.ntmps39
  go_wp2_with fail
  refine HC.out.mono ?_
  rintro e w2 ⟨rfl, k2⟩
  go_wp2_with fail
  go_ret
  exact ⟨rfl, k2⟩
abbrev outF (C : Nat) : Value := .func (.func 39) #[] #[.pointer (some ⟨C, 0, none⟩)]
/-- The index of the first, or -1. -/
def IdxEnd (b : Bool) (w : World) (e : Ending) (w' : World) : Prop := ∃ i : Int, e = .returned (.int .i64 i) ∧ decide (0 ≤ i) = b ∧ Kept Nil w w'
theorem any_take_succ {α : Type} {p : α → Bool} {l : List α} {j : Nat} {x : α} (h : l[j]? = some x) : (l.take (j + 1)).any p = ((l.take j).any p || p x) := by
  rw [List.take_add_one, h, List.any_append]
  simp
theorem any_of_at {α : Type} {p : α → Bool} {l : List α} {j : Nat} {x : α} (h : l[j]? = some x) (hp : p x = true) : l.any p = true := by
  rw [List.any_eq_true]
  exact ⟨x, List.mem_of_getElem? h, hp⟩
set_option maxHeartbeats 1000000 in
theorem indexF_any (w : World) {B B2 C n cap : Nat} {a : Option Addr} {ws : List (List Nat)} {t : TypeId} {u2 : Value} {q : List Nat} (h : WRow w B (.slice a n cap) ws) (hn : ws.length = n) (hn2 : n ≤ 1000) (h2 : Kid w B2 u2 q) (hq : q.length ≤ 1000) (hc : Blk w C t #[u2]) :
    Calls Try.prog 52 #[.slice a n cap, outF C] w (IdxEnd (ws.any fun p => !decide (q <+: p)) w) := by
  have HW := Lib.hid h
  have HN := Lib.hid hn
  have H2 := Lib.hid h2
  have HC := Lib.hid hc
  clear h hn h2 hc
  go_enter Try.func52, Try.ntmps52
  go_wp2_with fail
  go_loopw [5, 8] (fun _ i wr => ∃ j : Nat, j ≤ n ∧ i = .int .i64 j ∧ Hid ((ws.take j).any (fun p => !decide (q <+: p)) = false) ∧ Kept Nil w wr) (fun _ i _ => n - (intOf i).toNat)
  case atStart => exact ⟨0, by omega, rfl, Lib.hid rfl, Kept.refl _ _⟩
  case round =>
    obtain ⟨j, hj, rfl, HT, hK⟩ := hrel
    have HK := Lib.hid hK
    clear hK
    by_cases hlt : j < n
    · obtain ⟨p, hp⟩ : ∃ p, ws[j]? = some p := ⟨_, List.getElem?_eq_getElem (by have := HN.out; omega)⟩
      obtain ⟨g, u, ha, z1, hu⟩ := WRow.at_ (HW.out.kept HK.out (fun _ g => g.elim)) hp
      obtain ⟨a1, m1, c1, rfl⟩ := hu.shape
      have HO := Lib.hid (outside_any wr hu (H2.out.keptN HK.out) hq (HC.out.kept HK.out id))
      have HP := Lib.hid hp
      generalize hr : (!decide (q <+: p)) = r at HO
      have HR := Lib.hid hr
      clear hu hp hr
      subst ha
      cases r
      · go_wp2_with fail
        refine HO.out.mono ?_
        rintro e w2 ⟨rfl, k2⟩
        go_wp2_with fail
        go_roundw
        case rel => exact ⟨j + 1, by omega, by go_num, Lib.hid (by rw [any_take_succ HP.out, HT.out, HR.out]; rfl), HK.out.trans k2 (fun _ _ g => g)⟩
        case measure => simp [intOf]; omega
      · go_wp2_with fail
        refine HO.out.mono ?_
        rintro e w2 ⟨rfl, k2⟩
        go_wp2_with fail
        go_ret
        exact ⟨j, rfl, by rw [any_of_at HP.out HR.out, decide_eq_true_eq]; omega, HK.out.trans k2 (fun _ _ g => g)⟩
    · obtain rfl : j = n := by omega
      have HE : Hid (ws.any (fun p => !decide (q <+: p)) = false) := Lib.hid (by have := HT.out; rwa [List.take_of_length_le (by have := HN.out; omega)] at this)
      go_wp2_with fail
      go_ret
      exact ⟨-1, rfl, by rw [HE.out]; rfl, HK.out⟩
theorem containsF_any (w : World) {B B2 C n cap : Nat} {a : Option Addr} {ws : List (List Nat)} {t : TypeId} {u2 : Value} {q : List Nat} (h : WRow w B (.slice a n cap) ws) (hn : ws.length = n) (hn2 : n ≤ 1000) (h2 : Kid w B2 u2 q) (hq : q.length ≤ 1000) (hc : Blk w C t #[u2]) :
    Calls Try.prog 38 #[.slice a n cap, outF C] w fun e w' => e = .returned (.bool (ws.any fun p => !decide (q <+: p))) ∧ Kept Nil w w' := by
  have HI := Lib.hid (indexF_any w h hn hn2 h2 hq hc)
  clear h hn h2 hc
  generalize ws.any (fun p => !decide (q <+: p)) = r at *
  go_enter Try.func38, Try.ntmps38
  go_wp2_with fail
  refine HI.out.mono ?_
  rintro e w2 ⟨i, rfl, hi, k2⟩
  have HE := Lib.hid hi
  clear hi
  go_wp2_with fail
  go_ret
  exact ⟨ret_bool HE.out, k2⟩
theorem outL_ways {l : List Sh} {v : Int} {d : Int} (hk : chkL l d = 0) : wayL l 0 v [] = [] → outL l v ≠ 1 := fun h => by
  have h0 : wayK l 0 v [] = [] := by unfold wayL at h; simpa using h
  have := ((out_ways v).2 l d hk 0 []).1
  rw [h0] at this
  exact of_decide_eq_false this.symm
theorem outL_first {l : List Sh} {v : Int} {d : Int} (hk : chkL l d = 0) {p : List Nat} {r : List (List Nat)} (h : wayL l 0 v [] = p :: r) : ∃ x, atW l p = some x ∧ (wayL l 0 v []).any (fun y => !decide (scopeW x.hd.k p <+: y)) = decide (outL l v = 1) := by
  cases hw : wayK l 0 v [] with
  | nil => unfold wayL at h; rw [hw] at h; cases h
  | cons q s =>
    have hp : q.1 = p := by
      unfold wayL at h
      rw [hw, List.map_cons, List.cons.injEq] at h
      exact h.1
    obtain ⟨x, hx, hxk⟩ := wayK_to v l (p := q) (by rw [hw]; exact List.mem_cons_self)
    rw [hp] at hx
    refine ⟨x, hx, ?_⟩
    have := ((out_ways v).2 l d hk 0 []).1
    rw [hw, outW_cons] at this
    rw [← this, hxk, ← hp]
    unfold wayL
    rw [hw, List.any_map]
    rfl
end Go.Proofs.Ytpdofapbbpihlaa
