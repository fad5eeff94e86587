/- Layer rule: the contracts of the program's condAt and scopeOf: what a way goes to, and the way to the scope of a variable whose first place it is. -/
import Derived.Test.YtpdofapbbpihlaaDEqual
namespace Go.Proofs.Ytpdofapbbpihlaa
open Go.RowKit

/-- What a way goes to. -/
def atW : List Sh → List Nat → Option Sh
  | _, [] => none
  | L, i :: r => if r = [] then L[i]? else (L[i]?).bind fun x => atW x.subs r
theorem atW_one (L : List Sh) (i : Nat) : atW L [i] = L[i]? := by rw [atW, if_pos rfl]
theorem atW_cons (L : List Sh) (i : Nat) {r : List Nat} (h : r ≠ []) : atW L (i :: r) = (L[i]?).bind fun x => atW x.subs r := by rw [atW, if_neg h]
theorem subW_none (way : List Nat) : way.foldl (fun (o : Option (List Sh)) i => o.bind fun l => l[i]?.map Sh.subs) none = none := by
  induction way with
  | nil => rfl
  | cons i r ih => exact ih
theorem atW_sub {x : Sh} {j : Nat} {M : List Sh} : ∀ (w : List Nat) (L : List Sh), subW L w = some M → M[j]? = some x → atW L (w ++ [j]) = some x
  | [], L, h, hx => by
    have : L = M := by simpa [subW] using h
    rw [this, List.nil_append, atW_one, hx]
  | i :: r, L, h, hx => by
    rw [List.cons_append, atW_cons L i (by simp)]
    cases hy : L[i]? with
    | none =>
      exfalso
      unfold subW at h
      rw [List.foldl_cons] at h
      simp only [Option.bind_some, hy, Option.map_none] at h
      rw [subW_none] at h
      cases h
    | some y =>
      have h2 : subW y.subs r = some M := by
        unfold subW at h ⊢
        rw [List.foldl_cons] at h
        simpa only [Option.bind_some, hy, Option.map_some] using h
      rw [Option.bind_some]
      exact atW_sub r y.subs h2 hx
/-- Each way of a variable goes to a condition of its kind. -/
theorem wayK_to (v : Int) (L : List Sh) {p : List Nat × Int} (hp : p ∈ wayK L 0 v []) : ∃ x, atW L p.1 = some x ∧ x.hd.k = p.2 := by
  obtain ⟨w, M, j, x, e, hs, hx, hk⟩ := (wayK_at v L).2 L L 0 [] (by simp) rfl p hp
  exact ⟨x, by rw [e]; exact atW_sub w L hs hx, hk⟩
/-- A condition of that kind is handed back. -/
def KindEnd (k : Int) (w : World) (e : Ending) (w' : World) : Prop := ∃ hd u, e = .returned (vA hd u) ∧ hd.k = k ∧ Kept Nil w w'
/-- On the way: what is left of it goes to the same, from here, in memory ahead of B. -/
def OnWay (B : Nat) (W : World) (v : Value) (r : List Nat) (x : Sh) (hd : Hd) : Prop := (r = [] → hd.k = x.hd.k) ∧ (r ≠ [] → ∃ M a cap, v = .slice a (List.length M) cap ∧ Holds cA W (fun b _ => b < B) v M ∧ atW M r = some x)
theorem OnWay.kept {B : Nat} {F : Nat → Prop} {W W' : World} {v : Value} {r : List Nat} {x : Sh} {hd : Hd} (h : OnWay B W v r x hd) (k : Kept F W W') (hF : ∀ i, F i → B ≤ i) : OnWay B W' v r x hd := by
  refine ⟨h.1, fun hr => ?_⟩
  obtain ⟨M, a, cap, e, hh, ha⟩ := h.2 hr
  exact ⟨M, a, cap, e, hh.kept k (fun b o hb hf => by have := hF b hf; omega), ha⟩
theorem OnWay.step {B : Nat} {W : World} {v : Value} {i : Nat} {r : List Nat} {x : Sh} {hd : Hd} (h : OnWay B W v (i :: r) x hd) : ∃ bb o n c hd' a' ns cap', v = .slice (some ⟨bb, o, none⟩) n c ∧ i < n ∧ W.rangeAt bb (o + i * 8) (cA hd' (.slice a' ns cap')) ∧ OnWay B W (.slice a' ns cap') r x hd' := by
  obtain ⟨M, a, cap, rfl, hh, ha⟩ := h.2 (by simp)
  by_cases hr : r = []
  · subst hr
    rw [atW_one] at ha
    obtain ⟨hd', sb⟩ := x
    obtain ⟨b, o, a', cap', rfl, _, h1, h2⟩ := hh.at_ ha
    exact ⟨b, o, _, cap, hd', a', _, cap', rfl, (List.getElem?_eq_some_iff.1 ha).1, h1, fun _ => rfl, fun e => absurd rfl e⟩
  · rw [atW_cons _ _ hr] at ha
    obtain ⟨y, hy, hy2⟩ := Option.bind_eq_some_iff.1 ha
    obtain ⟨hd', sb⟩ := y
    obtain ⟨b, o, a', cap', rfl, _, h1, h2⟩ := hh.at_ hy
    exact ⟨b, o, _, cap, hd', a', _, cap', rfl, (List.getElem?_eq_some_iff.1 hy).1, h1, fun e => absurd e hr, fun _ => ⟨sb, a', cap', rfl, h2, hy2⟩⟩
abbrev zH : Hd := ⟨0, false, false, false, 0, 0, 0⟩
set_option maxHeartbeats 2000000 in
theorem condAt_any (L : List Sh) (ok : Nat → Nat → Prop) (a : Option Addr) (cap : Nat) (w : World) (h : Holds cA w ok (.slice a L.length cap) L) {B : Nat} {u : Value} {way : List Nat} (hw : Kid w B u way) (hn : 0 < way.length ∧ way.length ≤ 1000) (hs : ∀ i ∈ way, i ≤ 1000) (x : Sh) (hx : atW L way = some x) :
    Calls Try.prog 51 #[.slice a L.length cap, u] w (KindEnd x.hd.k w) := by
  obtain ⟨g, c, cs, rfl, hc, _, hb, hcs⟩ := hw
  have HO : Hid (OnWay w.heap.size w (.slice a L.length cap) way x zH) := Lib.hid ⟨fun e => absurd hn.1 (by rw [e]; simp), fun _ => ⟨L, a, cap, rfl, h.under, hx⟩⟩
  have HB := Lib.hid hb
  have HC := Lib.hid hcs
  have HS := Lib.hid hs
  generalize hl : way.length = n at *
  have HN := Lib.hid hl
  generalize L.length = m at *
  clear h hx hb hcs hs hl
  have B0 := Lib.hid ((Blk.new w 45 zA).alloc (.cells zA 45))
  have B1 : Hid (Blk ((w.alloc (.cells zA 45)).alloc (.cells zA 45)) (w.heap.size + 1) 45 (arrA zH (.slice none 0 0))) := Lib.hid (by
    have := Blk.new (w.alloc (.cells zA 45)) 45 zA
    simpa using this)
  have K0 := Lib.hid (((Kept.refl Nil w).alloc (.cells zA 45)).alloc (.cells zA 45))
  go_enter Try.func51, Try.ntmps51
  go_wp2_with fail
  go_loopw [0, 7, 10] (fun v0 _ i wr => ∃ j : Nat, j ≤ n ∧ i = .int .i64 j ∧ Blk wr w.heap.size 45 zA ∧ (∃ hd s k c, Blk wr (w.heap.size + 1) 45 (arrA hd (.slice s k c)) ∧ OnWay w.heap.size wr v0 (way.drop j) x hd) ∧ Kept Nil w wr) (fun _ _ i _ => n - (intOf i).toNat)
  case atStart => exact ⟨0, by omega, rfl, B0.out, ⟨zH, none, 0, 0, B1.out, HO.out.kept K0.out (fun _ g => g.elim)⟩, K0.out⟩
  case round =>
    obtain ⟨j, hj, rfl, hB, ⟨hd0, s0, k0, c0, hB1, hO⟩, hK⟩ := hrel
    have HB0 := Lib.hid hB
    have HB1 := Lib.hid hB1
    have HO1 := Lib.hid hO
    have HK := Lib.hid hK
    have hw1 : w.heap.size < wr.heap.size := hB.lt
    have hw2 : w.heap.size + 1 < wr.heap.size := hB1.lt
    clear hB hB1 hO hK HO B0 B1 K0
    by_cases hlt : j < n
    · obtain ⟨i, hi⟩ : ∃ i, way[j]? = some i := ⟨_, List.getElem?_eq_getElem (by have := HN.out; omega)⟩
      have hdrop : way.drop j = i :: way.drop (j + 1) := by
        obtain ⟨hl, e⟩ := List.getElem?_eq_some_iff.1 hi
        rw [List.drop_eq_getElem_cons hl, e]
      have hO2 := HO1.out
      rw [hdrop] at hO2
      obtain ⟨bb, o, n', c', ⟨k', x0', x1', x2', n0', n1', n2'⟩, a', ns, cap', rfl, hin, hr, hO3⟩ := OnWay.step hO2
      have z1 := (HB.out.kept HK.out id).cell j
      rw [HC.out j i hi] at z1
      have hi1 := HS.out i (List.mem_of_getElem? hi)
      have HR := Lib.hid hr
      have HO3 := Lib.hid hO3
      clear hi hdrop hO2 hr hO3 HO1
      go_wp2_with (first
        | ((with_reducible refine wpList_load_A rfl (.tmp 16) rfl _ _ rfl ⟨k', x0', x1', x2', n0', n1', n2'⟩ (.slice a' ns cap') ?_ ?_)
           · exact HR.out)
        | ((with_reducible refine wpList_store_A rfl (.tmp 5) _ rfl _ ⟨k', x0', x1', x2', n0', n1', n2'⟩ a' ns cap' rfl rfl hd0 (.slice s0 k0 c0) ?_ ?_)
           · exact HB1.out
           intro W kW bW
           have KW := Lib.hid kW
           have BW := Lib.hid bW
           have c7 := bW.cell 7
           simp at c7
           clear kW bW))
      refine ⟨⟨j + 1, by omega, by go_num, HB0.out.kept KW.out (by omega), ⟨_, a', ns, cap', BW.out, HO3.out.kept KW.out (fun i e => by omega)⟩, HK.out.trans KW.out (fun i hi e => by omega)⟩, by simp [intOf]; omega⟩
    · obtain rfl : j = n := by omega
      have HK0 : Hid (hd0.k = x.hd.k) := Lib.hid (HO1.out.1 (List.drop_of_length_le (by have := HN.out; omega)))
      clear HO1
      go_wp2_with (first
        | ((with_reducible refine wpList_load_A rfl (.tmp 5) rfl _ _ rfl hd0 (.slice s0 k0 c0) ?_ ?_)
           · exact World.rangeAt_of_block HB1.out 0 8)
        | ((with_reducible refine wpList_store_A3 rfl (.tmp 4) _ rfl _ hd0 _ _ _ rfl rfl zA rfl ?_ ?_)
           · exact HB0.out
           intro W kW bW
           have KW := Lib.hid kW
           have BW := Lib.hid bW
           clear kW bW))
      refine bodyPost_ret (results_cell_row Try.results51 _ _ _ _ _ _ _ rfl BW.out Try.underlying45 rfl (by kernel_rfl)) rfl ?_
      exact ⟨hd0, _, rfl, HK0.out, HK.out.trans KW.out (fun i hi e => by omega)⟩
theorem fieldKind (hd : Hd) (u : Value) (W : World) : (Instr.field 45 (vA hd u) 0).run Try.prog W = .ok (.int .i64 hd.k) W := by
  simp [Instr.field, run_underlying Try.underlying45, part, isAgg, run_underlying Try.underlying3, asAgg]
/-- The way to a scope. -/
def ScopeEnd (B : Nat) (k : Int) (way : List Nat) (w : World) (e : Ending) (w' : World) : Prop := ∃ u, e = .returned u ∧ Kid w' B u (scopeW k way) ∧ Kept Nil w w'
set_option maxHeartbeats 1000000 in
theorem scopeOf_any (L : List Sh) (ok : Nat → Nat → Prop) (a : Option Addr) (cap : Nat) (w : World) (h : Holds cA w ok (.slice a L.length cap) L) {B : Nat} {u : Value} {way : List Nat} (hw : Kid w B u way) (hn : 0 < way.length ∧ way.length ≤ 1000) (hs : ∀ i ∈ way, i ≤ 1000) (x : Sh) (hx : atW L way = some x) :
    Calls Try.prog 37 #[.slice a L.length cap, u] w (ScopeEnd B x.hd.k way w) := by
  have C := Lib.hid (condAt_any L ok a cap w h hw hn hs x hx)
  have HW := Lib.hid hw
  obtain ⟨g, c, cs, rfl, hc, _⟩ := hw
  have HD : Hid (way.length - 1 = way.dropLast.length) := Lib.hid (by simp)
  have HT : Hid (∀ W, Kept Nil w W → Kid W B (.slice (some ⟨g, 0, none⟩) (way.length - 1) c) way.dropLast) := Lib.hid (fun W k => by
    obtain ⟨g', c', cs', e, h1, h2, h3, h4⟩ := HW.out.keptN k
    cases e
    exact ⟨g, c, cs', by rw [HD.out], by rw [← HD.out]; omega, h2, h3, fun j y hj => h4 j y (by
      rw [List.dropLast_eq_take, List.getElem?_take] at hj
      split at hj
      · exact hj
      · cases hj)⟩)
  have HY : Hid (x.hd.k = 2 → scopeW x.hd.k way = way) := Lib.hid (fun e => by unfold scopeW; rw [if_pos e])
  have HX : Hid (x.hd.k ≠ 2 → scopeW x.hd.k way = way.dropLast) := Lib.hid (fun e => by unfold scopeW; rw [if_neg e])
  generalize x.hd.k = k at *
  generalize way.length = n at *
  generalize L.length = m at *
  obtain ⟨hn0, hn1⟩ := hn
  clear h hx hs
  go_enter Try.func37, Try.ntmps37
  go_wp2_with fail
  refine C.out.mono ?_
  rintro e w2 ⟨hd, v, rfl, hk, k2⟩
  have F := fieldKind hd v w2
  rw [hk] at F
  have HK := Lib.hid k2
  clear hk k2
  by_cases h2 : k = 2
  · subst h2
    go_wp2_with fail
    go_ret
    exact ⟨.slice (some ⟨g, 0, none⟩) n c, rfl, by rw [HY.out trivial]; exact HW.out.keptN HK.out, HK.out⟩
  · have hk2 : (k == 2) = false := by simpa using h2
    go_wp2_with fail
    go_ret
    exact ⟨.slice (some ⟨g, 0, none⟩) (n - 1) c, rfl, by rw [HX.out h2]; exact HT.out _ HK.out, HK.out⟩
end Go.Proofs.Ytpdofapbbpihlaa
