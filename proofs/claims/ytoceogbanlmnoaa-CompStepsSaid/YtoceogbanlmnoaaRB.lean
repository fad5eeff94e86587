/- Layer rule: the contracts of the program's condAt and scopeOf: what a way goes to, and the way to the scope of a variable whose first place it is. – Layer rule: the contract of the program's outOfPlace: a variable has a place outside of its scope. – Layer rule: outOfPlace, tooLong, Size: what the program's Check asks. – Layer rule: what it needs of names: fits, Right (both); after layer sym. – Layer rule: the contract of the program's Check. -/
import Derived.Test.YtoceogbanlmnoaaRA
import Derived.Test.YtoceogbanlmnoaaFrame
import Derived.WalkSpells
import Derived.WalkLawsBesides
import Derived.ProofKit
import Derived.Outline
import Derived.BigQuiet
import Derived.Deep.QuietTactic
import Derived.Laws.RangeAny
namespace Go.Proofs.Ytoceogbanlmnoaa
section
open Go.RowKit
set_option maxRecDepth 100000

abbrev zA : Array Value := #[.int .i64 0, .bool false, .int .i64 0, .bool false, .int .i64 0, .bool false, .int .i64 0, .slice none 0 0]
theorem wpList_store_A3 {ops : Array Oper} {rest : List Oper} {o : Oper} {a : Act} {w : World} {Q : Exit → Act → World → Prop} (hgd : o.guard = none) (x y : Operand) (ho : o.op = .store 27 x y)
    (g : Nat) (h : Hd) (s : Option Addr) (n c : Nat) (hx : a.eval x = .pointer (some ⟨g, 0, none⟩)) (hy : a.eval y = vA h (.slice s n c)) (v0 : Array Value) (h8 : v0.size = 8) (hg : Blk w g 27 v0)
    (hn : ∀ W, Kept (fun k => k = g) w W → Blk W g 27 (arrA h (.slice s n c)) → wpList Try.prog ops Q rest (a.put o.dst undef) W) : wpList Try.prog ops Q (o :: rest) a w :=
  wpList_store_rowW hgd _ x y ho g _ hx hy _ _ hg infoA8 h8 (by simp [Value.oneCell']) hn

/-- What a way goes to. -/
def atW : List Sh → List Nat → Option Sh
  | _, [] => none
  | L, i :: r => if r = [] then L[i]? else (L[i]?).bind fun x => atW x.subs r
theorem atW_one (L : List Sh) (i : Nat) : atW L [i] = L[i]? := by rw [atW, if_pos rfl]
theorem atW_cons (L : List Sh) (i : Nat) {r : List Nat} (h : r ≠ []) : atW L (i :: r) = (L[i]?).bind fun x => atW x.subs r := by rw [atW, if_neg h]
theorem subW_none (way : List Nat) : way.foldl (fun (o : Option (List Sh)) i => o.bind fun l => l[i]?.map Sh.subs) none = none := by
  induction way with
  | nil => rfl
  | cons i r ih => exact ih
theorem atW_sub {x : Sh} {j : Nat} {M : List Sh} : ∀ (w : List Nat) (L : List Sh), subW L w = some M → M[j]? = some x → atW L (w ++ [j]) = some x
  | [], L, h, hx => by
    have : L = M := by simpa [subW] using h
    rw [this, List.nil_append, atW_one, hx]
  | i :: r, L, h, hx => by
    rw [List.cons_append, atW_cons L i (by simp)]
    cases hy : L[i]? with
    | none =>
      exfalso
      unfold subW at h
      rw [List.foldl_cons] at h
      simp only [Option.bind_some, hy, Option.map_none] at h
      rw [subW_none] at h
      cases h
    | some y =>
      have h2 : subW y.subs r = some M := by
        unfold subW at h ⊢
        rw [List.foldl_cons] at h
        simpa only [Option.bind_some, hy, Option.map_some] using h
      rw [Option.bind_some]
      exact atW_sub r y.subs h2 hx
/-- Each way of a variable goes to a condition of its kind. -/
theorem wayK_to (v : Int) (L : List Sh) {p : List Nat × Int} (hp : p ∈ wayK L 0 v []) : ∃ x, atW L p.1 = some x ∧ x.hd.k = p.2 := by
  obtain ⟨w, M, j, x, e, hs, hx, hk⟩ := (wayK_at v L).2 L L 0 [] (by simp) rfl p hp
  exact ⟨x, by rw [e]; exact atW_sub w L hs hx, hk⟩
/-- A condition of that kind is handed back. -/
def KindEnd (k : Int) (w : World) (e : Ending) (w' : World) : Prop := ∃ hd u, e = .returned (vA hd u) ∧ hd.k = k ∧ Kept Nil w w'
/-- On the way: what is left of it goes to the same, from here, in memory ahead of B. -/
def OnWay (B : Nat) (W : World) (v : Value) (r : List Nat) (x : Sh) (hd : Hd) : Prop := (r = [] → hd.k = x.hd.k) ∧ (r ≠ [] → ∃ M a cap, v = .slice a (List.length M) cap ∧ Holds cA W (fun b _ => b < B) v M ∧ atW M r = some x)
theorem OnWay.kept {B : Nat} {F : Nat → Prop} {W W' : World} {v : Value} {r : List Nat} {x : Sh} {hd : Hd} (h : OnWay B W v r x hd) (k : Kept F W W') (hF : ∀ i, F i → B ≤ i) : OnWay B W' v r x hd := by
  refine ⟨h.1, fun hr => ?_⟩
  obtain ⟨M, a, cap, e, hh, ha⟩ := h.2 hr
  exact ⟨M, a, cap, e, hh.kept k (fun b o hb hf => by have := hF b hf; omega), ha⟩
theorem OnWay.step {B : Nat} {W : World} {v : Value} {i : Nat} {r : List Nat} {x : Sh} {hd : Hd} (h : OnWay B W v (i :: r) x hd) : ∃ bb o n c hd' a' ns cap', v = .slice (some ⟨bb, o, none⟩) n c ∧ i < n ∧ W.rangeAt bb (o + i * 8) (cA hd' (.slice a' ns cap')) ∧ OnWay B W (.slice a' ns cap') r x hd' := by
  obtain ⟨M, a, cap, rfl, hh, ha⟩ := h.2 (by simp)
  by_cases hr : r = []
  · subst hr
    rw [atW_one] at ha
    obtain ⟨hd', sb⟩ := x
    obtain ⟨b, o, a', cap', rfl, _, h1, h2⟩ := hh.at_ ha
    exact ⟨b, o, _, cap, hd', a', _, cap', rfl, (List.getElem?_eq_some_iff.1 ha).1, h1, fun _ => rfl, fun e => absurd rfl e⟩
  · rw [atW_cons _ _ hr] at ha
    obtain ⟨y, hy, hy2⟩ := Option.bind_eq_some_iff.1 ha
    obtain ⟨hd', sb⟩ := y
    obtain ⟨b, o, a', cap', rfl, _, h1, h2⟩ := hh.at_ hy
    exact ⟨b, o, _, cap, hd', a', _, cap', rfl, (List.getElem?_eq_some_iff.1 hy).1, h1, fun e => absurd e hr, fun _ => ⟨sb, a', cap', rfl, h2, hy2⟩⟩
abbrev zH : Hd := ⟨0, false, false, false, 0, 0, 0⟩
set_option maxHeartbeats 2000000 in
theorem condAt_any (L : List Sh) (ok : Nat → Nat → Prop) (a : Option Addr) (cap : Nat) (w : World) (h : Holds cA w ok (.slice a L.length cap) L) {B : Nat} {u : Value} {way : List Nat} (hw : KidR w B u way) (hn : 0 < way.length ∧ way.length ≤ 1000) (hs : ∀ i ∈ way, i ≤ 1000) (x : Sh) (hx : atW L way = some x) :
    Calls Try.prog 88 #[.slice a L.length cap, u] w (KindEnd x.hd.k w) := by
  obtain ⟨g, c, cs, rfl, hc, _, hb, hcs⟩ := hw
  have HO : Hid (OnWay w.heap.size w (.slice a L.length cap) way x zH) := Lib.hid ⟨fun e => absurd hn.1 (by rw [e]; simp), fun _ => ⟨L, a, cap, rfl, h.under, hx⟩⟩
  have HB := Lib.hid hb
  have HC := Lib.hid hcs
  have HS := Lib.hid hs
  generalize hl : way.length = n at *
  have HN := Lib.hid hl
  generalize L.length = m at *
  clear h hx hb hcs hs hl
  have B0 := Lib.hid ((Blk.new w 27 zA).alloc (.cells zA 27))
  have B1 : Hid (Blk ((w.alloc (.cells zA 27)).alloc (.cells zA 27)) (w.heap.size + 1) 27 (arrA zH (.slice none 0 0))) := Lib.hid (by
    have := Blk.new (w.alloc (.cells zA 27)) 27 zA
    simpa using this)
  have K0 := Lib.hid (((Kept.refl Nil w).alloc (.cells zA 27)).alloc (.cells zA 27))
  go_enter Try.func88, Try.ntmps88
  go_wp2_with fail
  go_loopw [0, 7, 10] (fun v0 _ i wr => ∃ j : Nat, j ≤ n ∧ i = .int .i64 j ∧ Blk wr w.heap.size 27 zA ∧ (∃ hd s k c, Blk wr (w.heap.size + 1) 27 (arrA hd (.slice s k c)) ∧ OnWay w.heap.size wr v0 (way.drop j) x hd) ∧ Kept Nil w wr) (fun _ _ i _ => n - (intOf i).toNat)
  case atStart => exact ⟨0, by omega, rfl, B0.out, ⟨zH, none, 0, 0, B1.out, HO.out.kept K0.out (fun _ g => g.elim)⟩, K0.out⟩
  case round =>
    obtain ⟨j, hj, rfl, hB, ⟨hd0, s0, k0, c0, hB1, hO⟩, hK⟩ := hrel
    have HB0 := Lib.hid hB
    have HB1 := Lib.hid hB1
    have HO1 := Lib.hid hO
    have HK := Lib.hid hK
    have hw1 : w.heap.size < wr.heap.size := hB.lt
    have hw2 : w.heap.size + 1 < wr.heap.size := hB1.lt
    clear hB hB1 hO hK HO B0 B1 K0
    by_cases hlt : j < n
    · obtain ⟨i, hi⟩ : ∃ i, way[j]? = some i := ⟨_, List.getElem?_eq_getElem (by have := HN.out; omega)⟩
      have hdrop : way.drop j = i :: way.drop (j + 1) := by
        obtain ⟨hl, e⟩ := List.getElem?_eq_some_iff.1 hi
        rw [List.drop_eq_getElem_cons hl, e]
      have hO2 := HO1.out
      rw [hdrop] at hO2
      obtain ⟨bb, o, n', c', ⟨k', x0', x1', x2', n0', n1', n2'⟩, a', ns, cap', rfl, hin, hr, hO3⟩ := OnWay.step hO2
      have z1 := (HB.out.kept HK.out id).cell j
      rw [HC.out j i hi] at z1
      have hi1 := HS.out i (List.mem_of_getElem? hi)
      have HR := Lib.hid hr
      have HO3 := Lib.hid hO3
      clear hi hdrop hO2 hr hO3 HO1
      go_wp2_with (first
        | ((with_reducible refine wpList_load_A rfl (.tmp 16) rfl _ _ rfl ⟨k', x0', x1', x2', n0', n1', n2'⟩ (.slice a' ns cap') ?_ ?_)
           · exact HR.out)
        | ((with_reducible refine wpList_store_A rfl (.tmp 5) _ rfl _ ⟨k', x0', x1', x2', n0', n1', n2'⟩ a' ns cap' rfl rfl hd0 (.slice s0 k0 c0) ?_ ?_)
           · exact HB1.out
           intro W kW bW
           have KW := Lib.hid kW
           have BW := Lib.hid bW
           have c7 := bW.cell 7
           simp at c7
           clear kW bW))
      refine ⟨⟨j + 1, by omega, by go_num, HB0.out.kept KW.out (by omega), ⟨_, a', ns, cap', BW.out, HO3.out.kept KW.out (fun i e => by omega)⟩, HK.out.trans KW.out (fun i hi e => by omega)⟩, by simp [intOf]; omega⟩
    · obtain rfl : j = n := by omega
      have HK0 : Hid (hd0.k = x.hd.k) := Lib.hid (HO1.out.1 (List.drop_of_length_le (by have := HN.out; omega)))
      clear HO1
      go_wp2_with (first
        | ((with_reducible refine wpList_load_A rfl (.tmp 5) rfl _ _ rfl hd0 (.slice s0 k0 c0) ?_ ?_)
           · exact World.rangeAt_of_block HB1.out 0 8)
        | ((with_reducible refine wpList_store_A3 rfl (.tmp 4) _ rfl _ hd0 _ _ _ rfl rfl zA rfl ?_ ?_)
           · exact HB0.out
           intro W kW bW
           have KW := Lib.hid kW
           have BW := Lib.hid bW
           clear kW bW))
      refine bodyPost_ret (results_cell_row Try.results88 _ _ _ _ _ _ _ rfl BW.out Try.underlying27 rfl (by kernel_rfl)) rfl ?_
      exact ⟨hd0, _, rfl, HK0.out, HK.out.trans KW.out (fun i hi e => by omega)⟩
theorem fieldKind (hd : Hd) (u : Value) (W : World) : (Instr.field 27 (vA hd u) 0).run Try.prog W = .ok (.int .i64 hd.k) W := by
  simp [Instr.field, run_underlying Try.underlying27, part, isAgg, run_underlying Try.underlying3, asAgg]
/-- The way to a scope. -/
def ScopeEnd (B : Nat) (k : Int) (way : List Nat) (w : World) (e : Ending) (w' : World) : Prop := ∃ u, e = .returned u ∧ KidR w' B u (scopeW k way) ∧ Kept Nil w w'
set_option maxHeartbeats 1000000 in
theorem scopeOf_any (L : List Sh) (ok : Nat → Nat → Prop) (a : Option Addr) (cap : Nat) (w : World) (h : Holds cA w ok (.slice a L.length cap) L) {B : Nat} {u : Value} {way : List Nat} (hw : KidR w B u way) (hn : 0 < way.length ∧ way.length ≤ 1000) (hs : ∀ i ∈ way, i ≤ 1000) (x : Sh) (hx : atW L way = some x) :
    Calls Try.prog 76 #[.slice a L.length cap, u] w (ScopeEnd B x.hd.k way w) := by
  have C := Lib.hid (condAt_any L ok a cap w h hw hn hs x hx)
  have HW := Lib.hid hw
  obtain ⟨g, c, cs, rfl, hc, _⟩ := hw
  have HD : Hid (way.length - 1 = way.dropLast.length) := Lib.hid (by simp)
  have HT : Hid (∀ W, Kept Nil w W → KidR W B (.slice (some ⟨g, 0, none⟩) (way.length - 1) c) way.dropLast) := Lib.hid (fun W k => by
    obtain ⟨g', c', cs', e, h1, h2, h3, h4⟩ := HW.out.keptN k
    cases e
    exact ⟨g, c, cs', by rw [HD.out], by rw [← HD.out]; omega, h2, h3, fun j y hj => h4 j y (by
      rw [List.dropLast_eq_take, List.getElem?_take] at hj
      split at hj
      · exact hj
      · cases hj)⟩)
  have HY : Hid (x.hd.k = 2 → scopeW x.hd.k way = way) := Lib.hid (fun e => by unfold scopeW; rw [if_pos e])
  have HX : Hid (x.hd.k ≠ 2 → scopeW x.hd.k way = way.dropLast) := Lib.hid (fun e => by unfold scopeW; rw [if_neg e])
  generalize x.hd.k = k at *
  generalize way.length = n at *
  generalize L.length = m at *
  obtain ⟨hn0, hn1⟩ := hn
  clear h hx hs
  go_enter Try.func76, Try.ntmps76
  go_wp2_with fail
  refine C.out.mono ?_
  rintro e w2 ⟨hd, v, rfl, hk, k2⟩
  have F := fieldKind hd v w2
  rw [hk] at F
  have HK := Lib.hid k2
  clear hk k2
  by_cases h2 : k = 2
  · subst h2
    go_wp2_with fail
    go_ret
    exact ⟨.slice (some ⟨g, 0, none⟩) n c, rfl, by rw [HY.out trivial]; exact HW.out.keptN HK.out, HK.out⟩
  · have hk2 : (k == 2) = false := by simpa using h2
    go_wp2_with fail
    go_ret
    exact ⟨.slice (some ⟨g, 0, none⟩) (n - 1) c, rfl, by rw [HX.out h2]; exact HT.out _ HK.out, HK.out⟩
end
section
open Go.RowKit
set_option maxRecDepth 100000

/-- The closure: a way is not within the scope that it has captured. -/
theorem outside_any (w : World) {B1 B2 C : Nat} {t : TypeId} {u1 u2 : Value} {p q : List Nat} (h1 : KidR w B1 u1 p) (h2 : KidR w B2 u2 q) (hq : q.length ≤ 1000) (hc : Blk w C t #[u2]) :
    Calls Try.prog 78 #[u1, .pointer (some ⟨C, 0, none⟩)] w fun e w' => e = .returned (.bool (!decide (q <+: p))) ∧ Kept Nil w w' := by
  have HC := Lib.hid (within_any w h1 h2 hq)
  have c0 := hc.cell 0
  simp at c0
  obtain ⟨a1, m1, n1, rfl⟩ := h1.shape
  obtain ⟨a2, m2, n2, rfl⟩ := h2.shape
  clear h1 h2 hc
  generalize decide (q <+: p) = r at *
  go_enter Try.func78, Try.ntmps78
  go_wp2_with fail
  refine HC.out.mono ?_
  rintro e w2 ⟨rfl, k2⟩
  go_wp2_with fail
  go_ret
  exact ⟨rfl, k2⟩
abbrev outF (C : Nat) : Value := .func (.func 78) #[] #[.pointer (some ⟨C, 0, none⟩)]
/-- The index of the first, or -1. -/
def IdxEndR (b : Bool) (w : World) (e : Ending) (w' : World) : Prop := ∃ i : Int, e = .returned (.int .i64 i) ∧ decide (0 ≤ i) = b ∧ Kept Nil w w'
theorem any_take_succ {α : Type} {p : α → Bool} {l : List α} {j : Nat} {x : α} (h : l[j]? = some x) : (l.take (j + 1)).any p = ((l.take j).any p || p x) := by
  rw [List.take_add_one, h, List.any_append]
  simp
theorem any_of_at {α : Type} {p : α → Bool} {l : List α} {j : Nat} {x : α} (h : l[j]? = some x) (hp : p x = true) : l.any p = true := by
  rw [List.any_eq_true]
  exact ⟨x, List.mem_of_getElem? h, hp⟩
set_option maxHeartbeats 1000000 in
theorem indexF_any (w : World) {B B2 C n cap : Nat} {a : Option Addr} {ws : List (List Nat)} {t : TypeId} {u2 : Value} {q : List Nat} (h : WRow w B (.slice a n cap) ws) (hn : ws.length = n) (hn2 : n ≤ 1000) (h2 : KidR w B2 u2 q) (hq : q.length ≤ 1000) (hc : Blk w C t #[u2]) :
    Calls Try.prog 89 #[.slice a n cap, outF C] w (IdxEndR (ws.any fun p => !decide (q <+: p)) w) := by
  have HW := Lib.hid h
  have HN := Lib.hid hn
  have H2 := Lib.hid h2
  have HC := Lib.hid hc
  clear h hn h2 hc
  go_enter Try.func89, Try.ntmps89
  go_wp2_with fail
  go_loopw [5, 8] (fun _ i wr => ∃ j : Nat, j ≤ n ∧ i = .int .i64 j ∧ Hid ((ws.take j).any (fun p => !decide (q <+: p)) = false) ∧ Kept Nil w wr) (fun _ i _ => n - (intOf i).toNat)
  case atStart => exact ⟨0, by omega, rfl, Lib.hid rfl, Kept.refl _ _⟩
  case round =>
    obtain ⟨j, hj, rfl, HT, hK⟩ := hrel
    have HK := Lib.hid hK
    clear hK
    by_cases hlt : j < n
    · obtain ⟨p, hp⟩ : ∃ p, ws[j]? = some p := ⟨_, List.getElem?_eq_getElem (by have := HN.out; omega)⟩
      obtain ⟨g, u, ha, z1, hu⟩ := WRow.at_ (HW.out.kept HK.out (fun _ g => g.elim)) hp
      obtain ⟨a1, m1, c1, rfl⟩ := hu.shape
      have HO := Lib.hid (outside_any wr hu (H2.out.keptN HK.out) hq (HC.out.kept HK.out id))
      have HP := Lib.hid hp
      generalize hr : (!decide (q <+: p)) = r at HO
      have HR := Lib.hid hr
      clear hu hp hr
      subst ha
      cases r
      · go_wp2_with fail
        refine HO.out.mono ?_
        rintro e w2 ⟨rfl, k2⟩
        go_wp2_with fail
        go_roundw
        case rel => exact ⟨j + 1, by omega, by go_num, Lib.hid (by rw [any_take_succ HP.out, HT.out, HR.out]; rfl), HK.out.trans k2 (fun _ _ g => g)⟩
        case measure => simp [intOf]; omega
      · go_wp2_with fail
        refine HO.out.mono ?_
        rintro e w2 ⟨rfl, k2⟩
        go_wp2_with fail
        go_ret
        exact ⟨j, rfl, by rw [any_of_at HP.out HR.out, decide_eq_true_eq]; omega, HK.out.trans k2 (fun _ _ g => g)⟩
    · obtain rfl : j = n := by omega
      have HE : Hid (ws.any (fun p => !decide (q <+: p)) = false) := Lib.hid (by have := HT.out; rwa [List.take_of_length_le (by have := HN.out; omega)] at this)
      go_wp2_with fail
      go_ret
      exact ⟨-1, rfl, by rw [HE.out]; rfl, HK.out⟩
theorem containsF_any (w : World) {B B2 C n cap : Nat} {a : Option Addr} {ws : List (List Nat)} {t : TypeId} {u2 : Value} {q : List Nat} (h : WRow w B (.slice a n cap) ws) (hn : ws.length = n) (hn2 : n ≤ 1000) (h2 : KidR w B2 u2 q) (hq : q.length ≤ 1000) (hc : Blk w C t #[u2]) :
    Calls Try.prog 77 #[.slice a n cap, outF C] w fun e w' => e = .returned (.bool (ws.any fun p => !decide (q <+: p))) ∧ Kept Nil w w' := by
  have HI := Lib.hid (indexF_any w h hn hn2 h2 hq hc)
  clear h hn h2 hc
  generalize ws.any (fun p => !decide (q <+: p)) = r at *
  go_enter Try.func77, Try.ntmps77
  go_wp2_with fail
  refine HI.out.mono ?_
  rintro e w2 ⟨i, rfl, hi, k2⟩
  have HE := Lib.hid hi
  clear hi
  go_wp2_with fail
  go_ret
  exact ⟨ret_bool HE.out, k2⟩
theorem outL_ways {l : List Sh} {v : Int} {d : Int} (hk : chkL l d = 0) : wayL l 0 v [] = [] → outL l v ≠ 1 := fun h => by
  have h0 : wayK l 0 v [] = [] := by unfold wayL at h; simpa using h
  have := ((out_ways v).2 l d hk 0 []).1
  rw [h0] at this
  exact of_decide_eq_false this.symm
theorem outL_first {l : List Sh} {v : Int} {d : Int} (hk : chkL l d = 0) {p : List Nat} {r : List (List Nat)} (h : wayL l 0 v [] = p :: r) : ∃ x, atW l p = some x ∧ (wayL l 0 v []).any (fun y => !decide (scopeW x.hd.k p <+: y)) = decide (outL l v = 1) := by
  cases hw : wayK l 0 v [] with
  | nil => unfold wayL at h; rw [hw] at h; cases h
  | cons q s =>
    have hp : q.1 = p := by
      unfold wayL at h
      rw [hw, List.map_cons, List.cons.injEq] at h
      exact h.1
    obtain ⟨x, hx, hxk⟩ := wayK_to v l (p := q) (by rw [hw]; exact List.mem_cons_self)
    rw [hp] at hx
    refine ⟨x, hx, ?_⟩
    have := ((out_ways v).2 l d hk 0 []).1
    rw [hw, outW_cons] at this
    rw [← this, hxk, ← hp]
    unfold wayL
    rw [hw, List.any_map]
    rfl
end
section
open Go.RowKit
set_option maxRecDepth 100000

theorem scopeW_len (k : Int) (p : List Nat) : (scopeW k p).length ≤ p.length := by
  unfold scopeW
  split
  · exact Nat.le_refl _
  · simp
set_option maxHeartbeats 1000000 in
theorem outOfPlace_any (l : List Sh) (hc : countL l ≤ 100) (hk : chkL l 1 = 0) (ok : Nat → Nat → Prop) (a : Option Addr) (cap : Nat) (v : Int) (w : World) (h : Holds cA w ok (.slice a l.length cap) l) :
    Calls Try.prog 66 #[.slice a l.length cap, .int .i64 v] w fun e w' => e = .returned (.bool (decide (outL l v = 1))) ∧ Kept Nil w w' := by
  have CS := Lib.hid (seek_any l hc hk ok a cap v w h)
  have HL := Lib.hid h
  cases hw : wayL l 0 v [] with
  | nil =>
    have HO : Hid (decide (outL l v = 1) = false) := Lib.hid (decide_eq_false (outL_ways hk hw))
    rw [hw] at CS
    rw [HO.out]
    generalize l.length = n at *
    clear h hw hk hc
    go_enter Try.func66, Try.ntmps66
    go_wp2_with fail
    refine CS.out.mono ?_
    rintro e w2 ⟨r, rfl, h2, k2⟩
    obtain ⟨a2, c2, rfl⟩ := h2.shape
    simp only [List.length_nil]
    clear h2
    go_wp2_with fail
    go_ret
    exact ⟨rfl, k2⟩
  | cons p r =>
    obtain ⟨x, hx, hany⟩ := outL_first hk hw
    have hpm : p ∈ wayL l 0 v [] := by rw [hw]; exact List.mem_cons_self
    have hp3 : p.length ≤ 3 := (wayL_deep v).2 l 1 hk [] 0 (by simp) p hpm
    have hp0 : 0 < p.length := by
      unfold wayL at hpm
      obtain ⟨q, hq, rfl⟩ := List.mem_map.1 hpm
      obtain ⟨j, s, _, e⟩ := (wayK_begin v).2 l 0 [] q hq
      rw [e]; simp
    have hps : ∀ i ∈ p, i ≤ 1000 := (wayL_small v).2 l 1000 [] (fun y hy => by cases hy) 0 (by omega) p hpm
    have hwn : (wayL l 0 v []).length ≤ 1000 := by have := (wayL_len v).2 l 0 []; omega
    have HP0 : Hid ((wayL l 0 v [])[0]? = some p) := Lib.hid (by rw [hw]; rfl)
    have hne : 0 < (wayL l 0 v []).length := by rw [hw]; simp
    have HSc := Lib.hid (fun w' (k : Kept Nil w w') (B : Nat) (u : Value) (hu : KidR w' B u p) => scopeOf_any l ok a cap w' (HL.out.keptN k) hu ⟨hp0, by omega⟩ hps x hx)
    unfold ScopeEnd at HSc
    have hsl := scopeW_len x.hd.k p
    have HAny := Lib.hid hany
    generalize wayL l 0 v [] = ws at *
    generalize scopeW x.hd.k p = sc at *
    generalize decide (outL l v = 1) = b at *
    generalize l.length = n at *
    clear h hk hw hany hpm hps hx hc
    go_enter Try.func66, Try.ntmps66
    go_wp2_with fail
    refine CS.out.mono ?_
    rintro e w2 ⟨u, rfl, h2, k2⟩
    obtain ⟨a2, c2, rfl⟩ := h2.shape
    obtain ⟨g, up, ha, z0, hup⟩ := h2.at_ HP0.out
    subst ha
    obtain ⟨a1, m1, c1, rfl⟩ := hup.shape
    have HS2 := Lib.hid (HSc.out w2 k2 _ _ hup)
    have H2 := Lib.hid h2
    have K2 := Lib.hid k2
    have hl0 : ((ws.length : Int) == 0) = false := by rw [beq_eq_false_iff_ne]; omega
    generalize hlen : ws.length = len at *
    have HLen := Lib.hid hlen
    clear hlen h2 k2 hup HSc CS
    go_wp2_with fail
    refine HS2.out.mono ?_
    rintro e w3 ⟨u3, rfl, h3, k3⟩
    obtain ⟨a3, m3, c3, rfl⟩ := h3.shape
    have BC := Lib.hid (Blk.new w3 124 #[.slice a3 m3 c3])
    have KA := (Kept.refl Nil w3).alloc (.cells #[.slice a3 m3 c3] 124)
    have HCF := Lib.hid (containsF_any _ (((H2.out.kept k3 (fun _ g => g.elim)).kept KA (fun _ g => g.elim))) HLen.out hwn (h3.keptN KA) (by omega) BC.out)
    rw [HAny.out] at HCF
    have K3 := Lib.hid ((K2.out.trans k3 (fun _ _ g => g)).trans KA (fun _ _ g => g))
    clear h3 k3 KA z0 hl0 HAny
    go_wp2_with fail
    refine HCF.out.mono ?_
    rintro e w4 ⟨rfl, k4⟩
    go_wp2_with fail
    go_ret
    exact ⟨rfl, K3.out.trans k4 (fun _ _ g => g)⟩
set_option maxHeartbeats 1000000 in
theorem sizeP_any (s : Sh) (hc : s.count ≤ 5000) (hk : s.chk 1 = 0) (ok : Nat → Nat → Prop) (a : Option Addr) (cap : Nat) (w : World) (h : Holds cA w ok (.slice a s.subs.length cap) s.subs) :
    Calls Try.prog 74 #[vA s.hd (.slice a s.subs.length cap)] w fun e w' => e = .returned (.int .i64 (s.count : Int)) ∧ Kept Nil w w' := by
  have CR := Lib.hid (fun w' (k : Kept Nil w w') => right_any s hc ok a cap w' (h.keptN k))
  rw [hk] at CR
  have CS := Lib.hid (fun w' (k : Kept Nil w w') => size_any s hc ok a cap w' (h.keptN k))
  generalize s.count = n at CS ⊢
  generalize s.subs.length = len at CR CS ⊢
  generalize s.hd = hd at CR CS ⊢
  obtain ⟨k, x0, x1, x2, n0, n1, n2⟩ := hd
  have K0 := Lib.hid ((Kept.refl Nil w).alloc (.cells (arrA ⟨k, x0, x1, x2, n0, n1, n2⟩ (.slice a len cap)) 27))
  have B0 := Lib.hid (Blk.new w 27 (arrA ⟨k, x0, x1, x2, n0, n1, n2⟩ (.slice a len cap)))
  clear h hk hc
  go_enter Try.func74, Try.ntmps74
  go_wp2_with ((with_reducible refine wpList_load_A rfl (.tmp 1) rfl _ _ rfl ⟨k, x0, x1, x2, n0, n1, n2⟩ (.slice a len cap) ?_ ?_)
               · exact World.rangeAt_of_block B0.out 0 8)
  refine (CR.out _ K0.out).mono ?_
  rintro e w2 ⟨rfl, k2⟩
  have B2 := Lib.hid (B0.out.kept k2 id)
  have K2 := Lib.hid (K0.out.trans k2 (fun _ _ g => g))
  clear k2 B0 K0
  go_wp2_with ((with_reducible refine wpList_load_A rfl (.tmp 1) rfl _ _ rfl ⟨k, x0, x1, x2, n0, n1, n2⟩ (.slice a len cap) ?_ ?_)
               · exact World.rangeAt_of_block B2.out 0 8)
  refine (CS.out _ K2.out).mono ?_
  rintro e w3 ⟨rfl, k3⟩
  go_wp2_with fail
  go_ret
  exact ⟨rfl, K2.out.trans k3 (fun _ _ g => g)⟩
set_option maxHeartbeats 1000000 in
theorem tooLong_any (l : List Sh) (hc : countL l ≤ 100) (hk : chkL l 1 = 0) (ok : Nat → Nat → Prop) (a : Option Addr) (cap : Nat) (w : World) (h : Holds cA w ok (.slice a l.length cap) l) :
    Calls Try.prog 65 #[.slice a l.length cap] w fun e w' => e = .returned (.bool (decide (16 < countL l))) ∧ Kept Nil w w' := by
  have HH := Lib.hid h
  have HC := Lib.hid hk
  have hlen := length_countL l
  generalize hn : l.length = len at *
  have HL := Lib.hid hn
  clear h hk hn
  have HCo := Lib.hid hc
  have hLen : len ≤ 100 := by omega
  clear hc hlen
  go_enter Try.func65, Try.ntmps65
  go_wp2_with fail
  go_loopw [3, 8] (fun n i wr => ∃ j m : Nat, j ≤ len ∧ i = .int .i64 j ∧ n = .int .i64 (m : Int) ∧ m ≤ 16 ∧ Hid (m = countL (l.take j)) ∧ Kept Nil w wr) (fun _ i _ => len - (intOf i).toNat)
  case atStart => exact ⟨0, 0, by omega, rfl, rfl, by omega, Lib.hid (by simp [countL]), Kept.refl _ _⟩
  case round =>
    obtain ⟨j, m, hj, rfl, rfl, hm, HM, hK⟩ := hrel
    have HK := Lib.hid hK
    clear hK
    by_cases hlt : j < len
    · obtain ⟨⟨⟨k', x0', x1', x2', n0', n1', n2'⟩, sb⟩, hx⟩ : ∃ x, l[j]? = some x := ⟨_, List.getElem?_eq_getElem (by have := HL.out; omega)⟩
      obtain ⟨b, o, a', cap', rfl, hok, hr, hs⟩ := (HH.out.keptN HK.out).at_ hx
      have hcm : (Sh.mk ⟨k', x0', x1', x2', n0', n1', n2'⟩ sb).count ≤ 100 := by have := count_mem (List.mem_of_getElem? hx); have := HCo.out; omega
      have HX := Lib.hid (fun w' (k : Kept Nil wr w') => sizeP_any _ (by omega) (chkL_at HC.out hx) ok a' cap' w' (hs.keptN k))
      have HR := Lib.hid hr
      have HN : Hid (countL (l.take (j + 1)) = m + (Sh.mk ⟨k', x0', x1', x2', n0', n1', n2'⟩ sb).count) := Lib.hid (by rw [countL_take_succ hx, HM.out])
      have HB := Lib.hid (countL_take_le l (j + 1))
      clear hx hr hs hok
      generalize (Sh.mk ⟨k', x0', x1', x2', n0', n1', n2'⟩ sb).count = cx at *
      replace HX : Hid (∀ w', Kept Nil wr w' → Calls Try.prog 74 #[vA ⟨k', x0', x1', x2', n0', n1', n2'⟩ (.slice a' sb.length cap')] w' fun e w'' => e = .returned (.int .i64 (cx : Int)) ∧ Kept Nil w' w'') := HX
      generalize sb.length = len' at HR HX
      have K1 := Lib.hid ((Kept.refl Nil wr).alloc (.cells (arrA ⟨k', x0', x1', x2', n0', n1', n2'⟩ (.slice a' len' cap')) 27))
      have B1 := Lib.hid (Blk.new wr 27 (arrA ⟨k', x0', x1', x2', n0', n1', n2'⟩ (.slice a' len' cap')))
      go_wp2_with (first
        | ((with_reducible refine wpList_load_A rfl (.tmp 10) rfl _ _ rfl ⟨k', x0', x1', x2', n0', n1', n2'⟩ (.slice a' len' cap') ?_ ?_)
           · exact HR.out)
        | ((with_reducible refine wpList_load_A rfl (.tmp 5) rfl _ _ rfl ⟨k', x0', x1', x2', n0', n1', n2'⟩ (.slice a' len' cap') ?_ ?_)
           · exact World.rangeAt_of_block B1.out 0 8))
      refine (HX.out _ K1.out).mono ?_
      rintro e w2 ⟨rfl, k2⟩
      have K2 := Lib.hid ((HK.out.trans K1.out (fun _ _ g => g)).trans k2 (fun _ _ g => g))
      clear k2 K1 B1
      by_cases hbig : 16 < m + cx
      · have HE : Hid (decide (16 < countL l) = true) := Lib.hid (decide_eq_true (by have := HN.out; have := HB.out; omega))
        go_wp2_with fail
        go_ret
        exact ⟨ret_bool HE.out.symm, K2.out⟩
      · go_wp2_with fail
        go_roundw
        case rel => exact ⟨j + 1, m + cx, by omega, by go_num, by go_num, by omega, Lib.hid HN.out.symm, K2.out⟩
        case measure => simp [intOf]; omega
    · obtain rfl : j = len := by omega
      have HE : Hid (decide (16 < countL l) = false) := Lib.hid (decide_eq_false (by have := HM.out; rw [List.take_of_length_le (by have := HL.out; omega)] at this; omega))
      go_wp2_with fail
      go_ret
      exact ⟨ret_bool HE.out.symm, HK.out⟩
end
section
open Go.RowKit
set_option maxRecDepth 100000

/-- A sign of a name, as a number. -/
def okSign (r : Int) : Bool := decide ((97 ≤ r ∧ r ≤ 122) ∨ (65 ≤ r ∧ r ≤ 90) ∨ (48 ≤ r ∧ r ≤ 57) ∨ r = 45 ∨ r = 95)

theorem fits_any (r : Int) (w : World) :
    Calls Try.prog 71 #[.int .i32 r] w fun e w' => e = .returned (.bool (okSign r)) ∧ w = w' := by
  go_enter Try.func71, Try.ntmps71
  go_wp2
  all_goals go_ret
  all_goals refine ⟨ret_bool ?_, rfl⟩
  all_goals unfold okSign
  all_goals rw [Bool.eq_iff_iff]
  all_goals (simp; try omega)

/-- The bytes are those of a name. -/
def okBytes (l : List UInt8) : Bool := l.all fun c => okSign c.toNat
def okName (s : ByteArray) : Bool := decide (1 ≤ s.size ∧ s.size ≤ 32) && okBytes s.data.toList

theorem okBytes_take (s : ByteArray) (k : Nat) (h : k < s.size) : okBytes (s.data.toList.take (k + 1)) = (okBytes (s.data.toList.take k) && okSign s[k].toNat) := by
  unfold okBytes
  rw [List.take_succ_eq_append_getElem (by simpa using h), List.all_append]
  simp
  rfl
theorem okBytes_bad (s : ByteArray) (k : Nat) (h : k < s.size) (hb : okSign s[k].toNat = false) : okBytes s.data.toList = false := by
  unfold okBytes
  rw [List.all_eq_false]
  exact ⟨s[k], by exact Array.mem_toList_iff.2 (Array.getElem_mem _), by simpa using hb⟩
theorem okName_short (s : ByteArray) (h : s.size < 1 ∨ 32 < s.size) : okName s = false := by
  unfold okName
  rw [decide_eq_false (by omega), Bool.false_and]
theorem okName_good (s : ByteArray) (h1 : 1 ≤ s.size) (h2 : s.size ≤ 32) (h : okBytes (s.data.toList.take s.size) = true) : okName s = true := by
  unfold okName
  rw [List.take_of_length_le (by simp)] at h
  rw [decide_eq_true ⟨h1, h2⟩, h]; rfl
theorem okName_bad (s : ByteArray) (k : Nat) (h : k < s.size) (hb : okSign s[k].toNat = false) : okName s = false := by
  unfold okName
  rw [okBytes_bad s k h hb, Bool.and_false]
theorem okSign_high (r : Int) (h : 128 ≤ r) : okSign r = false := by
  unfold okSign
  exact decide_eq_false (by omega)

theorem okSign_cases {r : Int} (h : okSign r = true) : (97 ≤ r ∧ r ≤ 122) ∨ (65 ≤ r ∧ r ≤ 90) ∨ (48 ≤ r ∧ r ≤ 57) ∨ (45 ≤ r ∧ r ≤ 45) ∨ (95 ≤ r ∧ r ≤ 95) := by
  unfold okSign at h
  have := of_decide_eq_true h
  omega
theorem okSign_not {r : Int} (h : okSign r = false) : (r ≤ 44 ∧ r ≤ 44) ∨ (46 ≤ r ∧ r ≤ 47) ∨ (58 ≤ r ∧ r ≤ 64) ∨ (91 ≤ r ∧ r ≤ 94) ∨ (96 ≤ r ∧ r ≤ 96) ∨ (123 ≤ r ∧ 123 ≤ r) := by
  unfold okSign at h
  have := of_decide_eq_false h
  omega

theorem symRight_any (s : ByteArray) (w : World) (hs : s.size ≤ maxLen) :
    Calls Try.prog 63 #[.string s] w fun e w' => e = .returned (.bool (okName s)) ∧ Kept Nil w w' := by
  unfold maxLen at hs
  by_cases h1 : s.size < 1
  · have E := Lib.hid (okName_short s (.inl h1))
    go_enter Try.func63, Try.ntmps63
    go_wp2
    go_ret
    exact ⟨ret_bool E.out.symm, Kept.refl _ _⟩
  by_cases h2 : 32 < s.size
  · have E := Lib.hid (okName_short s (.inr h2))
    go_enter Try.func63, Try.ntmps63
    go_wp2
    go_ret
    exact ⟨ret_bool E.out.symm, Kept.refl _ _⟩
  go_enter Try.func63, Try.ntmps63
  go_wp2
  go_loopw [4] (fun _ w' => ∃ pos : Nat, pos ≤ s.size ∧ okBytes (s.data.toList.take pos) = true ∧ w' = w.iter s pos) (fun _ w' => s.size - w'.iterPos w.heap.size)
  case atStart => exact ⟨0, Nat.zero_le _, rfl, rfl⟩
  case round =>
    obtain ⟨pos, hp, hok, rfl⟩ := hrel
    have HO := Lib.hid hok
    clear hok
    by_cases hlt : pos < s.size
    · have hnx : ∀ ty, (Instr.next (.pointer (some ⟨w.heap.size, 0, none⟩)) true ty).run Try.prog (w.iter s pos) = _ := fun ty => run_next_any w s pos ty hlt
      by_cases hb : okSign s[pos].toNat = true
      · have hasc : s[pos].toNat < 128 := by
          rcases Nat.lt_or_ge s[pos].toNat 128 with h | h
          · exact h
          · rw [okSign_high _ (by omega)] at hb; cases hb
        rw [decode_ascii s pos hlt hasc] at hnx
        have HB := Lib.hid hb
        clear hb
        go_wp2_with (go_at_call 71; refine (fits_any _ _).mono ?_; rintro e w' ⟨rfl, rfl⟩; rw [HB.out])
        go_roundw
        case rel => exact ⟨pos + 1, hlt, by rw [okBytes_take s pos hlt, HO.out, HB.out]; rfl, rfl⟩
        case measure => simp; omega
      · have hb' : okSign (Utf8.decode s pos).1 = false := by
          rcases Nat.lt_or_ge s[pos].toNat 128 with h | h
          · rw [decode_ascii s pos hlt h]; simpa using hb
          · exact okSign_high _ (by have := (decode_high s pos hlt h).1; omega)
        have hw : 1 ≤ (Utf8.decode s pos).2 := by
          rcases Nat.lt_or_ge s[pos].toNat 128 with h | h
          · rw [decode_ascii s pos hlt h]; exact Nat.le_refl _
          · exact (decode_high s pos hlt h).2
        have hn : okName s = false := okName_bad s pos hlt (by simpa using hb)
        have HB := Lib.hid hb'
        have HN := Lib.hid hn
        clear hb hb' hn
        go_wp2_with (go_at_call 71; refine (fits_any _ _).mono ?_; rintro e w' ⟨rfl, rfl⟩; rw [HB.out])
        go_ret
        exact ⟨ret_bool HN.out.symm, (Kept.refl _ _).alloc _⟩
    · have hnx : ∀ ty, (Instr.next (.pointer (some ⟨w.heap.size, 0, none⟩)) true ty).run Try.prog (w.iter s pos) = _ := fun ty => run_next_end w s pos ty hlt
      have he : pos = s.size := by omega
      have hn : okName s = true := okName_good s (by omega) (by omega) (by rw [← he]; exact HO.out)
      have HN := Lib.hid hn
      clear he hn
      go_wp2
      go_ret
      exact ⟨ret_bool HN.out.symm, (Kept.refl _ _).alloc _⟩
end
section
open Go.RowKit
set_option maxRecDepth 100000

theorem chkL_take_succ {l : List Sh} {d : Int} {j : Nat} {x : Sh} (hx : l[j]? = some x) : chkL (l.take (j + 1)) d = if chkL (l.take j) d ≠ 0 then chkL (l.take j) d else x.chk d := by
  induction l generalizing j with
  | nil => simp at hx
  | cons a r ih =>
    cases j with
    | zero =>
      simp only [List.getElem?_cons_zero, Option.some.injEq] at hx
      subst hx
      rw [List.take_succ_cons, List.take_zero, List.take_zero]
      simp only [chkL]
      by_cases h : a.chk d = 0 <;> simp [h]
    | succ j =>
      rw [List.take_succ_cons, List.take_succ_cons]
      simp only [chkL]
      by_cases h : a.chk d = 0
      · simp only [h, ne_eq, not_true_eq_false, if_false]
        exact ih (by simpa using hx)
      · simp [h]
theorem chkL_first {l : List Sh} {d : Int} {j : Nat} {x : Sh} (h0 : chkL (l.take j) d = 0) (hx : l[j]? = some x) (hc : x.chk d ≠ 0) : chkL l d = x.chk d := by
  induction l generalizing j with
  | nil => simp at hx
  | cons a r ih =>
    cases j with
    | zero =>
      simp only [List.getElem?_cons_zero, Option.some.injEq] at hx
      subst hx
      simp only [chkL]
      rw [if_pos hc]
    | succ j =>
      rw [List.take_succ_cons] at h0
      obtain ⟨h1, h2⟩ := (chkL_cons a _ d).1 h0
      simp only [chkL]
      rw [if_neg (by simp [h1])]
      exact ih h2 (by simpa using hx)
theorem outAny_le {l : List Sh} {n m : Nat} (h : outAny l m = false) (hn : n ≤ m) : outAny l n = false := by
  cases e : outAny l n
  · rfl
  · obtain ⟨v, h1, h2, h3⟩ := outAny_iff.1 e
    have := outAny_iff.2 ⟨v, h1, (show v ≤ (m : Int) by omega), h3⟩
    rw [h] at this
    cases this
set_option maxHeartbeats 4000000 in
theorem ruleCheck_any (nm : ByteArray) (l : List Sh) (ok : Nat → Nat → Prop) (a : Option Addr) (cap : Nat) (w : World) (hnm : nm.size ≤ 200) (hc : countL l ≤ 60) (h : Holds cA w ok (.slice a l.length cap) l) :
    Calls Try.prog 50 #[.agg #[.string nm, .slice a l.length cap]] w fun e w' => e = .returned (.int .i64 (chkRule (okName nm) l)) ∧ Kept Nil w w' := by
  have HN := Lib.hid (fun W => symRight_any nm W (by unfold maxLen; omega))
  have HH := Lib.hid h
  have HV : Hid (chkRule (okName nm) l = if okName nm = false then 1 else if l.length = 0 then 2 else if chkL l 1 ≠ 0 then chkL l 1 else if 16 < countL l then 7 else if outAny l 32 = true then 6 else 0) := Lib.hid rfl
  generalize chkRule (okName nm) l = r at HV ⊢
  generalize hon : okName nm = on at HN HV
  have B0 := Lib.hid (Blk.new w 96 #[.string nm, .slice a l.length cap])
  have K0 := Lib.hid ((Kept.refl Nil w).alloc (.cells #[.string nm, .slice a l.length cap] 96))
  clear h hon
  cases on
  · go_enter Try.func50, Try.ntmps50
    go_wp2_with fail
    refine (HN.out _).mono ?_
    rintro e w2 ⟨rfl, k2⟩
    go_wp2_with fail
    go_ret
    exact ⟨ret_int (by rw [HV.out]; rfl), K0.out.trans k2 (fun _ _ g => g)⟩
  · by_cases h0 : l.length = 0
    · rw [h0] at B0 K0 ⊢
      go_enter Try.func50, Try.ntmps50
      go_wp2_with fail
      refine (HN.out _).mono ?_
      rintro e w2 ⟨rfl, k2⟩
      have B2 := B0.out.kept k2 id
      have z1 := B2.cell 1
      simp at z1
      go_wp2_with fail
      go_ret
      exact ⟨ret_int (by rw [HV.out, h0]; rfl), K0.out.trans k2 (fun _ _ g => g)⟩
    · have hl0 : ((l.length : Int) == 0) = false := by rw [beq_eq_false_iff_ne]; omega
      have HV2 : Hid (r = if chkL l 1 ≠ 0 then chkL l 1 else if 16 < countL l then 7 else if outAny l 32 = true then 6 else 0) := Lib.hid (by rw [HV.out, if_neg (by simp), if_neg h0])
      have hlen := length_countL l
      have HC := Lib.hid (fun j x (hx : l[j]? = some x) w' (k : Kept Nil w w') => check_any x (by have := count_mem (List.mem_of_getElem? hx); omega))
      have HTL := Lib.hid (fun (hk : chkL l 1 = 0) w' (k : Kept Nil w w') => tooLong_any l (by omega) hk ok a cap w' (HH.out.keptN k))
      have HOP := Lib.hid (fun (hk : chkL l 1 = 0) w' (k : Kept Nil w w') (v : Int) => outOfPlace_any l (by omega) hk ok a cap v w' (HH.out.keptN k))
      generalize hn : l.length = len at *
      have HL := Lib.hid hn
      have hLen : len ≤ 60 := by omega
      clear hn HV h0
      go_enter Try.func50, Try.ntmps50
      go_wp2_with fail
      refine (HN.out _).mono ?_
      rintro e w2 ⟨rfl, k2⟩
      have B2 := Lib.hid (B0.out.kept k2 id)
      have K2 := Lib.hid (K0.out.trans k2 (fun _ _ g => g))
      have z1 := B2.out.cell 1
      simp at z1
      clear k2 B0 K0
      go_wp2_with fail
      go_loopw [18] (fun i wr => ∃ j : Nat, j ≤ len ∧ i = .int .i64 j ∧ Hid (chkL (l.take j) 1 = 0) ∧ Blk wr w.heap.size 96 #[.string nm, .slice a len cap] ∧ Kept Nil w wr) (fun i _ => len - (intOf i).toNat)
      case atStart => exact ⟨0, by omega, rfl, Lib.hid rfl, B2.out, K2.out⟩
      case round =>
        obtain ⟨j, hj, rfl, HJ, hB, hK⟩ := hrel
        have HB := Lib.hid hB
        have HK := Lib.hid hK
        clear hB hK z1 K2 B2
        by_cases hlt : j < len
        · obtain ⟨⟨⟨k', x0', x1', x2', n0', n1', n2'⟩, sb⟩, hx⟩ : ∃ x, l[j]? = some x := ⟨_, List.getElem?_eq_getElem (by have := HL.out; omega)⟩
          obtain ⟨b, o, a', cap', rfl, hok, hr, hs⟩ := (HH.out.keptN HK.out).at_ hx
          have hcm : (Sh.mk ⟨k', x0', x1', x2', n0', n1', n2'⟩ sb).count ≤ 100 := by have := count_mem (List.mem_of_getElem? hx); omega
          have HX := Lib.hid (fun w' (k : Kept Nil wr w') => check_any (Sh.mk ⟨k', x0', x1', x2', n0', n1', n2'⟩ sb) (by omega) ok a' cap' w' 1 (hs.keptN k))
          have HR := Lib.hid hr
          have HXx := Lib.hid hx
          clear hx hr hs hok
          rw [show max (1 : Int) 1 = 1 by omega] at HX
          generalize hq : (Sh.mk ⟨k', x0', x1', x2', n0', n1', n2'⟩ sb).chk 1 = q at HX
          have HQ := Lib.hid hq
          replace HX : Hid (∀ w', Kept Nil wr w' → Calls Try.prog 64 #[vA ⟨k', x0', x1', x2', n0', n1', n2'⟩ (.slice a' sb.length cap'), .int .i64 1] w' fun e w'' => e = .returned (.int .i64 q) ∧ Kept Nil w' w'') := HX
          generalize sb.length = len' at HR HX
          clear hq hcm
          have K1 := Lib.hid ((Kept.refl Nil wr).alloc (.cells (arrA ⟨k', x0', x1', x2', n0', n1', n2'⟩ (.slice a' len' cap')) 27))
          have B1 := Lib.hid (Blk.new wr 27 (arrA ⟨k', x0', x1', x2', n0', n1', n2'⟩ (.slice a' len' cap')))
          go_wp2_with (first
            | ((with_reducible refine wpList_load_A rfl (.tmp 20) rfl _ _ rfl ⟨k', x0', x1', x2', n0', n1', n2'⟩ (.slice a' len' cap') ?_ ?_)
               · exact HR.out)
            | ((with_reducible refine wpList_load_A rfl (.tmp 4) rfl _ _ rfl ⟨k', x0', x1', x2', n0', n1', n2'⟩ (.slice a' len' cap') ?_ ?_)
               · exact World.rangeAt_of_block B1.out 0 8))
          refine (HX.out _ K1.out).mono ?_
          rintro e w3 ⟨rfl, k3⟩
          have K3 := Lib.hid ((HK.out.trans K1.out (fun _ _ g => g)).trans k3 (fun _ _ g => g))
          have B3 := Lib.hid ((HB.out.kept K1.out id).kept k3 id)
          clear k3 K1 B1
          by_cases hq0 : q = 0
          · subst hq0
            go_wp2_with fail
            go_roundw
            case rel => exact ⟨j + 1, by omega, by go_num, Lib.hid (by rw [chkL_take_succ HXx.out, HJ.out, HQ.out]; rfl), B3.out, K3.out⟩
            case measure => simp [intOf]; omega
          · have hq1 : (q == 0) = false := by simpa using hq0
            have hq2 : (q != 0) = true := by simpa using hq0
            have HE : Hid (r = q) := Lib.hid (by
              have := chkL_first HJ.out HXx.out (by rw [HQ.out]; exact hq0)
              rw [HV2.out, this, HQ.out, if_pos hq0])
            go_wp2_with fail
            go_ret
            exact ⟨ret_int HE.out.symm, K3.out⟩
        · obtain rfl : j = len := by omega
          have hk0 : Hid (chkL l 1 = 0) := Lib.hid (by have := HJ.out; rwa [List.take_of_length_le (by have := HL.out; omega)] at this)
          have HT := Lib.hid (HTL.out hk0.out _ HK.out)
          have HV3 : Hid (r = if 16 < countL l then 7 else if outAny l 32 = true then 6 else 0) := Lib.hid (by rw [HV2.out, if_neg (by rw [hk0.out]; simp)])
          have HOP2 := Lib.hid (HOP.out hk0.out)
          have z1 := HB.out.cell 1
          simp at z1
          clear HTL HOP HJ
          by_cases hbig : 16 < countL l
          · have HT2 := HT
            rw [decide_eq_true hbig] at HT2
            have HE : Hid (r = 7) := Lib.hid (by rw [HV3.out, if_pos hbig])
            clear HT
            go_wp2_with fail
            refine HT2.out.mono ?_
            rintro e w3 ⟨rfl, k3⟩
            go_wp2_with fail
            go_ret
            exact ⟨ret_int HE.out.symm, HK.out.trans k3 (fun _ _ g => g)⟩
          · have HT2 := HT
            rw [decide_eq_false hbig] at HT2
            have HV4 : Hid (r = if outAny l 32 = true then 6 else 0) := Lib.hid (by rw [HV3.out, if_neg hbig])
            clear HT
            go_wp2_with fail
            refine HT2.out.mono ?_
            rintro e w3 ⟨rfl, k3⟩
            have K3 := Lib.hid (HK.out.trans k3 (fun _ _ g => g))
            have B3 := Lib.hid (HB.out.kept k3 id)
            clear k3 HT2 z1 hbig
            go_wp2_with fail
            go_loopw [6] (fun i ws => ∃ m : Nat, m ≤ 32 ∧ i = .int .i64 ((m : Int) + 1) ∧ Hid (outAny l m = false) ∧ Blk ws w.heap.size 96 #[.string nm, .slice a j cap] ∧ Kept Nil w ws) (fun i _ => 33 - (intOf i).toNat)
            case atStart => exact ⟨0, by omega, rfl, Lib.hid rfl, B3.out, K3.out⟩
            case round =>
              obtain ⟨m, hm, rfl, HM, hB, hK⟩ := hrel
              have HB2 := Lib.hid hB
              have HK2 := Lib.hid hK
              have z2 := hB.cell 1
              simp at z2
              clear hB hK B3 K3
              by_cases hlt2 : m < 32
              · have HO := Lib.hid (HOP2.out _ HK2.out ((m : Int) + 1))
                have HA : Hid (outAny l (m + 1) = decide (outL l ((m : Int) + 1) = 1)) := Lib.hid (by rw [outAny_succ, HM.out]; rfl)
                generalize decide (outL l ((m : Int) + 1) = 1) = q at HO HA
                cases q
                · go_wp2_with fail
                  refine HO.out.mono ?_
                  rintro e w4 ⟨rfl, k4⟩
                  have K4 := Lib.hid (HK2.out.trans k4 (fun _ _ g => g))
                  have B4 := Lib.hid (HB2.out.kept k4 id)
                  clear k4
                  go_wp2_with fail
                  go_roundw
                  case rel => exact ⟨m + 1, by omega, by go_num, HA, B4.out, K4.out⟩
                  case measure => simp [intOf]; omega
                · have HE : Hid (r = 6) := Lib.hid (by
                    rw [HV4.out, if_pos]
                    cases e : outAny l 32
                    · have := outAny_le e (show m + 1 ≤ 32 by omega)
                      rw [HA.out] at this
                      cases this
                    · rfl)
                  go_wp2_with fail
                  refine HO.out.mono ?_
                  rintro e w4 ⟨rfl, k4⟩
                  go_wp2_with fail
                  go_ret
                  exact ⟨ret_int HE.out.symm, HK2.out.trans k4 (fun _ _ g => g)⟩
              · obtain rfl : m = 32 := by omega
                have HE : Hid (r = 0) := Lib.hid (by rw [HV4.out, HM.out]; rfl)
                go_wp2_with fail
                go_ret
                exact ⟨ret_int HE.out.symm, HK2.out⟩
end
end Go.Proofs.Ytoceogbanlmnoaa
