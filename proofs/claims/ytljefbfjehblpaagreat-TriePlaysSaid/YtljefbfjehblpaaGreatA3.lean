/- Layer scope: slices of conditions as rows of pairs (a tree, and the slice in which its Subs lie), and lists of such slices: what append makes of them. Both kinds of conditions. – Elements that lie at a slice, whatever their cells are (XWIn without facts: for every later layer). No program. – How often a thing stands in a list; a map that says so; the keys of any type that a map can have. No program. -/
import Derived.Test.YtljefbfjehblpaaGreatA2
import Derived.Maps.AppendAt
import Derived.Maps.OwnSet
namespace Go.Proofs.YtljefbfjehblpaaGreat
section
open Go.RowKit
set_option maxRecDepth 100000

/-! ### append, whatever the elements are -/
structure Els (P : Program) (t e : TypeId) (size : Nat) : Prop where
  ht : P.underlying t = some (.slice e)
  hi : ∃ i z bytes, P.info? e = some i ∧ i.zero = some z ∧ i.size = size ∧ i.bytes = bytes ∧ z.cells.size = size ∧ bytes ≤ 128
  hs : 0 < size
theorem Els.of {P : Program} {t e : TypeId} {size bytes : Nat} {z : Value} (ht : P.underlying t = some (.slice e)) (h : (P.info? e).map (fun i => (i.zero, i.size, i.bytes)) = some (some z, size, bytes)) (hz : z.cells.size = size) (hb : bytes ≤ 128) (hs : 0 < size) : Els P t e size := by
  obtain ⟨i, h1, h2, h3, h4⟩ := info_parts h
  exact ⟨ht, ⟨i, z, bytes, h1, h2, h3, h4, hz, hb⟩, hs⟩
/-- Cells lie at a slice. -/
def At (w : World) (v : Value) (n : Nat) (xs : List Value) : Prop := ∃ a c, v = .slice a n c ∧ (xs = [] ∨ ∃ b o, a = some ⟨b, o, none⟩ ∧ ∀ (j : Nat) x, xs[j]? = some x → w.cell? ⟨b, o + j, none⟩ = some x)
theorem At.kept {F : Nat → Prop} {w w' : World} {v : Value} {n : Nat} {xs : List Value} (h : At w v n xs) (k : Kept F w w') (hF : ∀ b, v.ownBlock = some b → ¬ F b) : At w' v n xs := by
  obtain ⟨a, c, rfl, h⟩ := h
  refine ⟨a, c, rfl, h.imp id fun ⟨b, o, e, hc⟩ => ⟨b, o, e, fun j x hj => ?_⟩⟩
  have := hc j x hj
  rw [k.cell (World.block_lt_of_cell? w _ this) (hF b (by rw [e]; rfl))]
  exact this
theorem At.keptN {w w' : World} {v : Value} {n : Nat} {xs : List Value} (h : At w v n xs) (k : Kept Nil w w') : At w' v n xs := h.kept k (fun _ _ g => g)
theorem At.shape {w : World} {v : Value} {n : Nat} {xs : List Value} (h : At w v n xs) : ∃ a c, v = .slice a n c := by obtain ⟨a, c, e, _⟩ := h; exact ⟨a, c, e⟩
theorem At.own {w : World} {B : Nat} {e : TypeId} {size n : Nat} {v : Value} {xs : List Value} (h : w.ownsRow B e size v n xs) : At w v n xs := by
  rcases h.2 with ⟨e1, e0⟩ | ⟨g, cap, cur, e1, _⟩
  · subst e0
    refine ⟨none, 0, e1, .inl ?_⟩
    have := h.1
    rw [Nat.zero_mul] at this
    exact List.length_eq_zero_iff.1 this
  · subst e1
    refine ⟨_, cap, rfl, .inr ⟨g, 0, rfl, fun j x hj => ?_⟩⟩
    have := h.cells (g := g) rfl j x hj
    rwa [Addr.add_mid] at this
/-- A literal of one element, in new memory. -/
theorem At.lit (w : World) (t : TypeId) (cs : Array Value) (xs : List Value) (hx : cs.toList = xs) : At (w.alloc (.cells cs t)) (.slice (some ⟨w.heap.size, 0, none⟩) 1 1) 1 xs :=
  ⟨_, _, rfl, .inr ⟨_, _, rfl, fun j x hj => by rw [Nat.zero_add, (Blk.new w t cs).cell j, ← hj, ← hx]; simp⟩⟩
theorem append_any {P : Program} {t e : TypeId} {size : Nat} (T : Els P t e size) (ty : TypeId) {w : World} {B : Nat} {v : Value} {n : Nat} {xs : List Value} (h : w.ownsRow B e size v n xs) {u : Value} {m : Nat} {ys : List Value} (hu : At w u m ys) (hl : ys.length = m * size) (h1 : ∀ y ∈ ys, y.oneCell' = true)
    (hle : n + m ≤ 20000) (hB : B ≤ w.heap.size) :
    ∃ v' w', (Builtin.append_ #[t, t] ty #[v, u]).run P w = .ok v' w' ∧ w'.ownsRow B e size v' (n + m) (xs ++ ys) ∧ Kept (fun k => v.ownBlock = some k) w w' ∧ (v'.ownBlock = v.ownBlock ∨ v'.ownBlock = some w.heap.size) := by
  obtain ⟨ht, ⟨i, z, bytes, hi, hz, hsz, hby, hzs, hb128⟩, hs⟩ := T
  obtain ⟨a, c, rfl, hat⟩ := hu
  have main : ∀ ad : Addr, a = some ad → (∀ j x, ys[j]? = some x → w.cell? (ad.add j) = some x) → ∃ v' w', (Builtin.append_ #[t, t] ty #[v, .slice a m c]).run P w = .ok v' w' ∧ w'.ownsRow B e size v' (n + m) (xs ++ ys) ∧ Kept (fun k => v.ownBlock = some k) w w' ∧ (v'.ownBlock = v.ownBlock ∨ v'.ownBlock = some w.heap.size) := by
    intro ad ha hnews
    subst ha
    obtain ⟨v', w', r, o, g, _, h5⟩ := run_append_own_at (P := P) w B t ty e i z size bytes ht hi hz hsz hby hzs hs v n xs h ad m c ys hl hnews h1 (by unfold maxLen; omega) (Nat.le_trans (Nat.mul_le_mul hle hb128) (by decide)) hB
    exact ⟨v', w', r, o, ⟨g.os, g.tape, g.output, g.size, fun k hk hF => g.block k hk (fun e => hF e.symm)⟩, h5⟩
  rcases hat with rfl | ⟨b, o, rfl, hc⟩
  · cases a with
    | none =>
      have hm : m = 0 := by
        rcases Nat.eq_zero_or_pos m with h | h
        · exact h
        · have := Nat.mul_pos h hs
          simp at hl; omega
      subst hm
      refine ⟨v, w, ?_, by simpa using h, Kept.refl _ _, .inl rfl⟩
      rcases h.2 with ⟨rfl, rfl⟩ | ⟨g, cap, cur, rfl, _, _, hnc, _⟩
      · simp [Builtin.append_, run_underlying ht, sizeOf, typeInfo, hi, Builtin.lenOf, Builtin.firstCells]
      · simp [Builtin.append_, run_underlying ht, sizeOf, typeInfo, hi, Builtin.lenOf, Builtin.firstCells, hnc, storeCells]
    | some ad => exact main ad rfl (fun j x hj => by simp at hj)
  · refine main _ rfl (fun j x hj => ?_)
    rw [Addr.add_mid]
    exact hc j x hj
/-- The two ways of append: in place, behind what is there; or in new memory, and nothing is written. -/
theorem append_two {P : Program} {t e : TypeId} {size : Nat} (T : Els P t e size) (ty : TypeId) {w : World} {B : Nat} {v : Value} {n : Nat} {xs : List Value} (h : w.ownsRow B e size v n xs) {a : Addr} {m c : Nat} {ys : List Value} (hl : ys.length = m * size) (hnews : ∀ j x, ys[j]? = some x → w.cell? (a.add j) = some x) (h1 : ∀ y ∈ ys, y.oneCell' = true)
    (hm : 0 < m) (hle : n + m ≤ 20000) {v' : Value} {w' : World} (r : (Builtin.append_ #[t, t] ty #[v, .slice (some a) m c]).run P w = .ok v' w') :
    (∃ g cap, v = .slice (some ⟨g, 0, none⟩) n cap ∧ v' = .slice (some ⟨g, 0, none⟩) (n + m) cap ∧ Kept (fun k => k = g) w w') ∨ (v'.ownBlock = some w.heap.size ∧ Kept Nil w w') := by
  obtain ⟨ht, ⟨i, z, bytes, hi, hz, hsz, hby, hzs, hb128⟩, hs⟩ := T
  subst hsz
  have hbytes : (n + m) * i.bytes ≤ 140737488355328 := Nat.le_trans (Nat.mul_le_mul hle (by omega)) (by decide : 20000 * 128 ≤ 140737488355328)
  rcases h.2 with ⟨rfl, rfl⟩ | ⟨g, cap, cur, rfl, hbg, hg, hnc, hcm, hcs, htake⟩
  · have r' := run_append_nil (P := P) w t ty e i z ht hi hz a m c ys hl hnews hm (by omega) (by rw [Nat.zero_add] at hbytes; omega)
    rw [r] at r'
    injection r' with e1 e2
    subst e1 e2
    exact .inr ⟨rfl, ((Kept.refl Nil w).drew).alloc _⟩
  · by_cases hroom : n + m ≤ cap
    · have hfit : n * i.size + ys.length ≤ cur.size := by rw [hl, hcs, ← Nat.add_mul]; exact Nat.mul_le_mul_right _ hroom
      have r' := run_append_room (P := P) w t ty e i ht hi g n cap cur hg a m c ys hl hnews h1 hroom hfit
      rw [r] at r'
      injection r' with e1 e2
      subst e1 e2
      exact .inl ⟨g, cap, rfl, rfl, Kept.setRow (F := fun k => k = g) (Kept.refl _ w) g (.inl rfl) _⟩
    · have holds : ∀ j u, xs[j]? = some u → w.cell? ((⟨g, 0, none⟩ : Addr).add j) = some u := h.cells (g := g) rfl
      have r' := run_append_grow (P := P) w t ty e i z ht hi hz ⟨g, 0, none⟩ n cap xs h.1 holds a m c ys hl hnews (by omega) (by omega) (growslice_fits (by omega) hbytes)
      rw [r] at r'
      injection r' with e1 e2
      subst e1 e2
      exact .inr ⟨rfl, ((Kept.refl Nil w).drew).alloc _⟩
/-- The head of an own row is one itself. -/
theorem ownsRow_head {w : World} {B e size n k c : Nat} {a : Option Addr} {xs ys : List Value} (h : w.ownsRow B e size (.slice a k c) k (xs ++ ys)) (hx : xs.length = n * size) (hnk : n ≤ k) : w.ownsRow B e size (.slice a n c) n xs := by
  refine ⟨hx, ?_⟩
  rcases h.2 with ⟨e1, e0⟩ | ⟨g, cap, cur, e1, hb, hg, hn, hm, hc, ht⟩
  · cases e1
    have : n = 0 := by omega
    exact .inl ⟨by rw [this], this⟩
  · cases e1
    refine .inr ⟨g, c, cur, rfl, hb, hg, by omega, hm, hc, ?_⟩
    have h2 := congrArg (List.take (n * size)) ht
    rw [List.take_take, Nat.min_eq_left (Nat.mul_le_mul_right _ hnk)] at h2
    rw [h2, List.take_append_of_le_length (by omega), List.take_of_length_le (by omega)]

/-! ### Conditions as pairs -/
abbrev Prs := List (Sh × Value)
/-- The trees of pairs. -/
def tr (ps : Prs) : List Sh := ps.map (·.1)
theorem tr_len (ps : Prs) : (tr ps).length = ps.length := by unfold tr; simp
theorem tr_append (a b : Prs) : tr (a ++ b) = tr a ++ tr b := by unfold tr; simp
/-- What hangs on each lies in memory. -/
def Kids (E : Hd → Value → List Value) (w : World) (ok : Nat → Nat → Prop) (ps : Prs) : Prop := ∀ p ∈ ps, Holds E w ok p.2 p.1.subs
abbrev Lies (E : Hd → Value → List Value) (w : World) (v : Value) (ps : Prs) : Prop := At w v ps.length (flatC E ps)
abbrev ORow (E : Hd → Value → List Value) (e : TypeId) (w : World) (B : Nat) (v : Value) (ps : Prs) : Prop := w.ownsRow B e 8 v ps.length (flatC E ps)
section
variable {E : Hd → Value → List Value} {e : TypeId} {w w' : World} {B : Nat} {v u : Value} {ps qs : Prs} {ok : Nat → Nat → Prop}
theorem flatC_append (ps qs : Prs) : flatC E (ps ++ qs) = flatC E ps ++ flatC E qs := by unfold flatC; simp
theorem Kids.kept {F : Nat → Prop} (h : Kids E w ok ps) (k : Kept F w w') (hF : ∀ b o, ok b o → ¬ F b) : Kids E w' ok ps := fun p hp => (h p hp).kept k hF
theorem Kids.append (h : Kids E w ok ps) (h' : Kids E w ok qs) : Kids E w ok (ps ++ qs) := fun p hp => (List.mem_append.1 hp).elim (h p) (h' p)
theorem Kids.nil : Kids E w ok [] := fun p hp => by cases hp
theorem Kids.take (h : Kids E w ok ps) (n : Nat) : Kids E w ok (ps.take n) := fun p hp => h p (List.mem_of_mem_take hp)
theorem Kids.one (h : Kids E w ok ps) (hE : Kind8 E) : ∀ y ∈ flatC E ps, y.oneCell' = true := by
  intro y hy
  obtain ⟨p, hp, hy⟩ := List.mem_flatMap.1 hy
  exact hE.one _ _ (h p hp).one y hy
theorem flatC_split (hE : Kind8 E) {j : Nat} {x : Value} (h : (flatC E ps)[j]? = some x) : ∃ i p, ps[i]? = some p ∧ j = i * 8 + (j - i * 8) ∧ j - i * 8 < 8 ∧ (E p.1.hd p.2)[j - i * 8]? = some x := by
  have hj := (List.getElem?_eq_some_iff.1 h).1
  rw [flatC_len hE] at hj
  have hi : j / 8 < ps.length := by omega
  refine ⟨j / 8, ps[j / 8], List.getElem?_eq_getElem hi, by omega, by omega, ?_⟩
  rw [← flatC_get hE ps (j / 8) (j - j / 8 * 8) _ (List.getElem?_eq_getElem hi) (by omega), show j / 8 * 8 + (j - j / 8 * 8) = j by omega]
  exact h
theorem flatC_take (hE : Kind8 E) (n : Nat) : flatC E (ps.take n) = (flatC E ps).take (n * 8) := by
  have e1 : flatC E ps = flatC E (ps.take n) ++ flatC E (ps.drop n) := by rw [← flatC_append, List.take_append_drop]
  by_cases hn : n ≤ ps.length
  · conv => rhs; rw [e1]
    rw [List.take_append_of_le_length (by rw [flatC_len hE, List.length_take]; omega)]
    exact (List.take_of_length_le (by rw [flatC_len hE, List.length_take]; omega)).symm
  · rw [List.take_of_length_le (by omega), List.take_of_length_le (by rw [flatC_len hE]; omega)]
/-- The pairs of what a slice holds. -/
theorem Holds.pairs (hE : Kind8 E) {l : List Sh} (h : Holds E w ok v l) : ∃ ps : Prs, tr ps = l ∧ Lies E w v ps ∧ Kids E w ok ps := by
  cases h with
  | nil a cap => exact ⟨[], rfl, ⟨a, cap, rfl, .inl rfl⟩, Kids.nil⟩
  | row b o cap _ u hn hok hr hs =>
    have hg : ∀ i, (l.zipIdx.map fun q => (q.1, u q.2))[i]? = (l[i]?).map fun x => (x, u i) := fun i => by simp only [List.getElem?_map, List.getElem?_zipIdx, Nat.zero_add, Option.map_map]; rfl
    have hl : (l.zipIdx.map fun q => (q.1, u q.2)).length = l.length := by simp
    refine ⟨l.zipIdx.map fun q => (q.1, u q.2), ?_, ⟨_, cap, by rw [hl], .inr ⟨b, o, rfl, fun j x hj => ?_⟩⟩, fun p hp => ?_⟩
    · apply List.ext_getElem?
      intro i
      unfold tr
      rw [List.getElem?_map, hg]
      cases l[i]? <;> rfl
    · obtain ⟨i, p, hp, e, hlt, hx⟩ := flatC_split hE hj
      rw [hg] at hp
      obtain ⟨s, hs', rfl⟩ := Option.map_eq_some_iff.1 hp
      have := hr i s hs' _ x hx
      rwa [show o + i * 8 + (j - i * 8) = o + j by omega] at this
    · obtain ⟨i, hi⟩ := List.getElem?_of_mem hp
      rw [hg] at hi
      obtain ⟨s, hs', rfl⟩ := Option.map_eq_some_iff.1 hi
      exact hs i s hs'
/-- Pairs that lie at a slice are what it holds. -/
theorem Lies.holds (hE : Kind8 E) {a : Option Addr} {n cap : Nat} (h : Lies E w (.slice a n cap) ps) (hk : Kids E w ok ps) (hc : n ≤ cap) (hok : ∀ b o, a = some ⟨b, o, none⟩ → ok b o) : Holds E w ok (.slice a n cap) (tr ps) := by
  obtain ⟨a', c', e1, h⟩ := h
  cases e1
  rcases Nat.eq_zero_or_pos ps.length with h0 | hpos
  · obtain rfl := List.length_eq_zero_iff.1 h0
    exact .nil _ _
  · rcases h with h | ⟨b, o, rfl, h⟩
    · have := congrArg List.length h
      rw [flatC_len hE] at this
      simp at this; omega
    · have key := Holds.row (E := E) (w := w) (ok := ok) b o cap (tr ps) (fun i => match ps[i]? with | some p => p.2 | none => undef) (by rw [tr_len]; exact hc) (hok b o rfl)
      rw [tr_len] at key
      refine key (fun i x hi => ?_) (fun i x hi => ?_)
      · unfold tr at hi
        rw [List.getElem?_map] at hi
        obtain ⟨p, hp, rfl⟩ := Option.map_eq_some_iff.1 hi
        rw [hp]
        intro j y hj
        have hj8 : j < 8 := by have := (List.getElem?_eq_some_iff.1 hj).1; rwa [hE.len] at this
        have := h (i * 8 + j) y (by rw [flatC_get hE ps i j p hp hj8]; exact hj)
        rwa [show o + (i * 8 + j) = o + i * 8 + j by omega] at this
      · unfold tr at hi
        rw [List.getElem?_map] at hi
        obtain ⟨p, hp, rfl⟩ := Option.map_eq_some_iff.1 hi
        rw [hp]
        exact hk p (List.mem_of_getElem? hp)
theorem Lies.at_ (hE : Kind8 E) {a : Option Addr} {n cap : Nat} (h : Lies E w (.slice a n cap) ps) {j : Nat} {q : Sh × Value} (hq : ps[j]? = some q) : ∃ b o, a = some ⟨b, o, none⟩ ∧ w.rangeAt b (o + j * 8) (E q.1.hd q.2) := by
  obtain ⟨a', c', e1, h⟩ := h
  cases e1
  have hj := (List.getElem?_eq_some_iff.1 hq).1
  rcases h with h | ⟨b, o, e, h⟩
  · have := congrArg List.length h
    rw [flatC_len hE] at this
    simp at this; omega
  · refine ⟨b, o, e, fun i x hi => ?_⟩
    have hi8 : i < 8 := by have := (List.getElem?_eq_some_iff.1 hi).1; rwa [hE.len] at this
    have := h (j * 8 + i) x (by rw [flatC_get hE ps j i q hq hi8]; exact hi)
    rwa [show o + (j * 8 + i) = o + j * 8 + i by omega] at this
/-- The first of them. -/
theorem Lies.first (hE : Kind8 E) {a : Option Addr} {n cap : Nat} (h : Lies E w (.slice a n cap) ps) {k : Nat} (hk : k ≤ n) : Lies E w (.slice a k cap) (ps.take k) := by
  obtain ⟨a', c', e1, h⟩ := h
  cases e1
  refine ⟨a, cap, by rw [List.length_take, Nat.min_eq_left hk], ?_⟩
  rcases h with h | ⟨b, o, e, h⟩
  · left
    rw [flatC_take hE, h]; simp
  · refine .inr ⟨b, o, e, fun j x hj => h j x ?_⟩
    rw [flatC_take hE, List.getElem?_take] at hj
    split at hj
    · exact hj
    · cases hj
theorem Holds.first {a : Option Addr} {n cap : Nat} {l : List Sh} (h : Holds E w ok (.slice a n cap) l) {k : Nat} (hk : k ≤ n) : Holds E w ok (.slice a k cap) (l.take k) := by
  obtain ⟨hn, hc⟩ := h.fits
  generalize e : Value.slice a n cap = v at h
  cases h with
  | nil a' cap' =>
    cases e
    have : k = 0 := by simpa using hk
    subst this
    exact .nil _ _
  | row b o cap' _ u hn' hok hr hs =>
    cases e
    have hl : (l.take k).length = k := by rw [List.length_take]; omega
    have := Holds.row (E := E) (w := w) (ok := ok) b o cap (l.take k) u (by omega) hok (fun i x hi => hr i x (by
      rw [List.getElem?_take] at hi
      split at hi
      · exact hi
      · cases hi)) (fun i x hi => hs i x (by
      rw [List.getElem?_take] at hi
      split at hi
      · exact hi
      · cases hi))
    rwa [hl] at this
theorem ORow.nil (w : World) : ORow E e w B (.slice none 0 0) [] := World.ownsRow_nil _ _ _ _
theorem ORow.append {P : Program} {t : TypeId} (T : Els P t e 8) (hE : Kind8 E) (ty : TypeId) (h : ORow E e w B v ps) (hu : Lies E w u qs) (hk : Kids E w ok qs) (hl : ps.length + qs.length ≤ 20000) (hB : B ≤ w.heap.size) :
    ∃ v' w', (Builtin.append_ #[t, t] ty #[v, u]).run P w = .ok v' w' ∧ ORow E e w' B v' (ps ++ qs) ∧ Kept (fun k => v.ownBlock = some k) w w' ∧ (v'.ownBlock = v.ownBlock ∨ v'.ownBlock = some w.heap.size) := by
  obtain ⟨v', w', r, o, k, h5⟩ := append_any T ty h hu (flatC_len hE qs) (hk.one hE) hl hB
  exact ⟨v', w', r, by show World.ownsRow _ _ _ _ _ _ _; rw [flatC_append, List.length_append]; exact o, k, h5⟩
end

/-! ### Lists of slices of conditions -/
section
variable {E : Hd → Value → List Value} {e t : TypeId} {w w' : World} {B : Nat} {v u : Value} {ps qs : Prs} {ok : Nat → Nat → Prop} {p : Nat → Prop} {ws vs : List Prs}
/-- A slice of conditions in a block of its own; what hangs on them lies elsewhere. -/
def Kid (E : Hd → Value → List Value) (e : TypeId) (w : World) (ok : Nat → Nat → Prop) (p : Nat → Prop) (u : Value) (ps : Prs) : Prop :=
  ∃ g c cs, u = .slice (some ⟨g, 0, none⟩) ps.length c ∧ ps.length ≤ c ∧ p g ∧ Blk w g e cs ∧ (∀ (j : Nat) x, (flatC E ps)[j]? = some x → cs[j]? = some x) ∧ Kids E w ok ps
theorem Kid.kept {F : Nat → Prop} (h : Kid E e w ok p u ps) (k : Kept F w w') (hF : ∀ g cs, Blk w g e cs → p g → ¬ F g) (ho : ∀ b o, ok b o → ¬ F b) : Kid E e w' ok p u ps := by
  obtain ⟨g, c, cs, e1, hc, hp, hb, hx, hk⟩ := h
  exact ⟨g, c, cs, e1, hc, hp, hb.kept k (hF g cs hb hp), hx, hk.kept k ho⟩
theorem Kid.mono {q : Nat → Prop} (h : Kid E e w ok p u ps) (hq : ∀ g cs, Blk w g e cs → p g → q g) : Kid E e w ok q u ps := by
  obtain ⟨g, c, cs, e1, hc, hp, hb, r⟩ := h
  exact ⟨g, c, cs, e1, hc, hq g cs hb hp, hb, r⟩
theorem Kid.shape (h : Kid E e w ok p u ps) : ∃ g c, u = .slice (some ⟨g, 0, none⟩) ps.length c ∧ ps.length ≤ c ∧ p g := by
  obtain ⟨g, c, cs, e1, hc, hp, _⟩ := h
  exact ⟨g, c, e1, hc, hp⟩
theorem Kid.lies (h : Kid E e w ok p u ps) : Lies E w u ps := by
  obtain ⟨g, c, cs, e1, hc, hp, hb, hx, _⟩ := h
  exact ⟨_, c, e1, .inr ⟨g, 0, rfl, fun j x hj => by rw [hb.cell, Nat.zero_add]; exact hx j x hj⟩⟩
theorem Kid.lt (h : Kid E e w ok p u ps) : ∀ k, u.ownBlock = some k → k < w.heap.size ∧ p k := by
  obtain ⟨g, c, cs, e1, hc, hp, hb, _⟩ := h
  intro k hk
  rw [e1] at hk
  cases hk
  exact ⟨hb.lt, hp⟩
/-- An own row that is none too short, as a slice of its own. -/
theorem ORow.kid (h : ORow E e w B v ps) (h0 : 0 < ps.length) (hk : Kids E w ok ps) (hp : ∀ g, v.ownBlock = some g → B ≤ g → p g) : Kid E e w ok p v ps := by
  rcases h.2 with ⟨_, e0⟩ | ⟨g, cap, cur, e1, hb, hg, hn, hm, hc, ht⟩
  · omega
  · refine ⟨g, cap, cur, e1, hn, hp g (by rw [e1]; rfl) hb, hg, fun j x hj => ?_, hk⟩
    have := congrArg (fun l => l[j]?) ht
    simp only [hj] at this
    rw [List.getElem?_take] at this
    split at this
    · simpa using this
    · cases this
/-- A row of the call's own that holds slices of conditions. -/
def LRow (E : Hd → Value → List Value) (e t : TypeId) (w : World) (ok : Nat → Nat → Prop) (B : Nat) (p : Nat → Prop) (v : Value) (ws : List Prs) : Prop :=
  ∃ vals : List Value, w.ownsRow B t 1 v ws.length vals ∧ ∀ (i : Nat) ps u, ws[i]? = some ps → vals[i]? = some u → Kid E e w ok p u ps
theorem ownsBlk {n size : Nat} {xs : List Value} (h : w.ownsRow B t size v n xs) : ∀ k, v.ownBlock = some k → B ≤ k ∧ ∃ cur, Blk w k t cur := by
  intro k hk
  rcases h.2 with ⟨e, _⟩ | ⟨g, cap, cur, e, hb, hg, _⟩
  · rw [e] at hk; cases hk
  · rw [e] at hk; cases hk; exact ⟨hb, cur, hg⟩
theorem blk_type {g : Nat} {t t' : TypeId} {cs cs' : Array Value} (h : Blk w g t cs) (h' : Blk w g t' cs') : t = t' := by
  unfold Blk at h h'
  rw [h] at h'
  cases h'
  rfl
theorem LRow.nil (w : World) : LRow E e t w ok B p (.slice none 0 0) [] := ⟨[], World.ownsRow_nil _ _ _ _, fun i ps u h => by simp at h⟩
theorem LRow.own (h : LRow E e t w ok B p v ws) : ∀ k, v.ownBlock = some k → B ≤ k ∧ k < w.heap.size ∧ ∃ cs, Blk w k t cs := by
  obtain ⟨vals, ho, _⟩ := h
  intro k hk
  obtain ⟨h1, cur, h2⟩ := ownsBlk ho k hk
  exact ⟨h1, h2.lt, cur, h2⟩
theorem LRow.shape (h : LRow E e t w ok B p v ws) : ∃ a cap, v = .slice a ws.length cap := by
  obtain ⟨vals, ho, _⟩ := h
  rcases ho.2 with ⟨e, e0⟩ | ⟨g, cap, cur, e, _⟩
  · exact ⟨none, 0, by rw [e, e0]⟩
  · exact ⟨_, cap, e⟩
theorem LRow.kept {F : Nat → Prop} (h : LRow E e t w ok B p v ws) (k : Kept F w w') (hv : ∀ g, v.ownBlock = some g → ¬ F g) (hF : ∀ g cs, Blk w g e cs → p g → ¬ F g) (ho : ∀ b o, ok b o → ¬ F b) : LRow E e t w' ok B p v ws := by
  obtain ⟨vals, hr, hk⟩ := h
  exact ⟨vals, Kept.row k hr hv, fun i ps u h1 h2 => (hk i ps u h1 h2).kept k hF ho⟩
theorem LRow.keptN (h : LRow E e t w ok B p v ws) (k : Kept Nil w w') : LRow E e t w' ok B p v ws := h.kept k (fun _ _ g => g) (fun _ _ _ _ g => g) (fun _ _ _ g => g)
theorem LRow.mono {q : Nat → Prop} (h : LRow E e t w ok B p v ws) (hq : ∀ g cs, Blk w g e cs → p g → q g) : LRow E e t w ok B q v ws := by
  obtain ⟨vals, hr, hk⟩ := h
  exact ⟨vals, hr, fun i ps u h1 h2 => (hk i ps u h1 h2).mono hq⟩
theorem LRow.append {P : Program} {tt : TypeId} (T : Els P tt t 1) (hte : t ≠ e) (ty : TypeId) (h : LRow E e t w ok B p v ws) {us : List Value} (hu : At w u vs.length us) (hul : us.length = vs.length) (hus : ∀ (i : Nat) ps x, vs[i]? = some ps → us[i]? = some x → Kid E e w ok p x ps) (hl : ws.length + vs.length ≤ 20000) (hB : B ≤ w.heap.size) (hok : ∀ b o, ok b o → b < B) :
    ∃ v' w', (Builtin.append_ #[tt, tt] ty #[v, u]).run P w = .ok v' w' ∧ LRow E e t w' ok B p v' (ws ++ vs) ∧ Kept (fun k => v.ownBlock = some k) w w' ∧ (v'.ownBlock = v.ownBlock ∨ v'.ownBlock = some w.heap.size) := by
  obtain ⟨vals, ho, hk⟩ := h
  have hlen : vals.length = ws.length := by have := ho.1; omega
  obtain ⟨v', w', r, o, k, h5⟩ := append_any T ty ho hu (by omega) (fun y hy => by
    obtain ⟨j, hj⟩ := List.getElem?_of_mem hy
    have hjl := (List.getElem?_eq_some_iff.1 hj).1
    obtain ⟨g, c, e1, _⟩ := (hus j vs[j] y (List.getElem?_eq_getElem (by omega)) hj).shape
    rw [e1]; rfl) hl hB
  have keep : ∀ x y, Kid E e w ok p x y → Kid E e w' ok p x y := fun x y hx => hx.kept k (fun g cs hb _ hf => by
    obtain ⟨_, cur, hc⟩ := ownsBlk ho g hf
    exact hte (blk_type hc hb)) (fun b o hb hf => by have := (ownsBlk ho b hf).1; have := hok b o hb; omega)
  refine ⟨v', w', r, ⟨vals ++ us, by rw [List.length_append]; exact o, fun i ps x h1 h2 => ?_⟩, k, h5⟩
  by_cases hil : i < ws.length
  · rw [List.getElem?_append_left hil] at h1
    rw [List.getElem?_append_left (by omega)] at h2
    exact keep _ _ (hk i ps x h1 h2)
  · rw [List.getElem?_append_right (by omega)] at h1 h2
    rw [hlen] at h2
    exact keep _ _ (hus _ ps x h1 h2)
/-- One slice more. -/
theorem LRow.append_one {P : Program} {tt : TypeId} (T : Els P tt t 1) (hte : t ≠ e) (ty : TypeId) (h : LRow E e t w ok B p v ws) (hu : Kid E e w ok p u ps) (hl : ws.length ≤ 10000) (hB : B ≤ w.heap.size) (hok : ∀ b o, ok b o → b < B) :
    ∃ v' w', (Builtin.append_ #[tt, tt] ty #[v, .slice (some ⟨w.heap.size, 0, none⟩) 1 1]).run P (w.alloc (.cells #[u] t)) = .ok v' w' ∧ LRow E e t w' ok B p v' (ws ++ [ps]) ∧ Kept (fun k => v.ownBlock = some k) w w' ∧ (v'.ownBlock = v.ownBlock ∨ v'.ownBlock = some (w.heap.size + 1)) := by
  have ka := (Kept.refl Nil w).alloc (.cells #[u] t)
  obtain ⟨v', w', r, o, k, h5⟩ := LRow.append (vs := [ps]) T hte ty (h.keptN ka) (At.lit w t #[u] [u] rfl) rfl (fun i qs x h1 h2 => by
    have : i = 0 := by have := (List.getElem?_eq_some_iff.1 h1).1; simp at this; omega
    subst this
    simp at h1 h2
    subst h1 h2
    exact hu.kept ka (fun _ _ _ _ g => g) (fun _ _ _ g => g)) (by simp; omega) (by simp; omega) hok
  exact ⟨v', w', r, o, (ka.mono (fun _ _ g => g.elim)).trans k (fun _ _ g => g), by simpa using h5⟩
/-- All slices of another list. -/
theorem LRow.append_all {P : Program} {tt : TypeId} (T : Els P tt t 1) (hte : t ≠ e) (ty : TypeId) {B2 : Nat} {q : Nat → Prop} (h : LRow E e t w ok B p v ws) (h2 : LRow E e t w ok B2 q u vs) (hq : ∀ g cs, Blk w g e cs → q g → p g) (hl : ws.length + vs.length ≤ 20000) (hB : B ≤ w.heap.size) (hok : ∀ b o, ok b o → b < B) :
    ∃ v' w', (Builtin.append_ #[tt, tt] ty #[v, u]).run P w = .ok v' w' ∧ LRow E e t w' ok B p v' (ws ++ vs) ∧ Kept (fun k => v.ownBlock = some k) w w' ∧ (v'.ownBlock = v.ownBlock ∨ v'.ownBlock = some w.heap.size) := by
  obtain ⟨vals, ho, hk⟩ := h2
  exact LRow.append T hte ty h (At.own ho) (by have := ho.1; omega) (fun i ps x h1 h2 => (hk i ps x h1 h2).mono hq) hl hB hok
end

/-! ### What a law sees of such a list -/
/-- A list of slices of conditions, in memory. -/
def Lists (E : Hd → Value → List Value) (w : World) (ok : Nat → Nat → Prop) (v : Value) (L : List (List Sh)) : Prop :=
  ∃ a cap, v = .slice a L.length cap ∧ L.length ≤ cap ∧ ∀ (i : Nat) x, L[i]? = some x → ∃ g b c, a = some ⟨g, 0, none⟩ ∧ w.cell? ⟨g, i, none⟩ = some (.slice b x.length c) ∧ Holds E w ok (.slice b x.length c) x
section
variable {E : Hd → Value → List Value} {e t : TypeId} {w w' : World} {B : Nat} {v u : Value} {ok ok' : Nat → Nat → Prop} {p : Nat → Prop} {ws : List Prs} {L : List (List Sh)}
theorem Lists.kept (h : Lists E w ok v L) (k : Kept Nil w w') : Lists E w' ok v L := by
  obtain ⟨a, cap, e1, hc, hx⟩ := h
  refine ⟨a, cap, e1, hc, fun i x hi => ?_⟩
  obtain ⟨g, b, c, e2, h1, h2⟩ := hx i x hi
  exact ⟨g, b, c, e2, k.cellOf h1, h2.keptN k⟩
theorem LRow.lists (hE : Kind8 E) (h : LRow E e t w ok B p v ws) (ho : ∀ b o, ok b o → ok' b o) (hp : ∀ g, p g → g < w.heap.size → ok' g 0) : Lists E w ok' v (ws.map tr) := by
  obtain ⟨vals, hr, hk⟩ := h
  have hlen : vals.length = ws.length := by have := hr.1; omega
  have hl : (ws.map tr).length = ws.length := by simp
  rcases hr.2 with ⟨e1, e0⟩ | ⟨g, cap, cur, e1, hb, hg, hn, _⟩
  · obtain rfl := List.length_eq_zero_iff.1 e0
    exact ⟨none, 0, e1, Nat.zero_le _, fun i x hi => by simp at hi⟩
  · refine ⟨_, cap, by rw [hl]; exact e1, by rw [hl]; exact hn, fun i x hi => ?_⟩
    rw [List.getElem?_map] at hi
    obtain ⟨ps, hps, rfl⟩ := Option.map_eq_some_iff.1 hi
    have hil := (List.getElem?_eq_some_iff.1 hps).1
    have hv : vals[i]? = some vals[i] := List.getElem?_eq_getElem (by omega)
    have kd := hk i ps _ hps hv
    obtain ⟨g2, c, e2, hc2, hp2⟩ := kd.shape
    have hcell := hr.cells (g := g) (by rw [e1]; rfl) i _ hv
    rw [Addr.add_mid, Nat.zero_add, e2] at hcell
    have hli := kd.lies
    rw [e2] at hli
    have hlt := (kd.lt g2 (by rw [e2]; rfl)).1
    obtain ⟨_, _, _, _, _, _, _, _, hkk⟩ := kd
    refine ⟨g, _, c, rfl, by rw [tr_len]; exact hcell, ?_⟩
    rw [tr_len]
    exact Lies.holds hE hli (fun q hq => (hkk q hq).mono ho) hc2 (fun b o e3 => by cases e3; exact hp g2 hp2 hlt)
end

/-! ### The types of this program -/
theorem elsA : Els Tryz.prog 31 72 8 := Els.of Tryz.underlying31 infoCA rfl (by decide) (by decide)
theorem elsR : Els Tryz.prog 37 77 8 := Els.of Tryz.underlying37 infoCR rfl (by decide) (by decide)
/-- append, by an equation on its run. -/
theorem wpList_append_run {P : Program} {w : World} {ops : Array Oper} {rest : List Oper} {o : Oper} {a : Act} {Q : Exit → Act → World → Prop} (hgd : o.guard = none) (s x : Operand) (t : TypeId)
    (ho : o.op = .call { callee := .builtin .append, args := #[s, x], argTypes := #[t, t] }) (v y : Value) (hs : a.eval s = v) (hx : a.eval x = y) {v' : Value} {w' : World}
    (hr : (Builtin.append_ #[t, t] o.type #[v, y]).run P w = .ok v' w') (h : wpList P ops Q rest (a.put o.dst v') w') : wpList P ops Q (o :: rest) a w := by
  refine wpList_plain hgd fun K hK => ?_
  unfold Oper.wp execOp
  simp only [ho, resolve, invoke, builtin, Sem.run_bind, Sem.run_pure, Result.andThen_ok, List.map_toArray, List.map_cons, List.map_nil, hs, hx, hr]
  exact hK _ _ h
end
section
open Go.RowKit

/-- Elements that lie at a slice. -/
def In {α : Type} (cells : α → List Value) (size : Nat) (w : World) (a : Option Addr) (len : Nat) (xs : List α) : Prop :=
  xs.length = len ∧ (len = 0 ∨ ∃ b off, a = some ⟨b, off, none⟩ ∧ b < w.heap.size ∧ ∀ j x i v, xs[j]? = some x → (cells x)[i]? = some v → w.cell? ⟨b, off + j * size + i, none⟩ = some v)
/-- A number's cells. -/
def cN (x : Int) : List Value := [.int .i64 x]
section
variable {α : Type} {cells : α → List Value} {size : Nat} {w w' : World} {a : Option Addr} {len cap : Nat} {xs : List α}
theorem In.kept (h : In cells size w a len xs) (hk : Kept Nil w w') : In cells size w' a len xs :=
  ⟨h.1, h.2.imp id fun ⟨b, off, e, hb, hc⟩ => ⟨b, off, e, Nat.lt_of_lt_of_le hb hk.size, fun j x i v hj hi => (hk.cell (p := ⟨b, off + j * size + i, none⟩) hb (fun e => e)).trans (hc j x i v hj hi)⟩⟩
/-- .. where the block that they lie in stays. -/
theorem In.keptF {F : Nat → Prop} (h : In cells size w a len xs) (hk : Kept F w w') (hF : ∀ b, (Value.slice a len cap).ownBlock = some b → ¬ F b) : In cells size w' a len xs :=
  ⟨h.1, h.2.imp id fun ⟨b, off, e, hb, hc⟩ => ⟨b, off, e, Nat.lt_of_lt_of_le hb hk.size, fun j x i v hj hi => (hk.cell (p := ⟨b, off + j * size + i, none⟩) hb (hF b (by rw [e]; rfl))).trans (hc j x i v hj hi)⟩⟩
theorem In.at_ (h : In cells size w a len xs) {j : Nat} {x : α} (hj : xs[j]? = some x) : ∃ b off, a = some ⟨b, off, none⟩ ∧ b < w.heap.size ∧ ∀ i v, (cells x)[i]? = some v → w.cell? ⟨b, off + j * size + i, none⟩ = some v := by
  rcases h.2 with e | ⟨b, off, e, hb, hc⟩
  · have := h.1
    rw [e] at this
    rw [List.length_eq_zero_iff.1 this] at hj; cases hj
  · exact ⟨b, off, e, hb, fun i v hi => hc j x i v hj hi⟩
theorem flat_len (hsz : ∀ x, (cells x).length = size) : ∀ l : List α, (l.flatMap cells).length = l.length * size
  | [] => by simp
  | x :: r => by rw [List.flatMap_cons, List.length_append, hsz, flat_len hsz r, List.length_cons, Nat.add_mul]; omega
theorem flat_get (hsz : ∀ x, (cells x).length = size) : ∀ (l : List α) (i j : Nat) (x : α), l[i]? = some x → j < size → (l.flatMap cells)[i * size + j]? = (cells x)[j]?
  | [], i, j, x, h, _ => by simp at h
  | y :: r, 0, j, x, h, hj => by
    simp only [List.getElem?_cons_zero, Option.some.injEq] at h
    subst h
    rw [List.flatMap_cons, Nat.zero_mul, Nat.zero_add, List.getElem?_append_left (by rw [hsz]; exact hj)]
  | y :: r, i + 1, j, x, h, hj => by
    rw [List.flatMap_cons, List.getElem?_append_right (by rw [hsz, Nat.add_mul]; omega), hsz, show (i + 1) * size + j - size = i * size + j by rw [Nat.add_mul]; omega]
    exact flat_get hsz r i j x (by simpa using h) hj
theorem In.toAt (h : In cells size w a len xs) (hsz : ∀ x, (cells x).length = size) (hs : 0 < size) : At w (.slice a len cap) len (xs.flatMap cells) := by
  refine ⟨a, cap, rfl, ?_⟩
  rcases h.2 with e | ⟨b, off, e, hb, hc⟩
  · left
    have := h.1
    rw [e] at this
    rw [List.length_eq_zero_iff.1 this]; rfl
  · refine .inr ⟨b, off, e, fun j v hj => ?_⟩
    have hl := (List.getElem?_eq_some_iff.1 hj).1
    rw [flat_len hsz] at hl
    have hd : j / size < xs.length := Nat.div_lt_of_lt_mul (by rw [Nat.mul_comm]; exact hl)
    obtain ⟨x, hx⟩ : ∃ x, xs[j / size]? = some x := ⟨_, List.getElem?_eq_getElem hd⟩
    have hm : j % size < size := Nat.mod_lt _ hs
    have e2 : j / size * size + j % size = j := by rw [Nat.mul_comm]; exact Nat.div_add_mod j size
    have := flat_get hsz xs (j / size) (j % size) x hx hm
    rw [e2, hj] at this
    have := hc _ x _ v hx this.symm
    rwa [Nat.add_assoc, e2] at this
/-- A row of a call's own. -/
theorem In.own {B : Nat} {e : TypeId} (h : w.ownsRow B e size (.slice a len cap) len (xs.flatMap cells)) (hsz : ∀ x, (cells x).length = size) (hs : 0 < size) : In cells size w a len xs := by
  have hl : xs.length = len := by
    have := h.1
    rw [flat_len hsz] at this
    exact Nat.eq_of_mul_eq_mul_right hs this
  refine ⟨hl, ?_⟩
  rcases h.2 with ⟨e1, e0⟩ | ⟨g, c, cur, e1, hb, hg, _⟩
  · exact .inl e0
  · cases e1
    refine .inr ⟨g, 0, rfl, (Array.getElem?_eq_some_iff.1 hg).1, fun j x i v hj hi => ?_⟩
    have hi' : i < size := by rw [← hsz x]; exact (List.getElem?_eq_some_iff.1 hi).1
    have := h.cells (g := g) rfl (j * size + i) v (by rw [flat_get hsz xs j i x hj hi']; exact hi)
    rw [Addr.add_mid] at this
    rw [Nat.add_assoc]
    exact this
end
theorem cN_len (x : Int) : (cN x).length = 1 := rfl
theorem cN_one (x : Int) : ∀ v ∈ cN x, v.oneCell' = true := fun v hv => by
  simp only [cN, List.mem_cons, List.not_mem_nil, or_false] at hv
  subst hv; rfl
theorem flatN_one (l : List Int) : ∀ u ∈ l.flatMap cN, u.oneCell' = true := by
  intro u hu
  obtain ⟨x, _, hx⟩ := List.mem_flatMap.1 hu
  exact cN_one x u hx
/-- A row of a call's own that holds elements. -/
def Row {α : Type} (cells : α → List Value) (e : TypeId) (size : Nat) (w : World) (B : Nat) (v : Value) (l : List α) : Prop := w.ownsRow B e size v l.length (l.flatMap cells)
section
variable {α : Type} {cells : α → List Value} {e : TypeId} {size : Nat} {w w' : World} {B : Nat} {v : Value} {l : List α}
theorem Row.shape (h : Row cells e size w B v l) : ∃ a cap, v = .slice a l.length cap := by
  rcases h.2 with ⟨e, e0⟩ | ⟨g, cap, cur, e, _⟩
  · exact ⟨none, 0, by rw [e, e0]⟩
  · exact ⟨_, _, e⟩
theorem Row.nil (w : World) (B : Nat) : Row cells e size w B (.slice none 0 0) [] := World.ownsRow_nil _ _ _ _
theorem Row.keptN (h : Row cells e size w B v l) (k : Kept Nil w w') : Row cells e size w' B v l := k.row h (fun _ _ g => g)
theorem Row.keptF {F : Nat → Prop} (h : Row cells e size w B v l) (k : Kept F w w') (hF : ∀ b, v.ownBlock = some b → ¬ F b) : Row cells e size w' B v l := k.row h hF
theorem Row.down {B' : Nat} (h : Row cells e size w B v l) (hB : B' ≤ B) : Row cells e size w B' v l := by
  refine ⟨h.1, ?_⟩
  rcases h.2 with e | ⟨g, cap, cur, e, hb, rest⟩
  · exact .inl e
  · exact .inr ⟨g, cap, cur, e, Nat.le_trans hB hb, rest⟩
theorem Row.block (h : Row cells e size w B v l) {k : Nat} (hk : v.ownBlock = some k) : ∃ cur, w.heap[k]? = some (.cells cur e (0, 0)) := by
  rcases h.2 with ⟨rfl, _⟩ | ⟨g, cap, cur, rfl, _, hg, _⟩
  · cases hk
  · cases hk; exact ⟨cur, hg⟩
theorem Row.toIn {a : Option Addr} {n cap : Nat} (h : Row cells e size w B (.slice a n cap) l) (hsz : ∀ x, (cells x).length = size) (hs : 0 < size) : In cells size w a n l := by
  obtain ⟨a', c', e'⟩ := h.shape
  have hn : n = l.length := by injection e'
  have h' := h
  unfold Row at h'
  rw [← hn] at h'
  exact In.own h' hsz hs
/-- One element more, out of a literal in new memory. -/
theorem Row.push {P : Program} {t : TypeId} (T : Els P t e size) (hsz : ∀ x, (cells x).length = size) (h1 : ∀ x, ∀ u ∈ cells x, u.oneCell' = true) (ty : TypeId) {wr : World} {n cap : Nat} {a : Option Addr} (hk : Kept Nil w wr) (h : Row cells e size wr w.heap.size (.slice a n cap) l) (hn : n = l.length) (hl : l.length ≤ 5000) (x : α) (cs : Array Value) (hcs : cs.toList = cells x) :
    ∃ a' cap' w', (Builtin.append_ #[t, t] ty #[.slice a n cap, .slice (some ⟨wr.heap.size, 0, none⟩) 1 1]).run P (wr.alloc (.cells cs e)) = .ok (.slice a' (n + 1) cap') w' ∧
      Row cells e size w' w.heap.size (.slice a' (n + 1) cap') (l ++ [x]) ∧ Kept Nil w w' ∧ Kept (fun k => (Value.slice a n cap).ownBlock = some k) wr w' := by
  subst hn
  have h2 : Row cells e size (wr.alloc (.cells cs e)) w.heap.size (.slice a l.length cap) l := h.keptN ((Kept.refl _ _).alloc _)
  obtain ⟨v', w', r, o, k, _⟩ := append_any T ty h2 (At.lit wr e cs (cells x) hcs) (by rw [hsz, Nat.one_mul]) (h1 x) (by omega) (by simp; have := hk.size; omega)
  have o2 : Row cells e size w' w.heap.size v' (l ++ [x]) := by simpa [Row] using o
  obtain ⟨a', cap', e⟩ := o2.shape
  rw [List.length_append] at e
  subst e
  exact ⟨a', cap', w', r, o2, (hk.alloc _).trans k (fun i hi e => absurd (h.lt i e).1 (Nat.not_le.2 hi)), ((Kept.refl _ _).alloc _).trans k (fun _ _ e => e)⟩
/-- All that lies at a slice, behind what is there. -/
theorem Row.pushAll {P : Program} {t : TypeId} (T : Els P t e size) (hsz : ∀ x, (cells x).length = size) (h1 : ∀ x, ∀ u ∈ cells x, u.oneCell' = true) (hs : 0 < size) (ty : TypeId) {wr : World} {n cap : Nat} {a : Option Addr} (hk : Kept Nil w wr) (h : Row cells e size wr w.heap.size (.slice a n cap) l) (hn : n = l.length) (hl : l.length ≤ 5000)
    {a2 : Option Addr} {n2 c2 : Nat} {l2 : List α} (h2 : In cells size wr a2 n2 l2) (hl2 : l2.length ≤ 5000) :
    ∃ a' cap' w', (Builtin.append_ #[t, t] ty #[.slice a n cap, .slice a2 n2 c2]).run P wr = .ok (.slice a' (n + n2) cap') w' ∧
      Row cells e size w' w.heap.size (.slice a' (n + n2) cap') (l ++ l2) ∧ Kept Nil w w' ∧ Kept (fun k => (Value.slice a n cap).ownBlock = some k) wr w' := by
  subst hn
  obtain ⟨v', w', r, o, k, _⟩ := append_any T ty h (h2.toAt (cap := c2) hsz hs) (by rw [flat_len hsz, h2.1]) (fun u hu => by obtain ⟨x, _, hx⟩ := List.mem_flatMap.1 hu; exact h1 x u hx) (by have := h2.1; omega) hk.size
  have o2 : Row cells e size w' w.heap.size v' (l ++ l2) := by
    have := h2.1
    subst this
    simpa [Row] using o
  obtain ⟨a', cap', e⟩ := o2.shape
  rw [List.length_append, h2.1] at e
  subst e
  exact ⟨a', cap', w', r, o2, hk.trans k (fun i hi e => absurd (h.lt i e).1 (Nat.not_le.2 hi)), k⟩
end
end
section
open Go.RowKit Go.Maps

/-! ### Lists -/
section
variable {κ : Type} [DecidableEq κ]
/-- How often a thing stands in a list. -/
def cnt (k : κ) : List κ → Nat
  | [] => 0
  | x :: r => if x = k then cnt k r + 1 else cnt k r
/-- The list without the first of a thing. -/
def drp (k : κ) : List κ → List κ
  | [] => []
  | x :: r => if x = k then r else x :: drp k r
theorem cnt_append (k : κ) : ∀ a b : List κ, cnt k (a ++ b) = cnt k a + cnt k b
  | [], b => by simp [cnt]
  | x :: r, b => by
    rw [List.cons_append, cnt, cnt, cnt_append k r b]
    split <;> omega
theorem cnt_snoc_same (k : κ) (l : List κ) : cnt k (l ++ [k]) = cnt k l + 1 := by rw [cnt_append]; simp [cnt]
theorem cnt_snoc_other {k x : κ} (h : x ≠ k) (l : List κ) : cnt k (l ++ [x]) = cnt k l := by rw [cnt_append]; simp [cnt, h]
theorem cntK_pos {k : κ} : ∀ {l : List κ}, 0 < cnt k l ↔ k ∈ l
  | [] => by simp [cnt]
  | x :: r => by
    rw [cnt]
    split
    · rename_i h; subst h; simp
    · rename_i h
      rw [cntK_pos (l := r), List.mem_cons]
      exact ⟨.inr, fun a => a.resolve_left (fun e => h e.symm)⟩
theorem cnt_zero {k : κ} {l : List κ} : cnt k l = 0 ↔ k ∉ l := by rw [← cntK_pos]; omega
theorem cnt_le (k : κ) : ∀ l : List κ, cnt k l ≤ l.length
  | [] => Nat.le_refl _
  | x :: r => by
    have := cnt_le k r
    rw [cnt, List.length_cons]
    split <;> omega
theorem drp_not {k : κ} : ∀ {l : List κ}, k ∉ l → drp k l = l
  | [], _ => rfl
  | x :: r, h => by
    rw [drp, if_neg (fun e => h (by simp [e])), drp_not (fun hm => h (List.mem_cons_of_mem _ hm))]
theorem drp_length {k : κ} : ∀ {l : List κ}, k ∈ l → (drp k l).length + 1 = l.length
  | [], h => by simp at h
  | x :: r, h => by
    rw [drp]
    split
    · rfl
    · rename_i hne
      have := drp_length (k := k) (l := r) ((List.mem_cons.1 h).resolve_left (fun e => hne e.symm))
      rw [List.length_cons, List.length_cons, this]
theorem drp_le (k : κ) (l : List κ) : (drp k l).length ≤ l.length := by
  by_cases h : k ∈ l
  · have := drp_length h; omega
  · rw [drp_not h]; exact Nat.le_refl _
theorem cnt_drp_same (k : κ) : ∀ l : List κ, cnt k (drp k l) = cnt k l - 1
  | [] => rfl
  | x :: r => by
    rw [drp, cnt]
    split
    · rfl
    · rename_i hne; rw [cnt, if_neg hne, cnt_drp_same k r]
theorem cnt_drp_other {k x : κ} (h : x ≠ k) : ∀ l : List κ, cnt x (drp k l) = cnt x l
  | [] => rfl
  | y :: r => by
    rw [drp]
    split
    · rename_i e; rw [cnt, if_neg (by rw [e]; exact fun e => h e.symm)]
    · rw [cnt, cnt, cnt_drp_other h r]
theorem drp_sub {k x : κ} {l : List κ} (h : x ∈ drp k l) : x ∈ l := by
  by_cases e : x = k
  · subst e
    have := cnt_drp_same x l
    have h1 := cntK_pos.2 h
    exact cntK_pos.1 (by omega)
  · rw [← cntK_pos, cnt_drp_other e] at h
    exact cntK_pos.1 h
theorem nodup_le : ∀ {ks l : List κ}, ks.Nodup → (∀ k ∈ ks, k ∈ l) → ks.length ≤ l.length
  | [], _, _, _ => Nat.zero_le _
  | k :: r, l, hn, hm => by
    obtain ⟨h1, h2⟩ := List.nodup_cons.1 hn
    have := nodup_le (ks := r) (l := drp k l) h2 (fun x hx => by
      have hne : x ≠ k := fun e => h1 (e ▸ hx)
      rw [← cntK_pos, cnt_drp_other hne, cntK_pos]
      exact hm x (List.mem_cons_of_mem _ hx))
    have h3 := drp_length (hm k (List.mem_cons_self ..))
    rw [List.length_cons]; omega
end

/-! ### The keys of a type -/
structure KT (P : Program) (κ : Type) where
  t : TypeId
  enc : κ → Value
  lit : κ → Lit
  ok : κ → Prop
  keyed : Keyed P t
  key : ∀ k, ok k → keyOf P t (enc k) = some (lit k)
  encInj : ∀ a b, enc a = enc b → a = b
section
variable {P : Program} {κ : Type} {K : KT P κ}
theorem KT.isKey (K : KT P κ) {k : κ} (h : K.ok k) : WideAt.IsKeyLit (K.lit k) := K.keyed.key (K.key k h)
theorem KT.ne (K : KT P κ) {a b : κ} (ha : K.ok a) (hb : K.ok b) (h : a ≠ b) : K.lit a ≠ K.lit b := fun e =>
  h (K.encInj _ _ (K.keyed.inj (K.key a ha) (e ▸ K.key b hb)))
end

/-! ### A map's datum that says how often each thing is wanted -/
section
variable {P : Program} {κ : Type} [DecidableEq κ] {K : KT P κ}
structure Cnt (K : KT P κ) (D : DataW Unit) (l : List κ) : Prop where
  tidy : Tidy D
  keys : ∃ ks : List κ, ks.Nodup ∧ (∀ k, k ∈ ks ↔ k ∈ l) ∧ Maps.size D = ks.length
  get : ∀ k, K.ok k → D.atKey (K.lit k) (.lit (.int .i64 0)) = .lit (.int .i64 (cnt k l))
  has : ∀ k, K.ok k → Maps.has D (K.lit k) = decide (k ∈ l)
theorem Cnt.nil (K : KT P κ) : Cnt K (.map []) [] := ⟨tidy_empty, ⟨[], List.nodup_nil, fun _ => Iff.rfl, rfl⟩, fun _ _ => rfl, fun _ _ => by simp [Maps.has]⟩
theorem Cnt.size_le {D : DataW Unit} {l : List κ} (h : Cnt K D l) : Maps.size D ≤ l.length := by
  obtain ⟨ks, h1, h2, h3⟩ := h.keys
  rw [h3]; exact nodup_le h1 (fun k hk => (h2 k).1 hk)
theorem Cnt.size_nil {D : DataW Unit} (h : Cnt K D []) : Maps.size D = 0 := Nat.le_zero.1 h.size_le
theorem Cnt.put {D : DataW Unit} {l : List κ} (h : Cnt K D l) {k : κ} (hk : K.ok k) : Cnt K (D.put (K.lit k) (.lit (.int .i64 ((cnt k l : Int) + 1)))) (l ++ [k]) := by
  refine ⟨h.tidy.put (K.isKey hk) _, ?_, fun x hx => ?_, fun x hx => ?_⟩
  · obtain ⟨ks, h1, h2, h3⟩ := h.keys
    rw [size_put h.tidy, h.has k hk]
    by_cases hm : k ∈ l
    · refine ⟨ks, h1, fun x => ?_, by simp [hm, h3]⟩
      rw [h2, List.mem_append, List.mem_singleton]
      exact ⟨.inl, fun e => e.elim id (fun e => e ▸ hm)⟩
    · refine ⟨ks ++ [k], ?_, fun x => by simp [h2], by simp [hm, h3]⟩
      rw [List.nodup_append]
      refine ⟨h1, by simp, fun a ha b hb e => ?_⟩
      rw [List.mem_singleton.1 hb] at e
      exact hm ((h2 k).1 (e ▸ ha))
  · by_cases e : x = k
    · subst e; rw [atKey_put_same h.tidy.isMap (K.isKey hk), cnt_snoc_same]; rfl
    · rw [atKey_put_other (K.ne hx hk e), h.get x hx, cnt_snoc_other (fun e' => e e'.symm)]
  · by_cases e : x = k
    · subst e; rw [has_put_same h.tidy.isMap (K.isKey hk)]; simp
    · rw [has_put_other (K.ne hx hk e), h.has x hx]; simp [e]
theorem Cnt.less {D : DataW Unit} {l : List κ} (h : Cnt K D l) {k : κ} (hk : K.ok k) (h1 : 1 < cnt k l) : Cnt K (D.put (K.lit k) (.lit (.int .i64 ((cnt k l : Int) - 1)))) (drp k l) := by
  have hm : k ∈ l := cntK_pos.1 (by omega)
  have hmem : ∀ x, x ∈ drp k l ↔ x ∈ l := fun x => by
    by_cases e : x = k
    · subst e; rw [← cntK_pos, cnt_drp_same, ← cntK_pos]; omega
    · rw [← cntK_pos, cnt_drp_other e, cntK_pos]
  refine ⟨h.tidy.put (K.isKey hk) _, ?_, fun x hx => ?_, fun x hx => ?_⟩
  · obtain ⟨ks, h1, h2, h3⟩ := h.keys
    exact ⟨ks, h1, fun x => by rw [h2, hmem], by rw [size_put h.tidy, h.has k hk]; simp [hm, h3]⟩
  · by_cases e : x = k
    · subst e
      rw [atKey_put_same h.tidy.isMap (K.isKey hk), cnt_drp_same]
      congr 2; omega
    · rw [atKey_put_other (K.ne hx hk e), h.get x hx, cnt_drp_other e]
  · by_cases e : x = k
    · subst e; rw [has_put_same h.tidy.isMap (K.isKey hk)]; simp [hmem, hm]
    · rw [has_put_other (K.ne hx hk e), h.has x hx]; simp [hmem]
theorem Cnt.del {D : DataW Unit} {l : List κ} (h : Cnt K D l) {k : κ} (hk : K.ok k) (h1 : cnt k l = 1) : Cnt K (D.del (K.lit k)) (drp k l) := by
  have hm : k ∈ l := cntK_pos.1 (by omega)
  have hno : k ∉ drp k l := by rw [← cnt_zero, cnt_drp_same]; omega
  have hmem : ∀ x, x ≠ k → (x ∈ drp k l ↔ x ∈ l) := fun x e => by rw [← cntK_pos, cnt_drp_other e, cntK_pos]
  refine ⟨h.tidy.del _, ?_, fun x hx => ?_, fun x hx => ?_⟩
  · obtain ⟨ks, hn0, h2, h3⟩ := h.keys
    have hs := size_del h.tidy (k := K.lit k)
    rw [h.has k hk, decide_eq_true hm, if_pos rfl, h3] at hs
    have hmk : k ∈ ks := (h2 k).2 hm
    refine ⟨drp k ks, ?_, fun x => ?_, by have := drp_length hmk; omega⟩
    · clear hs h3 h2 hmk
      induction ks with
      | nil => exact List.nodup_nil
      | cons y r ih =>
        obtain ⟨a, b⟩ := List.nodup_cons.1 hn0
        rw [drp]
        split
        · exact b
        · exact List.nodup_cons.2 ⟨fun hx => a (drp_sub hx), ih b⟩
    · by_cases e : x = k
      · subst e
        refine ⟨fun hx => ?_, fun hx => absurd hx hno⟩
        exfalso
        have c1 : ∀ {ks : List κ}, ks.Nodup → cnt x ks ≤ 1 := by
          intro ks
          induction ks with
          | nil => intro _; simp [cnt]
          | cons y r ih =>
            intro hn
            obtain ⟨a, b⟩ := List.nodup_cons.1 hn
            rw [cnt]
            split
            · rename_i e; subst e; rw [cnt_zero.2 a]; exact Nat.le_refl _
            · exact ih b
        have := cntK_pos.2 hx
        rw [cnt_drp_same] at this
        have := c1 hn0
        omega
      · rw [← cntK_pos, cnt_drp_other e, cntK_pos, h2, hmem x e]
  · by_cases e : x = k
    · subst e; rw [atKey_del_same, cnt_zero.2 hno]; rfl
    · rw [atKey_del_other (K.ne hx hk e), h.get x hx, cnt_drp_other e]
  · by_cases e : x = k
    · subst e; rw [has_del_same]; simp [hno]
    · rw [has_del_other (K.ne hx hk e), h.has x hx]; simp [hmem x e]
end

/-- A map of at most n entries is one of at most as many as it has. -/
theorem ownsMap_tight {P : Program} {k : TypeId} {R : Value → Option (DataW Unit × List MemPlace)} {w : World} {b n m : Nat} {D : DataW Unit} (h : w.ownsMap P k R b n D) (hm : Maps.size D ≤ m) : w.ownsMap P k R b m D := by
  obtain ⟨es, clock, hb, F, hs, rfl⟩ := h
  refine ⟨es, clock, hb, F, ?_, rfl⟩
  have e := length_read (P := P) (k := k) (R0 := R) es
  rw [Maps.size_eq, e] at hm
  exact hm
theorem Kept.map {F : Nat → Prop} {w w' : World} (h : Kept F w w') {P : Program} {k : TypeId} {R : Value → Option (DataW Unit × List MemPlace)} {b n : Nat} {D : DataW Unit} (ho : w.ownsMap P k R b n D) (hb : ¬ F b) : w'.ownsMap P k R b n D := by
  obtain ⟨es, clock, hbb, r⟩ := ho
  exact ⟨es, clock, by rw [h.block b (Array.getElem?_eq_some_iff.1 hbb).1 hb]; exact hbb, r⟩

/-! ### A tally in memory -/
section
variable {P : Program} {κ : Type} [DecidableEq κ] {K : KT P κ} {e tT : TypeId}
/-- The blocks of a tally. -/
def TFoot (p : Nat) (m : Value) (k : Nat) : Prop := k = p ∨ m = .map (some k)
/-- Block p is a tally of the things l; it and its map lie from block B on. -/
structure Tal (K : KT P κ) (e tT : TypeId) (w : World) (B p : Nat) (m : Value) (l : List κ) : Prop where
  len : l.length ≤ 10000
  ok : ∀ x ∈ l, K.ok x
  base : B ≤ p
  here : w.heap[p]? = some (.cells #[m, .int .i64 l.length] tT (0, 0))
  mp : (m = .map none ∧ l = []) ∨ ∃ bm D, m = .map (some bm) ∧ B ≤ bm ∧ w.ownsMap (H := Unit) P K.t (plainElem P e) bm l.length D ∧ Cnt K D l
variable {w w' : World} {B p : Nat} {m : Value} {l l' : List κ}
theorem Tal.lt (h : Tal K e tT w B p m l) : p < w.heap.size := (Array.getElem?_eq_some_iff.1 h.here).1
theorem Tal.foot (h : Tal K e tT w B p m l) {k : Nat} (hk : TFoot p m k) : B ≤ k ∧ k < w.heap.size := by
  rcases hk with rfl | rfl
  · exact ⟨h.base, h.lt⟩
  · rcases h.mp with ⟨e, _⟩ | ⟨bm, D, e, hb, ho, _⟩
    · cases e
    · cases e; exact ⟨hb, ho.lt⟩
theorem Tal.kept (h : Tal K e tT w B p m l) {F : Nat → Prop} (hk : Kept F w w') (hF : ∀ k, TFoot p m k → ¬ F k) : Tal K e tT w' B p m l := by
  refine ⟨h.len, h.ok, h.base, ?_, ?_⟩
  · rw [hk.block p h.lt (hF p (.inl rfl))]; exact h.here
  · rcases h.mp with e | ⟨bm, D, e, hb, ho, ht⟩
    · exact .inl e
    · exact .inr ⟨bm, D, e, hb, hk.map ho (hF bm (.inr e)), ht⟩
theorem Tal.keptN (h : Tal K e tT w B p m l) (hk : Kept Nil w w') : Tal K e tT w' B p m l := h.kept hk (fun _ _ g => g)
theorem Tal.cell0 (h : Tal K e tT w B p m l) : w.cell? ⟨p, 0, none⟩ = some m := by simp [World.cell?, h.here]
theorem Tal.cell1 (h : Tal K e tT w B p m l) : w.cell? ⟨p, 1, none⟩ = some (.int .i64 l.length) := by simp [World.cell?, h.here]
theorem Tal.free (h : Tal K e tT w B p m l) (o : Nat) : w.frozen? ⟨p, o, none⟩ = false := by simp [World.frozen?, h.here]
/-- A block of values of another type is none of a tally's. -/
theorem Tal.other (h : Tal K e tT w B p m l) {k : Nat} {cur : Array Value} {t : TypeId} {fr : Nat × Nat} (hb : w.heap[k]? = some (.cells cur t fr)) (ht : t ≠ tT) : ¬ TFoot p m k := by
  rintro (rfl | rfl)
  · rw [h.here] at hb; injection hb with hb; injection hb with _ h2 _; exact ht h2.symm
  · rcases h.mp with ⟨e, _⟩ | ⟨bm, D, e, _, ho, _⟩
    · cases e
    · cases e
      obtain ⟨es, clock, hbb, _⟩ := ho
      rw [hbb] at hb; cases hb
/-- The look-up of a thing: how often it is wanted. -/
theorem Tal.look (h : Tal K e tT w B p m l) (he : P.underlying e = some (.int .i64)) {tM : TypeId} (hM : P.underlying tM = some (.map K.t e)) (hz : ∀ w, (zeroValue e).run P w = .ok (.int .i64 0) w) {k : κ} (hk : K.ok k) :
    (Instr.lookup tM m (K.enc k) false).run P w = .ok (.int .i64 (cnt k l)) w := by
  rcases h.mp with ⟨rfl, rfl⟩ | ⟨bm, D, rfl, hb, ho, ht⟩
  · exact look_nil (w := w) false K.keyed hM (hz w) (K.key k hk)
  · obtain ⟨c, hrun, hat, _⟩ := ho.lookup_int K.keyed hM he (hz w) (K.key k hk)
    rw [ht.get k hk] at hat
    simp at hat
    rw [hrun, ← hat]
/-- What a tally's call that writes leaves. -/
def TGrew (K : KT P κ) (e tT : TypeId) (w w' : World) (B p : Nat) (m : Value) (l : List κ) : Prop :=
  ∃ m', Tal K e tT w' B p m' l ∧ (∀ k, TFoot p m' k → TFoot p m k ∨ w.heap.size ≤ k) ∧ Kept (TFoot p m) w w'
end
section
variable {P : Program} {κ : Type} [DecidableEq κ] {K : KT P κ} {e tT : TypeId} {w w' : World} {B p : Nat} {m : Value} {l l' : List κ}
/-- A tally whose map is made. -/
theorem Tal.withMap (h : Tal K e tT w B p (.map none) l) : Tal K e tT ((w.setCell ⟨p, 0, none⟩ (.map (some w.heap.size))).alloc (.map #[] 0)) B p (.map (some w.heap.size)) l := by
  have hp := h.lt
  have hB := h.base
  have hsz : (w.setCell ⟨p, 0, none⟩ (.map (some w.heap.size))).heap.size = w.heap.size := by simp [World.setCell]
  rcases h.mp with ⟨_, rfl⟩ | ⟨bm, D, e, _⟩
  rotate_left
  · cases e
  refine ⟨h.len, h.ok, h.base, ?_, .inr ⟨w.heap.size, .map [], rfl, by omega, ?_, Cnt.nil K⟩⟩
  · rw [Below.heap_alloc _ _ p (by rw [hsz]; exact hp)]
    simp [World.setCell, Array.getElem?_modify, h.here]
  · have := World.ownsMap_made (H := Unit) (w.setCell ⟨p, 0, none⟩ (.map (some w.heap.size))) P K.t (plainElem P e)
    rw [hsz] at this
    exact this
theorem TGrew.made (h : TGrew K e tT ((w.setCell ⟨p, 0, none⟩ (.map (some w.heap.size))).alloc (.map #[] 0)) w' B p (.map (some w.heap.size)) l) : TGrew K e tT w w' B p (.map none) l := by
  obtain ⟨m', r1, r2, r3⟩ := h
  have hsz : ((w.setCell ⟨p, 0, none⟩ (.map (some w.heap.size))).alloc (.map #[] 0)).heap.size = w.heap.size + 1 := by simp [World.setCell]
  refine ⟨m', r1, fun k hk => ?_, ?_⟩
  · rcases r2 k hk with (rfl | e) | e
    · exact .inl (.inl rfl)
    · cases e; exact .inr (Nat.le_refl _)
    · exact .inr (by rw [hsz] at e; omega)
  · refine (((Kept.refl _ w).setCell ⟨p, 0, none⟩ (.inl (.inl rfl)) _).alloc _).trans r3 (fun i hi e => ?_)
    rcases e with rfl | e
    · exact .inl rfl
    · cases e; exact absurd hi (Nat.lt_irrefl _)
/-- Behind a call on the map: the tally's own cells stay. -/
theorem Tal.mapped {bm : Nat} (h : Tal K e tT w B p (.map (some bm)) l) (hg : w.grownBy w' (some bm)) :
    w'.heap[p]? = some (.cells #[.map (some bm), .int .i64 l.length] tT (0, 0)) := by
  have hpb : p ≠ bm := fun e => by
    rcases h.mp with ⟨e2, _⟩ | ⟨bm', D, e2, _, ho, _⟩
    · cases e2
    · cases e2
      obtain ⟨es, clock, hbb, _⟩ := ho
      rw [← e, h.here] at hbb; cases hbb
  rw [hg.block p h.lt (fun e => hpb (Option.some.inj e))]
  exact h.here
theorem Tal.done {bm n : Nat} {D : DataW Unit} (h : Tal K e tT w B p (.map (some bm)) l) (hg : w.grownBy w' (some bm)) (ho : w'.ownsMap (H := Unit) P K.t (plainElem P e) bm n D) (hc : Cnt K D l') (hl : l'.length ≤ 10000) (ok : ∀ x ∈ l', K.ok x) {q : Int} (hq : q = l'.length) :
    TGrew K e tT w (w'.setCell ⟨p, 1, none⟩ (.int .i64 q)) B p (.map (some bm)) l' := by
  subst hq
  have hh := h.mapped hg
  have hbp : bm ≠ p := fun e => by
    obtain ⟨es, clock, hbb, _⟩ := ho
    rw [e, hh] at hbb; cases hbb
  have hb := (h.foot (k := bm) (.inr rfl)).1
  refine ⟨.map (some bm), ⟨hl, ok, h.base, ?_, .inr ⟨bm, D, rfl, hb, ownsMap_tight (ho.setCell (a := ⟨p, 1, none⟩) hbp _) hc.size_le, hc⟩⟩, fun k hk => .inl hk, ?_⟩
  · simp [World.setCell, Array.getElem?_modify, hh]
  · exact ((Kept.refl _ w).grown hg (fun k e => .inl (.inr (by cases e; rfl)))).setCell ⟨p, 1, none⟩ (.inl (.inl rfl)) _
end
end
end Go.Proofs.YtljefbfjehblpaaGreat
