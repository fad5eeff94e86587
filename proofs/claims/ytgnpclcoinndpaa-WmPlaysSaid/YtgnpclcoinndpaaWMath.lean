/- Facts: triples with ids; looked for, put in, taken out; a map's datum that says so; the document's own list. No program. -/
import Derived.Test.YtgnpclcoinndpaaEls
import Derived.Maps.OwnSet
namespace Go.Proofs.Ytgnpclcoinndpaa
open Go.RowKit Go.Maps

abbrev T3 := Int × Int × Int
/-- A symbol's number; a right triple. -/
def okN (n : Int) : Bool := decide (1 ≤ n ∧ n ≤ 4096)
def okT (t : T3) : Bool := okN t.1 && (okN t.2.1 && okN t.2.2)
theorem okN_iff {n : Int} : okN n = true ↔ 1 ≤ n ∧ n ≤ 4096 := by unfold okN; exact decide_eq_true_iff
/-- A triple, as a value, and as a datum. -/
def arr (t : T3) : Value := .agg #[.int .i64 t.1, .int .i64 t.2.1, .int .i64 t.2.2]
def d3 (t : T3) : DataW Unit := .agg [.lit (.int .i64 t.1), .lit (.int .i64 t.2.1), .lit (.int .i64 t.2.2)]
theorem d3_inj {s t : T3} (h : d3 s = d3 t) : s = t := by
  unfold d3 at h
  simp at h
  exact Prod.ext h.1 (Prod.ext h.2.1 h.2.2)

/-! ### Facts -/
abbrev F4 := Int × T3
/-- The triple of an id. -/
def look (l : List F4) (k : Int) : Option T3 := match l with
  | [] => none
  | x :: r => if x.1 = k then some x.2 else look r k
/-- The list without an id's fact. -/
def rid (l : List F4) (k : Int) : List F4 := l.filter (fun x => decide (x.1 ≠ k))
/-- The ids rise. -/
def Rise (l : List F4) : Prop := l.Pairwise (fun x y => x.1 < y.1)
theorem look_none : ∀ {l : List F4} {k : Int}, look l k = none ↔ ∀ x ∈ l, x.1 ≠ k
  | [], k => by simp [look]
  | x :: r, k => by
    rw [look]
    split
    · rename_i h; simp [h]
    · rename_i h; rw [look_none (l := r)]; simp [h]
theorem look_mem : ∀ {l : List F4} {k : Int} {t : T3}, look l k = some t → (k, t) ∈ l
  | [], k, t, h => by simp [look] at h
  | x :: r, k, t, h => by
    rw [look] at h
    split at h
    · rename_i e
      injection h with h
      rw [← e, ← h]
      exact List.mem_cons_self ..
    · exact List.mem_cons_of_mem _ (look_mem h)
theorem look_of_mem : ∀ {l : List F4}, Rise l → ∀ {x : F4}, x ∈ l → look l x.1 = some x.2
  | [], _, x, h => by simp at h
  | y :: r, hr, x, h => by
    obtain ⟨a, b⟩ := List.pairwise_cons.1 hr
    rw [look]
    rcases List.mem_cons.1 h with e | e
    · subst e; rw [if_pos rfl]
    · rw [if_neg (by have := a x e; omega)]
      exact look_of_mem b e
theorem look_snoc_same {l : List F4} {k : Int} (t : T3) (h : look l k = none) : look (l ++ [(k, t)]) k = some t := by
  induction l with
  | nil => simp [look]
  | cons x r ih =>
    rw [look] at h
    split at h
    · cases h
    · rename_i e
      rw [List.cons_append, look, if_neg e]
      exact ih h
theorem look_snoc_other {k j : Int} (t : T3) (h : j ≠ k) : ∀ l : List F4, look (l ++ [(k, t)]) j = look l j
  | [] => by simp [look, Ne.symm h]
  | x :: r => by rw [List.cons_append, look, look, look_snoc_other t h r]
theorem look_rid_same (l : List F4) (k : Int) : look (rid l k) k = none := by
  rw [look_none]
  intro x hx
  have := (List.mem_filter.1 hx).2
  exact of_decide_eq_true this
theorem look_rid_other {k j : Int} (h : j ≠ k) : ∀ l : List F4, look (rid l k) j = look l j
  | [] => rfl
  | x :: r => by
    have ih := look_rid_other h r
    unfold rid at ih ⊢
    rw [List.filter_cons]
    split
    · rw [look, look, ih]
    · rename_i e
      have e : x.1 = k := by simpa using e
      rw [ih, look, if_neg (by rw [e]; exact fun e => h e.symm)]
theorem rid_not {l : List F4} {k : Int} (h : look l k = none) : rid l k = l := by
  unfold rid
  rw [List.filter_eq_self]
  intro x hx
  exact decide_eq_true (look_none.1 h x hx)
theorem rid_length : ∀ {l : List F4} {k : Int} {t : T3}, Rise l → look l k = some t → (rid l k).length + 1 = l.length
  | [], k, t, _, h => by simp [look] at h
  | x :: r, k, t, hr, h => by
    obtain ⟨a, b⟩ := List.pairwise_cons.1 hr
    rw [look] at h
    split at h
    · rename_i e
      have hn : look r k = none := look_none.2 (fun y hy => by have := a y hy; omega)
      have := rid_not hn
      unfold rid at this ⊢
      rw [List.filter_cons, if_neg (by simpa using e), this]
      rfl
    · rename_i e
      have := rid_length b h
      unfold rid at this ⊢
      rw [List.filter_cons, if_pos (by simpa using e), List.length_cons, List.length_cons]
      omega
theorem rid_le (l : List F4) (k : Int) : (rid l k).length ≤ l.length := List.length_filter_le _ _
theorem rid_rise {l : List F4} (h : Rise l) (k : Int) : Rise (rid l k) := h.filter _
theorem rid_sub {l : List F4} {k : Int} {x : F4} (h : x ∈ rid l k) : x ∈ l := (List.mem_filter.1 h).1
theorem snoc_rise {l : List F4} (h : Rise l) {k : Int} (t : T3) (hk : ∀ x ∈ l, x.1 < k) : Rise (l ++ [(k, t)]) := by
  refine List.pairwise_append.2 ⟨h, List.pairwise_singleton _ _, fun x hx y hy => ?_⟩
  rw [List.mem_singleton.1 hy]
  exact hk x hx
theorem Rise.nodup {l : List F4} (h : Rise l) : l.Nodup := List.Pairwise.imp (R := fun (a b : F4) => a.1 < b.1) (S := fun a b => a ≠ b) (fun {a b} (h : a.1 < b.1) (e : a = b) => by rw [e] at h; omega) h
/-- Two lists that rise and have the same facts are one. -/
theorem rise_eq : ∀ {l l' : List F4}, Rise l → Rise l' → (∀ x, x ∈ l ↔ x ∈ l') → l = l'
  | [], [], _, _, _ => rfl
  | [], y :: r, _, _, h => by have := (h y).2 (List.mem_cons_self ..); simp at this
  | x :: r, [], _, _, h => by have := (h x).1 (List.mem_cons_self ..); simp at this
  | x :: r, y :: s, h1, h2, h => by
    obtain ⟨a1, b1⟩ := List.pairwise_cons.1 h1
    obtain ⟨a2, b2⟩ := List.pairwise_cons.1 h2
    have e : x = y := by
      rcases List.mem_cons.1 ((h x).1 (List.mem_cons_self ..)) with e | e
      · exact e
      · rcases List.mem_cons.1 ((h y).2 (List.mem_cons_self ..)) with e' | e'
        · exact e'.symm
        · have h1 := a1 y e'
          have h2 := a2 x e
          omega
    subst e
    rw [rise_eq b1 b2 (fun z => ⟨fun hz => ?_, fun hz => ?_⟩)]
    · rcases List.mem_cons.1 ((h z).1 (List.mem_cons_of_mem _ hz)) with e | e
      · subst e; have := a1 z hz; omega
      · exact e
    · rcases List.mem_cons.1 ((h z).2 (List.mem_cons_of_mem _ hz)) with e | e
      · subst e; have := a2 z hz; omega
      · exact e

/-! ### A map of triples -/
/-- How a triple reads. -/
def tripE : Value → Option (DataW Unit × List MemPlace)
  | .agg cs => match cs.toList with
    | [.int .i64 a, .int .i64 b, .int .i64 c] => some (d3 (a, b, c), [])
    | _ => none
  | _ => none
theorem tripE_mk (t : T3) : tripE (arr t) = some (d3 t, []) := rfl
theorem tripE_inv {v : Value} {y : DataW Unit × List MemPlace} (h : tripE v = some y) : ∃ t : T3, v = arr t ∧ y = (d3 t, []) := by
  unfold tripE at h
  split at h
  · rename_i cs
    split at h
    · rename_i a b c e
      injection h with h
      refine ⟨(a, b, c), ?_, h.symm⟩
      unfold arr
      congr 1
      exact Array.toList_inj.1 (by rw [e])
    · cases h
  · cases h
theorem tripE_at {v : Value} {t : T3} {ps : List MemPlace} (h : tripE v = some (d3 t, ps)) : v = arr t := by
  obtain ⟨s, rfl, e⟩ := tripE_inv h
  rw [d3_inj (congrArg Prod.fst e)]
theorem int_ne {a b : Int} (h : a ≠ b) : Lit.int .i64 a ≠ .int .i64 b := fun e => h (by simpa using e)
/-- A map's datum that has just these facts. -/
structure MapL (D : DataW Unit) (l : List F4) : Prop where
  tidy : Tidy D
  size : Maps.size D = l.length
  get : ∀ k t, look l k = some t → ∀ zd, D.atKey (.int .i64 k) zd = d3 t
  has : ∀ k, Maps.has D (.int .i64 k) = (look l k).isSome
theorem MapL.nil : MapL (.map []) [] := ⟨tidy_empty, rfl, fun k t h => by simp [look] at h, fun _ => by simp [Maps.has, look]⟩
theorem MapL.miss {D : DataW Unit} {l : List F4} (h : MapL D l) {k : Int} (hk : look l k = none) (zd : DataW Unit) : D.atKey (.int .i64 k) zd = zd :=
  atKey_of_not_has (by rw [h.has, hk]; rfl) zd
theorem MapL.put {D : DataW Unit} {l : List F4} (h : MapL D l) {k : Int} (hk : look l k = none) (t : T3) : MapL (D.put (.int .i64 k) (d3 t)) (l ++ [(k, t)]) := by
  refine ⟨h.tidy.put (by trivial) _, ?_, fun j s hj zd => ?_, fun j => ?_⟩
  · rw [size_put h.tidy, h.has, hk, h.size, List.length_append]; rfl
  · by_cases e : j = k
    · subst e
      rw [look_snoc_same t hk] at hj
      injection hj with hj
      rw [atKey_put_same h.tidy.isMap (by trivial), hj]
    · rw [look_snoc_other t e] at hj
      rw [atKey_put_other (int_ne e), h.get j s hj]
  · by_cases e : j = k
    · subst e
      rw [has_put_same h.tidy.isMap (by trivial), look_snoc_same t hk]; rfl
    · rw [has_put_other (int_ne e), h.has, look_snoc_other t e]
theorem MapL.del {D : DataW Unit} {l : List F4} (h : MapL D l) (hr : Rise l) (k : Int) : MapL (D.del (.int .i64 k)) (rid l k) := by
  refine ⟨h.tidy.del _, ?_, fun j s hj zd => ?_, fun j => ?_⟩
  · have h1 := size_del h.tidy (k := .int .i64 k)
    rw [h.has, h.size] at h1
    cases hk : look l k with
    | none => rw [hk] at h1; rw [rid_not hk]; simpa using h1
    | some t =>
      rw [hk] at h1
      have := rid_length hr hk
      simp at h1
      omega
  · by_cases e : j = k
    · subst e; rw [look_rid_same] at hj; cases hj
    · rw [look_rid_other e] at hj
      rw [atKey_del_other (int_ne e), h.get j s hj]
  · by_cases e : j = k
    · subst e; rw [has_del_same, look_rid_same]; rfl
    · rw [has_del_other (int_ne e), h.has, look_rid_other e]

/-- A map of at most n entries is one of at most as many as it has. -/
theorem ownsMap_tight {P : Program} {k : TypeId} {R : Value → Option (DataW Unit × List MemPlace)} {w : World} {b n m : Nat} {D : DataW Unit} (h : w.ownsMap P k R b n D) (hm : Maps.size D ≤ m) : w.ownsMap P k R b m D := by
  obtain ⟨es, clock, hb, F, hs, rfl⟩ := h
  refine ⟨es, clock, hb, F, ?_, rfl⟩
  have e := length_read (P := P) (k := k) (R0 := R) es
  rw [Maps.size_eq, e] at hm
  exact hm
theorem Kept.map {F : Nat → Prop} {w w' : World} (h : Kept F w w') {P : Program} {k : TypeId} {R : Value → Option (DataW Unit × List MemPlace)} {b n : Nat} {D : DataW Unit} (ho : w.ownsMap P k R b n D) (hb : ¬ F b) : w'.ownsMap P k R b n D := by
  obtain ⟨es, clock, hbb, r⟩ := ho
  exact ⟨es, clock, by rw [h.block b (Array.getElem?_eq_some_iff.1 hbb).1 hb]; exact hbb, r⟩

/-! ### The document's own list -/
/-- A fact's cells. -/
def encF (x : F4) : List Value := [.int .i64 x.1, .int .i64 x.2.1, .int .i64 x.2.2.1, .int .i64 x.2.2.2]
def flatF (l : List F4) : List Value := l.flatMap encF
theorem flatF_len : ∀ l : List F4, (flatF l).length = l.length * 4
  | [] => rfl
  | x :: r => by
    show (encF x ++ flatF r).length = _
    rw [List.length_append, flatF_len r, List.length_cons]
    show 4 + _ = _
    omega
theorem flatF_get : ∀ (l : List F4) (i j : Nat) (x : F4), l[i]? = some x → j < 4 → (flatF l)[i * 4 + j]? = (encF x)[j]?
  | [], i, j, x, h, _ => by simp at h
  | y :: r, 0, j, x, h, hj => by
    simp only [List.getElem?_cons_zero, Option.some.injEq] at h
    subst h
    show (encF y ++ flatF r)[0 * 4 + j]? = _
    rw [Nat.zero_mul, Nat.zero_add, List.getElem?_append_left (by show j < 4; exact hj)]
  | y :: r, i + 1, j, x, h, hj => by
    show (encF y ++ flatF r)[(i + 1) * 4 + j]? = _
    rw [List.getElem?_append_right (by show 4 ≤ _; omega), show (i + 1) * 4 + j - (encF y).length = i * 4 + j by show _ - 4 = _; omega]
    exact flatF_get r i j x (by simpa using h) hj
theorem flatF_append (l l' : List F4) : flatF (l ++ l') = flatF l ++ flatF l' := List.flatMap_append
theorem encF_one (x : F4) : ∀ v ∈ encF x, v.oneCell' = true := fun v hv => by
  simp only [encF, List.mem_cons, List.not_mem_nil, or_false] at hv
  rcases hv with rfl | rfl | rfl | rfl <;> rfl
theorem flatF_one (l : List F4) : ∀ u ∈ flatF l, u.oneCell' = true := by
  intro u hu
  obtain ⟨x, _, hx⟩ := List.mem_flatMap.1 hu
  exact encF_one x u hx
/-- The facts that are in: of all that ever were, those that aren't out. -/
def inL (all : List F4) (gone : List Int) : List F4 := all.filter (fun x => decide (x.1 ∉ gone))
theorem inL_gone (all : List F4) (gone : List Int) (k : Int) : inL all (gone ++ [k]) = rid (inL all gone) k := by
  unfold inL rid
  rw [List.filter_filter]
  congr 1
  funext x
  by_cases h : x.1 ∈ gone <;> by_cases e : x.1 = k <;> simp [h, e]
theorem inL_snoc (all : List F4) (gone : List Int) (x : F4) (h : x.1 ∉ gone) : inL (all ++ [x]) gone = inL all gone ++ [x] := by
  unfold inL
  rw [List.filter_append]
  congr 1
  simp [h]
theorem inL_le (all : List F4) (gone : List Int) : (inL all gone).length ≤ all.length := List.length_filter_le _ _
end Go.Proofs.Ytgnpclcoinndpaa
