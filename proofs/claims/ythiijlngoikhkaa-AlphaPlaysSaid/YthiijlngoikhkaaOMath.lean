/- Memories of ids, plain: what is wanted, how often, and what each has; no program. -/
import Derived.Test.YthiijlngoikhkaaIn
import Derived.Test.YthiijlngoikhkaaNMath
import Derived.Test.YthiijlngoikhkaaKMath
namespace Go.Proofs.Ythiijlngoikhkaa
open Go.RowKit Go.Maps

/-! ### Ids that rise -/
def Rise (l : List Int) : Prop := l.Pairwise (fun x y => x < y)
def ins (x : Int) : List Int → List Int
  | [] => [x]
  | y :: r => if x < y then x :: y :: r else y :: ins x r
def put (l : List Int) (x : Int) : List Int := if x ∈ l then l else ins x l
def del (x : Int) (l : List Int) : List Int := l.filter (fun y => decide (y ≠ x))
theorem Rise.nodup {l : List Int} (h : Rise l) : l.Nodup := List.Pairwise.imp (R := fun (a b : Int) => a < b) (S := fun a b => a ≠ b) (fun {a b} (h : a < b) (e : a = b) => by omega) h
theorem rise_eq : ∀ {l l' : List Int}, Rise l → Rise l' → (∀ x, x ∈ l ↔ x ∈ l') → l = l'
  | [], [], _, _, _ => rfl
  | [], y :: r, _, _, h => by have := (h y).2 (List.mem_cons_self ..); simp at this
  | x :: r, [], _, _, h => by have := (h x).1 (List.mem_cons_self ..); simp at this
  | x :: r, y :: s, h1, h2, h => by
    obtain ⟨a1, b1⟩ := List.pairwise_cons.1 h1
    obtain ⟨a2, b2⟩ := List.pairwise_cons.1 h2
    have e : x = y := by
      rcases List.mem_cons.1 ((h x).1 (List.mem_cons_self ..)) with e | e
      · exact e
      · rcases List.mem_cons.1 ((h y).2 (List.mem_cons_self ..)) with e' | e'
        · exact e'.symm
        · have h1 := a1 y e'
          have h2 := a2 x e
          omega
    subst e
    rw [rise_eq b1 b2 (fun z => ⟨fun hz => ?_, fun hz => ?_⟩)]
    · rcases List.mem_cons.1 ((h z).1 (List.mem_cons_of_mem _ hz)) with e | e
      · subst e; have := a1 z hz; omega
      · exact e
    · rcases List.mem_cons.1 ((h z).2 (List.mem_cons_of_mem _ hz)) with e | e
      · subst e; have := a2 z hz; omega
      · exact e
theorem mem_ins {x y : Int} : ∀ {l : List Int}, y ∈ ins x l ↔ y = x ∨ y ∈ l
  | [] => by simp [ins]
  | z :: r => by
    rw [ins]
    split
    · simp
    · rw [List.mem_cons, mem_ins, List.mem_cons]
      exact ⟨fun h => h.elim (fun e => .inr (.inl e)) (fun h => h.elim .inl (fun h => .inr (.inr h))), fun h => h.elim (fun e => .inr (.inl e)) (fun h => h.elim .inl (fun h => .inr (.inr h)))⟩
theorem rise_ins {x : Int} : ∀ {l : List Int}, Rise l → x ∉ l → Rise (ins x l)
  | [], _, _ => List.pairwise_singleton _ _
  | z :: r, h, hx => by
    obtain ⟨a, b⟩ := List.pairwise_cons.1 h
    rw [ins]
    split
    · rename_i hlt
      refine List.pairwise_cons.2 ⟨fun y hy => ?_, h⟩
      rcases List.mem_cons.1 hy with rfl | hy
      · exact hlt
      · have := a y hy; omega
    · rename_i hge
      refine List.pairwise_cons.2 ⟨fun y hy => ?_, rise_ins b (fun h => hx (List.mem_cons_of_mem _ h))⟩
      rcases mem_ins.1 hy with rfl | hy
      · have : y ≠ z := fun e => hx (by rw [e]; exact List.mem_cons_self ..)
        omega
      · exact a y hy
theorem ins_length (x : Int) : ∀ l : List Int, (ins x l).length = l.length + 1
  | [] => rfl
  | z :: r => by
    rw [ins]
    split
    · rfl
    · rw [List.length_cons, ins_length x r, List.length_cons]
theorem ins_last {x : Int} : ∀ {l : List Int}, (∀ y ∈ l, y < x) → ins x l = l ++ [x]
  | [], _ => rfl
  | z :: r, h => by
    rw [ins, if_neg (by have := h z (List.mem_cons_self ..); omega), ins_last (fun y hy => h y (List.mem_cons_of_mem _ hy))]; rfl
theorem mem_put {l : List Int} {x y : Int} : y ∈ put l x ↔ y = x ∨ y ∈ l := by
  unfold put
  split
  · rename_i h
    exact ⟨.inr, fun e => e.elim (fun e => e ▸ h) id⟩
  · exact mem_ins
theorem rise_put {l : List Int} (h : Rise l) (x : Int) : Rise (put l x) := by
  unfold put
  split
  · exact h
  · rename_i hx; exact rise_ins h hx
theorem put_le (l : List Int) (x : Int) : (put l x).length ≤ l.length + 1 := by
  unfold put
  split
  · omega
  · rw [ins_length]; exact Nat.le_refl _
theorem put_in {l : List Int} {x : Int} (h : x ∈ l) : put l x = l := if_pos h
theorem put_out {l : List Int} {x : Int} (h : x ∉ l) : put l x = ins x l := if_neg h
theorem mem_del {l : List Int} {x y : Int} : y ∈ del x l ↔ y ∈ l ∧ y ≠ x := by simp [del]
theorem rise_del {l : List Int} (h : Rise l) (x : Int) : Rise (del x l) := h.filter _
theorem del_le (l : List Int) (x : Int) : (del x l).length ≤ l.length := List.length_filter_le _ _
theorem del_out {l : List Int} {x : Int} (h : x ∉ l) : del x l = l := by
  unfold del
  rw [List.filter_eq_self]
  intro y hy
  exact decide_eq_true (fun e => h (e ▸ hy))
theorem del_length {x : Int} : ∀ {l : List Int}, Rise l → x ∈ l → (del x l).length + 1 = l.length
  | [], _, h => by simp at h
  | z :: r, hr, h => by
    obtain ⟨a, b⟩ := List.pairwise_cons.1 hr
    unfold del
    rw [List.filter_cons]
    rcases List.mem_cons.1 h with rfl | h
    · have hn : x ∉ r := fun hx => by have := a x hx; omega
      have := del_out hn
      unfold del at this
      rw [if_neg (by simp), this]; rfl
    · have hne : z ≠ x := fun e => by have := a x h; omega
      have := del_length b h
      unfold del at this
      rw [if_pos (by simpa using hne), List.length_cons, List.length_cons]
      omega

/-! ### A map of ids -/
theorem int_ne {a b : Int} (h : a ≠ b) : Lit.int .i64 a ≠ .int .i64 b := fun e => h (by simpa using e)
/-- A map's datum that has just these ids, each with true. -/
structure SetD (D : DataW Unit) (l : List Int) : Prop where
  tidy : Tidy D
  size : Maps.size D = l.length
  has : ∀ x, Maps.has D (.int .i64 x) = decide (x ∈ l)
  get : ∀ x, D.atKey (.int .i64 x) (.lit (.bool false)) = .lit (.bool (decide (x ∈ l)))
theorem SetD.nil : SetD (.map []) [] := ⟨tidy_empty, rfl, fun _ => by simp [Maps.has], fun _ => rfl⟩
theorem SetD.put {D : DataW Unit} {l : List Int} (h : SetD D l) (x : Int) : SetD (D.put (.int .i64 x) (.lit (.bool true))) (put l x) := by
  refine ⟨h.tidy.put (by trivial) _, ?_, fun y => ?_, fun y => ?_⟩
  · rw [size_put h.tidy, h.has, h.size]
    unfold Proofs.Ythiijlngoikhkaa.put
    by_cases e : x ∈ l
    · simp [e]
    · simp [e, ins_length]
  · by_cases e : y = x
    · subst e
      rw [has_put_same h.tidy.isMap (by trivial)]
      exact (decide_eq_true (mem_put.2 (.inl rfl))).symm
    · rw [has_put_other (int_ne e), h.has]
      congr 1
      exact propext ⟨fun h => mem_put.2 (.inr h), fun h => (mem_put.1 h).resolve_left e⟩
  · by_cases e : y = x
    · subst e
      rw [atKey_put_same h.tidy.isMap (by trivial), decide_eq_true (mem_put.2 (.inl rfl))]
    · rw [atKey_put_other (int_ne e), h.get]
      congr 2
      exact decide_eq_decide.2 ⟨fun h => mem_put.2 (.inr h), fun h => (mem_put.1 h).resolve_left e⟩
theorem SetD.del {D : DataW Unit} {l : List Int} (h : SetD D l) (hr : Rise l) (x : Int) : SetD (D.del (.int .i64 x)) (del x l) := by
  refine ⟨h.tidy.del _, ?_, fun y => ?_, fun y => ?_⟩
  · have h1 := size_del h.tidy (k := .int .i64 x)
    rw [h.has, h.size] at h1
    by_cases e : x ∈ l
    · have := del_length hr e
      rw [decide_eq_true e] at h1
      simp at h1
      omega
    · rw [decide_eq_false e] at h1
      rw [del_out e]
      simpa using h1
  · by_cases e : y = x
    · subst e
      rw [has_del_same]
      exact (decide_eq_false (fun h => (mem_del.1 h).2 rfl)).symm
    · rw [has_del_other (int_ne e), h.has]
      congr 1
      exact propext ⟨fun h => mem_del.2 ⟨h, e⟩, fun h => (mem_del.1 h).1⟩
  · by_cases e : y = x
    · subst e
      rw [atKey_del_same, decide_eq_false (fun h => (mem_del.1 h).2 rfl)]
    · rw [atKey_del_other (int_ne e), h.get]
      congr 2
      exact decide_eq_decide.2 ⟨fun h => mem_del.2 ⟨h, e⟩, fun h => (mem_del.1 h).1⟩

/-! ### Memories -/
structure Mem where
  key : T3
  n : Nat
  has : List Int
def mem (L : List Mem) (k : T3) : Option Mem := L.find? (fun m => decide (m.key = k))
def wanted (L : List Mem) (k : T3) : Nat := match mem L k with | some m => m.n | none => 0
def items (L : List Mem) (k : T3) : List Int := match mem L k with | some m => m.has | none => []
def upd (L : List Mem) (k : T3) (f : Mem → Mem) : List Mem := L.map (fun m => if m.key = k then f m else m)
def rem (L : List Mem) (k : T3) : List Mem := L.filter (fun m => decide (m.key ≠ k))
def keysL (L : List Mem) : List T3 := L.map (·.key)
theorem mem_some {L : List Mem} {k : T3} {m : Mem} (h : mem L k = some m) : m ∈ L ∧ m.key = k := by
  unfold mem at h
  exact ⟨List.mem_of_find?_eq_some h, by simpa using List.find?_some h⟩
theorem mem_none {L : List Mem} {k : T3} : mem L k = none ↔ ∀ m ∈ L, m.key ≠ k := by
  unfold mem
  rw [List.find?_eq_none]
  simp
theorem mem_cons (m : Mem) (L : List Mem) (k : T3) : mem (m :: L) k = if m.key = k then some m else mem L k := by
  unfold mem
  rw [List.find?_cons]
  by_cases h : m.key = k
  · rw [if_pos h, decide_eq_true h]
  · rw [if_neg h, decide_eq_false h]
theorem mem_of : ∀ {L : List Mem}, (keysL L).Nodup → ∀ {m : Mem}, m ∈ L → mem L m.key = some m
  | [], _, m, h => by simp at h
  | x :: r, hn, m, h => by
    obtain ⟨a, b⟩ := List.nodup_cons.1 hn
    rw [mem_cons]
    rcases List.mem_cons.1 h with rfl | h
    · rw [if_pos rfl]
    · rw [if_neg (fun e => a (List.mem_map.2 ⟨m, h, e.symm⟩)), mem_of b h]
theorem mem_upd_same {k : T3} {f : Mem → Mem} (hf : ∀ m, (f m).key = m.key) : ∀ L : List Mem, mem (upd L k f) k = (mem L k).map f
  | [] => rfl
  | x :: r => by
    show mem ((if x.key = k then f x else x) :: upd r k f) k = _
    rw [mem_cons, mem_cons]
    by_cases h : x.key = k
    · rw [if_pos h, if_pos h, if_pos (by rw [hf, h])]; rfl
    · rw [if_neg h, if_neg h, if_neg h, mem_upd_same hf r]
theorem mem_upd_other {k j : T3} {f : Mem → Mem} (hf : ∀ m, (f m).key = m.key) (hj : j ≠ k) : ∀ L : List Mem, mem (upd L k f) j = mem L j
  | [] => rfl
  | x :: r => by
    show mem ((if x.key = k then f x else x) :: upd r k f) j = _
    rw [mem_cons, mem_cons, mem_upd_other hf hj r]
    by_cases h : x.key = k
    · rw [if_pos h, if_neg (by rw [hf, h]; exact fun e => hj e.symm), if_neg (by rw [h]; exact fun e => hj e.symm)]
    · rw [if_neg h]
theorem keys_upd {k : T3} {f : Mem → Mem} (hf : ∀ m, (f m).key = m.key) (L : List Mem) : keysL (upd L k f) = keysL L := by
  unfold keysL upd
  rw [List.map_map]
  apply List.map_congr_left
  intro m _
  show (if m.key = k then f m else m).key = m.key
  split
  · exact hf m
  · rfl
theorem upd_length (L : List Mem) (k : T3) (f : Mem → Mem) : (upd L k f).length = L.length := List.length_map ..
theorem upd_none {L : List Mem} {k : T3} (h : mem L k = none) (f : Mem → Mem) : upd L k f = L := by
  unfold upd
  conv => rhs; rw [← List.map_id L]
  apply List.map_congr_left
  intro m hm
  rw [if_neg (mem_none.1 h m hm)]; rfl
theorem upd_id {L : List Mem} {k : T3} {f : Mem → Mem} (h : ∀ m ∈ L, m.key = k → f m = m) : upd L k f = L := by
  unfold upd
  conv => rhs; rw [← List.map_id L]
  apply List.map_congr_left
  intro m hm
  by_cases e : m.key = k
  · rw [if_pos e, h m hm e]; rfl
  · rw [if_neg e]; rfl
theorem mem_of_upd {L : List Mem} {k : T3} {f : Mem → Mem} {m : Mem} (h : m ∈ upd L k f) : ∃ x ∈ L, m = if x.key = k then f x else x := by
  obtain ⟨x, hx, e⟩ := List.mem_map.1 h
  exact ⟨x, hx, e.symm⟩
theorem upd_set {L : List Mem} (hn : (keysL L).Nodup) {i : Nat} {m : Mem} (hi : L[i]? = some m) (f : Mem → Mem) : upd L m.key f = L.set i (f m) := by
  apply List.ext_getElem?
  intro j
  unfold upd
  rw [List.getElem?_map, List.getElem?_set]
  have hil := (List.getElem?_eq_some_iff.1 hi).1
  by_cases e : i = j
  · subst e
    rw [if_pos rfl, hi, if_pos hil]
    simp
  · rw [if_neg e]
    cases hj : L[j]? with
    | none => rfl
    | some x =>
      have hne : x.key ≠ m.key := fun e2 => by
        have hjl := (List.getElem?_eq_some_iff.1 hj).1
        have h1 : (keysL L)[i]? = some m.key := by unfold keysL; rw [List.getElem?_map, hi]; rfl
        have h2 : (keysL L)[j]? = some m.key := by unfold keysL; rw [List.getElem?_map, hj, ← e2]; rfl
        have hl : i < (keysL L).length := (List.getElem?_eq_some_iff.1 h1).1
        exact e ((List.getElem?_inj hl hn).1 (h1.trans h2.symm))
      simp [hne]
theorem mem_snoc_same {L : List Mem} {m : Mem} (h : mem L m.key = none) : mem (L ++ [m]) m.key = some m := by
  unfold mem at h ⊢
  rw [List.find?_append, h]
  simp
theorem mem_snoc_other {L : List Mem} {m : Mem} {k : T3} (h : m.key ≠ k) : mem (L ++ [m]) k = mem L k := by
  unfold mem
  rw [List.find?_append]
  simp [h]
theorem keys_snoc {L : List Mem} {m : Mem} (hn : (keysL L).Nodup) (h : mem L m.key = none) : (keysL (L ++ [m])).Nodup := by
  unfold keysL at hn ⊢
  rw [List.map_append, List.nodup_append]
  refine ⟨hn, by simp, fun a ha b hb e => ?_⟩
  obtain ⟨x, hx, rfl⟩ := List.mem_map.1 ha
  simp at hb
  subst hb
  exact mem_none.1 h x hx e
theorem mem_rem_same (L : List Mem) (k : T3) : mem (rem L k) k = none := by
  rw [mem_none]
  intro m hm
  exact of_decide_eq_true (List.mem_filter.1 hm).2
theorem mem_rem_other {k j : T3} (h : j ≠ k) : ∀ L : List Mem, mem (rem L k) j = mem L j
  | [] => rfl
  | x :: r => by
    have ih := mem_rem_other h r
    unfold rem at ih ⊢
    rw [List.filter_cons]
    by_cases e : x.key = k
    · rw [if_neg (by simpa using e), ih, mem_cons, if_neg (by rw [e]; exact fun e => h e.symm)]
    · rw [if_pos (by simpa using e), mem_cons, mem_cons, ih]
theorem keys_rem {L : List Mem} (hn : (keysL L).Nodup) (k : T3) : (keysL (rem L k)).Nodup := hn.sublist ((List.filter_sublist).map _)
theorem rem_none {L : List Mem} {k : T3} (h : mem L k = none) : rem L k = L := by
  unfold rem
  rw [List.filter_eq_self]
  intro m hm
  exact decide_eq_true (mem_none.1 h m hm)
theorem rem_length : ∀ {L : List Mem} {k : T3} {m : Mem}, (keysL L).Nodup → mem L k = some m → (rem L k).length + 1 = L.length
  | [], k, m, _, h => by simp [mem] at h
  | x :: r, k, m, hn, h => by
    obtain ⟨a, b⟩ := List.nodup_cons.1 hn
    rw [mem_cons] at h
    unfold rem
    rw [List.filter_cons]
    by_cases e : x.key = k
    · have hnone : mem r k = none := mem_none.2 (fun y hy e2 => a (List.mem_map.2 ⟨y, hy, e2.trans e.symm⟩))
      have := rem_none hnone
      unfold rem at this
      rw [if_neg (by simpa using e), this]; rfl
    · rw [if_neg e] at h
      have := rem_length b h
      unfold rem at this
      rw [if_pos (by simpa using e), List.length_cons, List.length_cons]
      omega
theorem wanted_none {L : List Mem} {k : T3} (h : mem L k = none) : wanted L k = 0 := by unfold wanted; rw [h]
theorem wanted_some {L : List Mem} {k : T3} {m : Mem} (h : mem L k = some m) : wanted L k = m.n := by unfold wanted; rw [h]
theorem items_none {L : List Mem} {k : T3} (h : mem L k = none) : items L k = [] := by unfold items; rw [h]
theorem items_some {L : List Mem} {k : T3} {m : Mem} (h : mem L k = some m) : items L k = m.has := by unfold items; rw [h]

/-! ### Calls -/
/-- The ids of those facts that have a key, each put. -/
def beg (k : T3) (facts : List (Int × T3)) : List Int := facts.foldl (fun h f => if hasK f.2 k then put h f.1 else h) []
theorem beg_snoc (k : T3) (l : List (Int × T3)) (f : Int × T3) : beg k (l ++ [f]) = if hasK f.2 k then put (beg k l) f.1 else beg k l := by
  unfold beg
  rw [List.foldl_append]; rfl
theorem beg_rise (k : T3) (l : List (Int × T3)) : Rise (beg k l) := by
  unfold beg
  have : ∀ (l : List (Int × T3)) (h : List Int), Rise h → Rise (l.foldl (fun h f => if hasK f.2 k then put h f.1 else h) h) := by
    intro l
    induction l with
    | nil => intro h hh; exact hh
    | cons f r ih =>
      intro h hh
      rw [List.foldl_cons]
      refine ih _ ?_
      split
      · exact rise_put hh _
      · exact hh
  exact this l [] List.Pairwise.nil
theorem beg_mem (k : T3) (l : List (Int × T3)) {x : Int} (h : x ∈ beg k l) : ∃ f ∈ l, f.1 = x ∧ hasK f.2 k = true := by
  have : ∀ (l : List (Int × T3)) (h : List Int), x ∈ l.foldl (fun h f => if hasK f.2 k then put h f.1 else h) h → x ∈ h ∨ ∃ f ∈ l, f.1 = x ∧ hasK f.2 k = true := by
    intro l
    induction l with
    | nil => intro h hh; exact .inl hh
    | cons f r ih =>
      intro h hh
      rw [List.foldl_cons] at hh
      rcases ih _ hh with h1 | ⟨g, hg, e⟩
      · split at h1
        · rename_i hk
          rcases mem_put.1 h1 with rfl | h1
          · exact .inr ⟨f, List.mem_cons_self .., rfl, hk⟩
          · exact .inl h1
        · exact .inl h1
      · exact .inr ⟨g, List.mem_cons_of_mem _ hg, e⟩
  rcases this l [] h with h | h
  · simp at h
  · exact h
theorem beg_le (k : T3) (l : List (Int × T3)) : (beg k l).length ≤ l.length := by
  have : ∀ (l : List (Int × T3)) (h : List Int), (l.foldl (fun h f => if hasK f.2 k then put h f.1 else h) h).length ≤ h.length + l.length := by
    intro l
    induction l with
    | nil => intro h; exact Nat.le_refl _
    | cons f r ih =>
      intro h
      rw [List.foldl_cons]
      refine Nat.le_trans (ih _) ?_
      rw [List.length_cons]
      split
      · have := put_le h f.1; omega
      · omega
  simpa [beg] using this l []
def wantL (L : List Mem) (k : T3) (facts : List (Int × T3)) : List Mem := match mem L k with
  | some _ => upd L k (fun m => ⟨m.key, m.n + 1, m.has⟩)
  | none => L ++ [⟨k, 1, beg k facts⟩]
def dropL (L : List Mem) (k : T3) : List Mem := if wanted L k = 1 then rem L k else upd L k (fun m => ⟨m.key, m.n - 1, m.has⟩)
def putL (L : List Mem) (k : T3) (x : Int) : List Mem := upd L k (fun m => ⟨m.key, m.n, put m.has x⟩)
def takeL (L : List Mem) (k : T3) (x : Int) : List Mem := upd L k (fun m => ⟨m.key, m.n, del x m.has⟩)
def canPut (L : List Mem) (k : T3) (x : Int) : Bool := match mem L k with | some m => decide (x ∉ m.has) | none => false
def canTake (L : List Mem) (k : T3) (x : Int) : Bool := match mem L k with | some m => decide (x ∈ m.has) | none => false
theorem putL_no {L : List Mem} (hn : (keysL L).Nodup) {k : T3} {x : Int} (h : canPut L k x = false) : putL L k x = L := by
  unfold canPut at h
  cases hm : mem L k with
  | none => exact upd_none hm _
  | some m =>
    rw [hm] at h
    have hx : x ∈ m.has := by simpa using h
    refine upd_id (fun y hy e => ?_)
    have := mem_of hn hy
    rw [e, hm] at this
    cases this
    rw [put_in hx]
theorem takeL_no {L : List Mem} (hn : (keysL L).Nodup) {k : T3} {x : Int} (h : canTake L k x = false) : takeL L k x = L := by
  unfold canTake at h
  cases hm : mem L k with
  | none => exact upd_none hm _
  | some m =>
    rw [hm] at h
    have hx : x ∉ m.has := by simpa using h
    refine upd_id (fun y hy e => ?_)
    have := mem_of hn hy
    rw [e, hm] at this
    cases this
    rw [del_out hx]
/-- The keys that a triple touches, of the first so many. -/
def touchedN (L : List Mem) (t : T3) : Nat → List T3
  | 0 => []
  | n + 1 => touchedN L t n ++ if (mem L (keyT t n)).isSome then [keyT t n] else []
def touched (L : List Mem) (t : T3) : List T3 := touchedN L t 8
/-- Something done at each key: what becomes of the memories, and at which it was true. -/
def runK (ans : List Mem → T3 → Bool) (act : List Mem → T3 → List Mem) (ks : List T3) (L : List Mem) : List Mem × List T3 :=
  ks.foldl (fun s k => (act s.1 k, if ans s.1 k then s.2 ++ [k] else s.2)) (L, [])
theorem runK_snoc (ans : List Mem → T3 → Bool) (act : List Mem → T3 → List Mem) (ks : List T3) (L : List Mem) (k : T3) :
    runK ans act (ks ++ [k]) L = (act (runK ans act ks L).1 k, if ans (runK ans act ks L).1 k then (runK ans act ks L).2 ++ [k] else (runK ans act ks L).2) := by
  unfold runK
  rw [List.foldl_append]; rfl
theorem runK_le (ans : List Mem → T3 → Bool) (act : List Mem → T3 → List Mem) (L : List Mem) : ∀ ks : List T3, (runK ans act ks L).2.length ≤ ks.length := by
  have : ∀ (ks : List T3) (s : List Mem × List T3), (ks.foldl (fun s k => (act s.1 k, if ans s.1 k then s.2 ++ [k] else s.2)) s).2.length ≤ s.2.length + ks.length := by
    intro ks
    induction ks with
    | nil => intro s; exact Nat.le_refl _
    | cons k r ih =>
      intro s
      rw [List.foldl_cons]
      refine Nat.le_trans (ih _) ?_
      rw [List.length_cons]
      show (if ans s.1 k then s.2 ++ [k] else s.2).length + _ ≤ _
      split
      · rw [List.length_append]; simp; omega
      · omega
  intro ks
  simpa [runK] using this ks (L, [])
theorem touchedN_le (L : List Mem) (t : T3) : ∀ n, (touchedN L t n).length ≤ n
  | 0 => Nat.le_refl _
  | n + 1 => by
    have := touchedN_le L t n
    rw [touchedN, List.length_append]
    split <;> simp <;> omega
theorem touchedN_mem (L : List Mem) (t : T3) (k : T3) : ∀ n, k ∈ touchedN L t n ↔ (isK t k n = true ∧ (mem L k).isSome = true)
  | 0 => by simp [touchedN, isK]
  | n + 1 => by
    rw [touchedN, List.mem_append, touchedN_mem L t k n]
    show _ ↔ (isK t k n || decide (keyT t n = k)) = true ∧ _
    rw [Bool.or_eq_true, decide_eq_true_iff]
    constructor
    · rintro (⟨h1, h2⟩ | h)
      · exact ⟨.inl h1, h2⟩
      · split at h
        · rename_i hs
          have := List.mem_singleton.1 h
          subst this
          exact ⟨.inr rfl, hs⟩
        · simp at h
    · rintro ⟨h1 | rfl, h2⟩
      · exact .inl ⟨h1, h2⟩
      · right
        rw [if_pos h2]
        exact List.mem_singleton.2 rfl
theorem touched_mem {L : List Mem} {t k : T3} : k ∈ touched L t ↔ (hasK t k = true ∧ (mem L k).isSome = true) := by
  unfold touched
  rw [touchedN_mem, isK_has]
theorem touched_le (L : List Mem) (t : T3) : (touched L t).length ≤ 8 := touchedN_le L t 8
end Go.Proofs.Ythiijlngoikhkaa
