/- A store in memory: its tally, its map of memories, each memory's own map of ids. -/
import Derived.Test.YthiijlngoikhkaaOtB
import Derived.Test.YthiijlngoikhkaaOMath
namespace Go.Proofs.Ythiijlngoikhkaa
open Go.RowKit Go.Maps Go.WideMaps
set_option maxRecDepth 100000

theorem lawI : Keyed Try.prog 3 := int_keyed Try.underlying3
theorem keyI {x : Int} (h : (Lit.int .i64 x).wf = true) : keyOf Try.prog 3 (.int .i64 x) = some (.int .i64 x) := keyOf_int_mk Try.underlying3 h
noncomputable abbrev boolE : Value → Option (DataW Unit × List MemPlace) := plainElem (H := Unit) Try.prog 4
theorem boolE_mk (b : Bool) : boolE (.bool b) = some (.lit (.bool b), []) := plainElem_bool Try.underlying4 b
theorem boolE_inv {v : Value} {b : Bool} {ps : List MemPlace} (h : boolE v = some (.lit (.bool b), ps)) : v = .bool b := by
  unfold boolE plainElem at h
  rw [Try.underlying4] at h
  cases v <;> simp at h
  rw [h.1]
theorem zeroB (w : World) : (zeroValue 4).run Try.prog w = .ok (.bool false) w := by kernel_rfl
theorem zeroM (w : World) : (zeroValue 86).run Try.prog w = .ok (.map none) w := by kernel_rfl
/-- How a map reads that is another map's element: as its block's number. -/
def mapE : Value → Option (DataW Unit × List MemPlace)
  | .map none => some (.nil, [])
  | .map (some q) => some (.lit (.int .i64 q), [])
  | _ => none
theorem mapE_nil : mapE (.map none) = some (.nil, []) := rfl
theorem mapE_mk (q : Nat) : mapE (.map (some q)) = some (.lit (.int .i64 q), []) := rfl
theorem mapE_inv_nil {v : Value} {ps : List MemPlace} (h : mapE v = some (.nil, ps)) : v = .map none := by
  unfold mapE at h
  split at h
  · rfl
  · simp at h
  · cases h
theorem mapE_inv {v : Value} {q : Nat} {ps : List MemPlace} (h : mapE v = some (.lit (.int .i64 q), ps)) : v = .map (some q) := by
  unfold mapE at h
  split at h
  · simp at h
  · simp at h; have := h.1; congr 2; omega
  · cases h

/-! ### A map of ids -/
structure SetM (w : World) (b : Nat) (l : List Int) : Prop where
  rise : Rise l
  wf : ∀ x ∈ l, (Lit.int .i64 x).wf = true
  mp : ∃ D, w.ownsMap (H := Unit) Try.prog 3 boolE b l.length D ∧ SetD D l
section
variable {w w' : World} {b : Nat} {l : List Int}
theorem SetM.lt (h : SetM w b l) : b < w.heap.size := by obtain ⟨D, ho, _⟩ := h.mp; exact ho.lt
theorem SetM.isMap (h : SetM w b l) : ∃ es clock, w.heap[b]? = some (.map es clock) := by obtain ⟨D, ⟨es, clock, hb, _⟩, _⟩ := h.mp; exact ⟨es, clock, hb⟩
theorem SetM.kept (h : SetM w b l) {F : Nat → Prop} (hk : Kept F w w') (hF : ¬ F b) : SetM w' b l := by
  obtain ⟨D, ho, hD⟩ := h.mp
  exact ⟨h.rise, h.wf, D, hk.map ho hF, hD⟩
theorem SetM.new (w : World) : SetM (w.alloc (.map #[] 0)) w.heap.size [] := ⟨List.Pairwise.nil, by simp, .map [], World.ownsMap_made (H := Unit) w Try.prog 3 boolE, SetD.nil⟩
theorem SetM.look (h : SetM w b l) {x : Int} (hx : (Lit.int .i64 x).wf = true) : (Instr.lookup 86 (.map (some b)) (.int .i64 x) false).run Try.prog w = .ok (.bool (decide (x ∈ l))) w := by
  obtain ⟨D, ho, hD⟩ := h.mp
  obtain ⟨v, ps, hrun, hv⟩ := ho.lookup lawI Try.underlying86 (zeroB w) (boolE_mk false) (keyI hx)
  rw [hD.get] at hv
  rw [hrun, boolE_inv hv]
theorem SetM.lookN (w : World) {x : Int} (hx : (Lit.int .i64 x).wf = true) : (Instr.lookup 86 (.map none) (.int .i64 x) false).run Try.prog w = .ok (.bool false) w :=
  look_nil (w := w) false lawI Try.underlying86 (zeroB w) (keyI hx)
theorem SetM.put (h : SetM w b l) (hn : l.length ≤ 5000) {x : Int} (hx : (Lit.int .i64 x).wf = true) :
    ∃ w', (Instr.mapUpdate 86 (.map (some b)) (.int .i64 x) (.bool true)).run Try.prog w = .ok () w' ∧ SetM w' b (put l x) ∧ Kept (fun i => i = b) w w' := by
  obtain ⟨D, ho, hD⟩ := h.mp
  obtain ⟨w', hrun, ho', hg⟩ := ho.update (val := .bool true) lawI Try.underlying86 (by unfold maxLen; omega) (keyI hx) (boolE_mk true)
  have hD' := hD.put x
  refine ⟨w', hrun, ⟨rise_put h.rise x, fun y hy => ?_, _, ownsMap_tight ho' (Nat.le_of_eq hD'.size), hD'⟩, (Kept.refl _ _).grown hg (fun i e => .inl (by simpa using e.symm))⟩
  rcases mem_put.1 hy with rfl | hy
  · exact hx
  · exact h.wf y hy
theorem SetM.del (h : SetM w b l) {x : Int} (hx : (Lit.int .i64 x).wf = true) :
    ∃ w', (Builtin.delete_ #[86, 3] 0 #[.map (some b), .int .i64 x]).run Try.prog w = .ok (.tuple #[]) w' ∧ SetM w' b (del x l) ∧ Kept (fun i => i = b) w w' := by
  obtain ⟨D, ho, hD⟩ := h.mp
  obtain ⟨w', hrun, ho', ht⟩ := ho.drop lawI Try.underlying86 (keyI hx) 0
  have hD' := hD.del h.rise x
  exact ⟨w', hrun, ⟨rise_del h.rise x, fun y hy => h.wf y (mem_del.1 hy).1, _, ownsMap_tight ho' (Nat.le_of_eq hD'.size), hD'⟩, (Kept.refl _ _).grown ht.grown (fun i e => .inl (by simpa using e.symm))⟩
end

/-! ### The map of memories -/
structure Outer (D : DataW Unit) (L : List Mem) (g : T3 → Nat) : Prop where
  tidy : Tidy D
  size : Maps.size D = L.length
  has : ∀ k, K3.ok k → Maps.has D (K3.lit k) = (mem L k).isSome
  get : ∀ m ∈ L, D.atKey (K3.lit m.key) .nil = .lit (.int .i64 (g m.key))
theorem Outer.nil (g : T3 → Nat) : Outer (.map []) [] g := ⟨tidy_empty, rfl, fun _ _ => by simp [Maps.has, mem], by simp⟩
theorem Outer.snoc {D : DataW Unit} {L : List Mem} {g : T3 → Nat} (h : Outer D L g) (hok : ∀ m ∈ L, K3.ok m.key) {m : Mem} (hk : K3.ok m.key) (hm : mem L m.key = none) (b : Nat) :
    Outer (D.put (K3.lit m.key) (.lit (.int .i64 (b : Int)))) (L ++ [m]) (fun j => if j = m.key then b else g j) := by
  refine ⟨h.tidy.put (K3.isKey hk) _, ?_, fun k hk' => ?_, fun x hx => ?_⟩
  · rw [size_put h.tidy, h.has _ hk, hm, h.size, List.length_append]; rfl
  · by_cases e : k = m.key
    · subst e
      rw [has_put_same h.tidy.isMap (K3.isKey hk), mem_snoc_same hm]; rfl
    · rw [has_put_other (K3.ne hk' hk e), h.has k hk', mem_snoc_other (fun e2 => e e2.symm)]
  · rcases List.mem_append.1 hx with hx | hx
    · have hne : x.key ≠ m.key := mem_none.1 hm x hx
      rw [atKey_put_other (K3.ne (hok x hx) hk hne), if_neg hne, h.get x hx]
    · rw [List.mem_singleton.1 hx, atKey_put_same h.tidy.isMap (K3.isKey hk), if_pos rfl]
theorem Outer.gone {D : DataW Unit} {L : List Mem} {g : T3 → Nat} (h : Outer D L g) (hn : (keysL L).Nodup) (hok : ∀ m ∈ L, K3.ok m.key) {k : T3} (hk : K3.ok k) : Outer (D.del (K3.lit k)) (rem L k) g := by
  refine ⟨h.tidy.del _, ?_, fun j hj => ?_, fun x hx => ?_⟩
  · have h1 := size_del h.tidy (k := K3.lit k)
    rw [h.has k hk, h.size] at h1
    cases hm : mem L k with
    | none => rw [hm] at h1; rw [rem_none hm]; simpa using h1
    | some m =>
      rw [hm] at h1
      have := rem_length hn hm
      simp at h1
      omega
  · by_cases e : j = k
    · subst e; rw [has_del_same, mem_rem_same]; rfl
    · rw [has_del_other (K3.ne hj hk e), h.has j hj, mem_rem_other e]
  · have hx' := List.mem_filter.1 hx
    have hne : x.key ≠ k := of_decide_eq_true hx'.2
    rw [atKey_del_other (K3.ne (hok x hx'.1) hk hne), h.get x hx'.1]
theorem Outer.upd {D : DataW Unit} {L : List Mem} {g : T3 → Nat} (h : Outer D L g) (k : T3) {f : Mem → Mem} (hf : ∀ m, (f m).key = m.key) : Outer D (upd L k f) g := by
  refine ⟨h.tidy, by rw [h.size, upd_length], fun j hj => ?_, fun x hx => ?_⟩
  · rw [h.has j hj]
    by_cases e : j = k
    · subst e; rw [mem_upd_same hf]; cases mem L j <;> rfl
    · rw [mem_upd_other hf e]
  · obtain ⟨y, hy, rfl⟩ := mem_of_upd hx
    have : (if y.key = k then f y else y).key = y.key := by split <;> simp [hf]
    rw [this]; exact h.get y hy

/-! ### The store -/
/-- What a call's new blocks make of a set of blocks. -/
def Fup (F : Nat → Prop) (w w' : World) (k : Nat) : Prop := F k ∨ (w.heap.size ≤ k ∧ k < w'.heap.size)
/-- Block p is a store: mm: its tally's map; x: its map of memories; g: where each memory's map is; F: its blocks. -/
structure Stc (w : World) (F : Nat → Prop) (p : Nat) (mm x : Value) (g : T3 → Nat) (l : List T3) (L : List Mem) : Prop where
  inF : ∀ k, F k → k < w.heap.size
  keys : (keysL L).Nodup
  ok : ∀ m ∈ L, K3.ok m.key
  tal : Talt w 0 p mm x l
  fp : F p
  fm : ∀ k, mm = .map (some k) → F k
  outer : (x = .map none ∧ L = []) ∨ ∃ bo D, x = .map (some bo) ∧ F bo ∧ mm ≠ .map (some bo) ∧ w.ownsMap (H := Unit) Try.prog K3.t mapE bo L.length D ∧ Outer D L g
  mems : ∀ m ∈ L, F (g m.key) ∧ x ≠ .map (some (g m.key)) ∧ mm ≠ .map (some (g m.key)) ∧ SetM w (g m.key) m.has
  apart : ∀ a ∈ L, ∀ b ∈ L, g a.key = g b.key → a.key = b.key
/-- Where a memory's map is. -/
def han (L : List Mem) (g : T3 → Nat) (k : T3) : Option Nat := (mem L k).map (fun _ => g k)
section
variable {w w' : World} {F : Nat → Prop} {p : Nat} {mm x : Value} {g : T3 → Nat} {l l' : List T3} {L : List Mem}
theorem Stc.foot (h : Stc w F p mm x g l L) {k : Nat} (hk : TFoot p mm k) : F k := by
  rcases hk with rfl | e
  · exact h.fp
  · exact h.fm k e
theorem Stc.kept {G : Nat → Prop} (h : Stc w F p mm x g l L) (hk : Kept G w w') (hG : ∀ k, F k → ¬ G k) : Stc w' F p mm x g l L := by
  refine ⟨fun k e => Nat.lt_of_lt_of_le (h.inF k e) hk.size, h.keys, h.ok, h.tal.kept hk (fun k e => hG k (h.foot e)), h.fp, h.fm, ?_, fun m hm => ?_, h.apart⟩
  · rcases h.outer with e | ⟨bo, D, e, fo, hne, ho, hD⟩
    · exact .inl e
    · exact .inr ⟨bo, D, e, fo, hne, hk.map ho (hG bo fo), hD⟩
  · obtain ⟨a, b, c, d⟩ := h.mems m hm
    exact ⟨a, b, c, d.kept hk (hG _ a)⟩
theorem Stc.keptN (h : Stc w F p mm x g l L) (hk : Kept Nil w w') : Stc w' F p mm x g l L := h.kept hk (fun _ _ e => e)
/-- More blocks may be said to be its own. -/
theorem Stc.wider {G : Nat → Prop} (h : Stc w F p mm x g l L) (hFG : ∀ k, F k → G k) (hG : ∀ k, G k → k < w.heap.size) : Stc w G p mm x g l L := by
  refine ⟨hG, h.keys, h.ok, h.tal, hFG _ h.fp, fun k e => hFG _ (h.fm k e), ?_, fun m hm => ?_, h.apart⟩
  · rcases h.outer with e | ⟨bo, D, e, fo, r⟩
    · exact .inl e
    · exact .inr ⟨bo, D, e, hFG _ fo, r⟩
  · obtain ⟨a, r⟩ := h.mems m hm
    exact ⟨hFG _ a, r⟩
theorem Stc.up (h : Stc w F p mm x g l L) (w0 : World) : Stc w (Fup F w0 w) p mm x g l L :=
  h.wider (fun _ e => .inl e) (fun k e => e.elim (h.inF k) (·.2))
theorem Stc.p_ne (h : Stc w F p mm x g l L) {b : Nat} {s : List Int} (hb : SetM w b s) : b ≠ p := fun e => by
  obtain ⟨es, clock, he⟩ := hb.isMap
  rw [e, h.tal.here] at he; cases he
theorem Stc.o_ne (h : Stc w F p mm x g l L) {bo n : Nat} {D : DataW Unit} (ho : w.ownsMap (H := Unit) Try.prog K3.t mapE bo n D) : bo ≠ p := fun e => by
  obtain ⟨es, clock, he, _⟩ := ho
  rw [e, h.tal.here] at he; cases he
/-- The look-up of a memory. -/
theorem Stc.look (h : Stc w F p mm x g l L) {k : T3} (hk : K3.ok k) : (Instr.lookup 76 x (.agg #[.int .i64 k.1, .int .i64 k.2.1, .int .i64 k.2.2]) false).run Try.prog w = .ok (.map (han L g k)) w := by
  rcases h.outer with ⟨rfl, rfl⟩ | ⟨bo, D, rfl, _, _, ho, hD⟩
  · exact look_nil (w := w) false law3 Try.underlying76 (zeroM w) (K3.key k hk)
  · obtain ⟨v, ps, hrun, hv⟩ := ho.lookup law3 Try.underlying76 (zeroM w) mapE_nil (K3.key k hk)
    cases hm : mem L k with
    | none =>
      rw [atKey_of_not_has (by rw [hD.has k hk, hm]; rfl)] at hv
      rw [show han L g k = none by unfold han; rw [hm]; rfl, ← mapE_inv_nil hv]
      exact hrun
    | some m =>
      obtain ⟨hmL, e⟩ := mem_some hm
      have hg := hD.get m hmL
      rw [e] at hg
      rw [hg] at hv
      rw [show han L g k = some (g k) by unfold han; rw [hm]; rfl, ← mapE_inv hv]
      exact hrun
theorem Stc.look2 (h : Stc w F p mm x g l L) {k : T3} (hk : K3.ok k) : (Instr.lookup 76 x (.agg #[.int .i64 k.1, .int .i64 k.2.1, .int .i64 k.2.2]) true).run Try.prog w = .ok (.tuple #[.map (han L g k), .bool (mem L k).isSome]) w := by
  rcases h.outer with ⟨rfl, rfl⟩ | ⟨bo, D, rfl, _, _, ho, hD⟩
  · exact look_nil (w := w) true law3 Try.underlying76 (zeroM w) (K3.key k hk)
  · obtain ⟨v, ps, hrun, hv⟩ := ho.look_ok law3 Try.underlying76 (zeroM w) mapE_nil (K3.key k hk)
    rw [hD.has k hk] at hrun
    cases hm : mem L k with
    | none =>
      rw [atKey_of_not_has (by rw [hD.has k hk, hm]; rfl)] at hv
      rw [show han L g k = none by unfold han; rw [hm]; rfl, ← mapE_inv_nil hv, ← hm]
      exact hrun
    | some m =>
      obtain ⟨hmL, e⟩ := mem_some hm
      have hg := hD.get m hmL
      rw [e] at hg
      rw [hg] at hv
      rw [show han L g k = some (g k) by unfold han; rw [hm]; rfl, ← mapE_inv hv, ← hm]
      exact hrun
/-- One memory's ids turned. -/
theorem Stc.turn (h : Stc w F p mm x g l L) {k : T3} {m : Mem} (hm : mem L k = some m) (hk : Kept (fun i => i = g k) w w') {f : Mem → Mem} (hf : ∀ m, (f m).key = m.key) (hs : SetM w' (g k) (f m).has) : Stc w' F p mm x g l (upd L k f) := by
  obtain ⟨hmL, e⟩ := mem_some hm
  obtain ⟨a, b, c, d⟩ := h.mems m hmL
  rw [e] at a b c d
  have hpne := h.p_ne d
  refine ⟨fun i e => Nat.lt_of_lt_of_le (h.inF i e) hk.size, by rw [keys_upd hf]; exact h.keys, fun y hy => ?_, h.tal.kept hk (fun i hi e => ?_), h.fp, h.fm, ?_, fun y hy => ?_, fun y hy z hz => ?_⟩
  · obtain ⟨z, hz, rfl⟩ := mem_of_upd hy
    have : (if z.key = k then f z else z).key = z.key := by split <;> simp [hf]
    rw [this]; exact h.ok z hz
  · rcases hi with rfl | hi
    · exact hpne e.symm
    · rw [e] at hi; exact c hi
  · rcases h.outer with ⟨_, e2⟩ | ⟨bo, D, e2, fo, hne, ho, hD⟩
    · rw [e2] at hmL; simp at hmL
    · refine .inr ⟨bo, D, e2, fo, hne, ?_, hD.upd k hf⟩
      rw [upd_length]
      exact hk.map ho (fun e3 => b (by rw [e2, e3]))
  · obtain ⟨z, hz, rfl⟩ := mem_of_upd hy
    obtain ⟨a', b', c', d'⟩ := h.mems z hz
    by_cases e2 : z.key = k
    · rw [if_pos e2, hf, e2]
      have hzm : z = m := by
        have := mem_of h.keys hz
        rw [e2, hm] at this
        injection this with this
        exact this.symm
      rw [hzm]
      exact ⟨a, b, c, hs⟩
    · rw [if_neg e2]
      exact ⟨a', b', c', d'.kept hk (fun e3 => e2 (by
        have := h.apart z hz m hmL (by rw [e3, e])
        rw [this, e]))⟩
  · obtain ⟨y', hy', rfl⟩ := mem_of_upd hy
    obtain ⟨z', hz', rfl⟩ := mem_of_upd hz
    have e1 : (if y'.key = k then f y' else y').key = y'.key := by split <;> simp [hf]
    have e2 : (if z'.key = k then f z' else z').key = z'.key := by split <;> simp [hf]
    rw [e1, e2]
    exact h.apart y' hy' z' hz'
/-- How often a memory is wanted is the tally's. -/
theorem Stc.times (h : Stc w F p mm x g l L) (k : T3) {f : Mem → Mem} (hf : ∀ m, (f m).key = m.key) (hh : ∀ m, (f m).has = m.has) : Stc w F p mm x g l (upd L k f) := by
  have hkk : ∀ z : Mem, (if z.key = k then f z else z).key = z.key := fun z => by split <;> simp [hf]
  have hhh : ∀ z : Mem, (if z.key = k then f z else z).has = z.has := fun z => by split <;> simp [hh]
  refine ⟨h.inF, by rw [keys_upd hf]; exact h.keys, fun y hy => ?_, h.tal, h.fp, h.fm, ?_, fun y hy => ?_, fun y hy z hz => ?_⟩
  · obtain ⟨z, hz, rfl⟩ := mem_of_upd hy
    rw [hkk]; exact h.ok z hz
  · rcases h.outer with ⟨e1, rfl⟩ | ⟨bo, D, e2, fo, hne, ho, hD⟩
    · exact .inl ⟨e1, rfl⟩
    · exact .inr ⟨bo, D, e2, fo, hne, by rw [upd_length]; exact ho, hD.upd k hf⟩
  · obtain ⟨z, hz, rfl⟩ := mem_of_upd hy
    rw [hkk, hhh]; exact h.mems z hz
  · obtain ⟨y', hy', rfl⟩ := mem_of_upd hy
    obtain ⟨z', hz', rfl⟩ := mem_of_upd hz
    rw [hkk, hkk]
    exact h.apart y' hy' z' hz'
/-- The tally turned. -/
theorem Stc.tallied (h : Stc w F p mm x g l L) (hg : TGrewt w w' 0 p mm x l') : ∃ mm', Stc w' (Fup F w w') p mm' x g l' L ∧ Kept F w w' := by
  obtain ⟨mm', ht, hfoot, hk⟩ := hg
  have hne : ∀ b, b < w.heap.size → mm ≠ .map (some b) → mm' ≠ .map (some b) := fun b hb hn e => by
    rcases hfoot b (.inr e) with (rfl | e2) | e2
    · rcases ht.mp with ⟨e3, _⟩ | ⟨bm, D, e3, _, ho, _⟩
      · rw [e3] at e; cases e
      · rw [e3] at e; cases e
        obtain ⟨es, clock, he, _⟩ := ho
        rw [ht.here] at he; cases he
    · exact hn e2
    · omega
  refine ⟨mm', ⟨fun k e => ?_, h.keys, h.ok, ht, .inl h.fp, fun k e => ?_, ?_, fun m hm => ?_, h.apart⟩, hk.mono (fun i _ e => h.foot e)⟩
  · exact e.elim (fun e => Nat.lt_of_lt_of_le (h.inF k e) hk.size) (·.2)
  · rcases hfoot k (.inr e) with e2 | e2
    · exact .inl (h.foot e2)
    · exact .inr ⟨e2, (ht.foot (.inr e)).2⟩
  · rcases h.outer with e | ⟨bo, D, e, fo, hn, ho, hD⟩
    · exact .inl e
    · refine .inr ⟨bo, D, e, .inl fo, hne bo (h.inF bo fo) hn, hk.map ho (fun e2 => ?_), hD⟩
      rcases e2 with e2 | e2
      · exact h.o_ne ho e2
      · exact hn e2
  · obtain ⟨a, b, c, d⟩ := h.mems m hm
    refine ⟨.inl a, b, hne _ (h.inF _ a) c, d.kept hk (fun e2 => ?_)⟩
    rcases e2 with e2 | e2
    · exact h.p_ne d e2
    · exact c e2
/-- Its map of memories made. -/
theorem Stc.outerMade (h : Stc w F p mm (.map none) g l L) : Stc ((w.setCell ⟨p, 2, none⟩ (.map (some w.heap.size))).alloc (.map #[] 0)) (Fup F w ((w.setCell ⟨p, 2, none⟩ (.map (some w.heap.size))).alloc (.map #[] 0))) p mm (.map (some w.heap.size)) g l L := by
  have hL : L = [] := by
    rcases h.outer with ⟨_, e⟩ | ⟨bo, D, e, _⟩
    · exact e
    · cases e
  subst hL
  have hp := h.tal.lt
  have hsz : (w.setCell ⟨p, 2, none⟩ (.map (some w.heap.size))).heap.size = w.heap.size := by simp [World.setCell]
  have hsz2 : ((w.setCell ⟨p, 2, none⟩ (.map (some w.heap.size))).alloc (.map #[] 0)).heap.size = w.heap.size + 1 := by simp [World.setCell]
  refine ⟨fun k e => ?_, h.keys, h.ok, ⟨h.tal.len, h.tal.ok, h.tal.base, ?_, ?_⟩, .inl h.fp, fun k e => .inl (h.fm k e), ?_, by simp, by simp⟩
  · rw [hsz2]
    exact e.elim (fun e => Nat.lt_succ_of_lt (h.inF k e)) (fun e => by rw [hsz2] at e; exact e.2)
  · rw [Below.heap_alloc _ _ p (by rw [hsz]; exact hp)]
    simp [World.setCell, Array.getElem?_modify, h.tal.here]
  · rcases h.tal.mp with e | ⟨bm, D, e, hb, ho, hc⟩
    · exact .inl e
    · refine .inr ⟨bm, D, e, hb, (ho.setCell (a := ⟨p, 2, none⟩) (fun e2 => ?_) _).alloc _, hc⟩
      obtain ⟨es, clock, he, _⟩ := ho
      have e2 : bm = p := e2
      rw [e2, h.tal.here] at he; cases he
  · refine .inr ⟨w.heap.size, .map [], rfl, .inr ⟨Nat.le_refl _, by rw [hsz2]; omega⟩, fun e => ?_, ?_, Outer.nil g⟩
    · have := h.inF _ (h.fm _ e)
      omega
    · have := World.ownsMap_made (H := Unit) (w.setCell ⟨p, 2, none⟩ (.map (some w.heap.size))) Try.prog K3.t mapE
      rw [hsz] at this
      exact this
/-- A memory more: its map b, which is not yet the store's; behind the store into the map of memories. -/
theorem Stc.begun {bo b : Nat} (h : Stc w F p mm (.map (some bo)) g l L) {k : T3} (hk : K3.ok k) (hm : mem L k = none) {s : List Int} (hs : SetM w b s) (hb : ¬ F b) (n : Nat) (hl : L.length ≤ 5000) :
    ∃ w', (Instr.mapUpdate 76 (.map (some bo)) (.agg #[.int .i64 k.1, .int .i64 k.2.1, .int .i64 k.2.2]) (.map (some b))).run Try.prog w = .ok () w' ∧ Kept (fun i => i = bo) w w' ∧ F bo ∧
      Stc w' (fun i => F i ∨ i = b) p mm (.map (some bo)) (fun j => if j = k then b else g j) l (L ++ [⟨k, n, s⟩]) := by
  rcases h.outer with ⟨e, _⟩ | ⟨bo', D, e, fo, hne, ho, hD⟩
  · cases e
  cases e
  obtain ⟨w', hrun, ho', hg⟩ := ho.update (val := .map (some b)) law3 Try.underlying76 (by unfold maxLen; omega) (K3.key k hk) (mapE_mk b)
  have hkk : Kept (fun i => i = bo) w w' := (Kept.refl _ _).grown hg (fun i e => .inl (by simpa using e.symm))
  have hbo := h.o_ne ho
  have hbne : b ≠ bo := fun e => hb (e ▸ fo)
  refine ⟨w', hrun, hkk, fo, ⟨fun i e => ?_, keys_snoc h.keys (m := ⟨k, n, s⟩) hm, fun y hy => ?_, h.tal.kept hkk (fun i hi e => ?_), .inl h.fp, fun i e => .inl (h.fm i e), .inr ⟨bo, _, rfl, .inl fo, hne, ?_, hD.snoc h.ok (m := ⟨k, n, s⟩) hk hm b⟩, fun y hy => ?_, fun y hy z hz e => ?_⟩⟩
  · rcases e with e | rfl
    · exact Nat.lt_of_lt_of_le (h.inF i e) hkk.size
    · exact Nat.lt_of_lt_of_le hs.lt hkk.size
  · rcases List.mem_append.1 hy with hy | hy
    · exact h.ok y hy
    · rw [List.mem_singleton.1 hy]; exact hk
  · rcases hi with e2 | e2
    · exact hbo (e.symm.trans e2)
    · rw [e] at e2; exact hne e2
  · have hsz : (L ++ [(⟨k, n, s⟩ : Mem)]).length = L.length + 1 := by simp
    rw [hsz]
    exact ho'
  · rcases List.mem_append.1 hy with hy | hy
    · obtain ⟨a, b', c, d⟩ := h.mems y hy
      show (F (if y.key = k then b else g y.key) ∨ (if y.key = k then b else g y.key) = b) ∧ _
      rw [if_neg (mem_none.1 hm y hy)]
      exact ⟨.inl a, b', c, d.kept hkk (fun e => b' (by rw [e]))⟩
    · rw [List.mem_singleton.1 hy]
      show (F (if k = k then b else g k) ∨ (if k = k then b else g k) = b) ∧ _
      rw [if_pos rfl]
      exact ⟨.inr rfl, fun e => hbne (by simpa using e.symm), fun e => hb (h.fm b e), hs.kept hkk hbne⟩
  · have key : ∀ y ∈ L, g y.key ≠ b := fun y hy e => hb (e ▸ (h.mems y hy).1)
    have key2 : ∀ y ∈ L, y.key ≠ k := mem_none.1 hm
    rcases List.mem_append.1 hy with hy | hy <;> rcases List.mem_append.1 hz with hz | hz
    · simp only [if_neg (key2 y hy), if_neg (key2 z hz)] at e
      exact h.apart y hy z hz e
    · rw [List.mem_singleton.1 hz] at e ⊢
      simp only [if_neg (key2 y hy), if_pos] at e
      exact absurd e (key y hy)
    · rw [List.mem_singleton.1 hy] at e ⊢
      simp only [if_neg (key2 z hz), if_pos] at e
      exact absurd e.symm (key z hz)
    · rw [List.mem_singleton.1 hy, List.mem_singleton.1 hz]
/-- A memory gone. -/
theorem Stc.gone (h : Stc w F p mm x g l L) {k : T3} (hk : K3.ok k) (hm : (mem L k).isSome = true) : ∃ bo w', x = .map (some bo) ∧ (Builtin.delete_ #[76, 31] 0 #[.map (some bo), .agg #[.int .i64 k.1, .int .i64 k.2.1, .int .i64 k.2.2]]).run Try.prog w = .ok (.tuple #[]) w' ∧ Kept (fun i => i = bo) w w' ∧ F bo ∧ Stc w' F p mm x g l (rem L k) := by
  rcases h.outer with ⟨_, e⟩ | ⟨bo, D, e, fo, hne, ho, hD⟩
  · rw [e] at hm; simp [mem] at hm
  obtain ⟨w', hrun, ho', ht⟩ := ho.drop law3 Try.underlying76 (K3.key k hk) 0
  have hkk : Kept (fun i => i = bo) w w' := (Kept.refl _ _).grown ht.grown (fun i e => .inl (by simpa using e.symm))
  have hD' := hD.gone h.keys h.ok hk
  have hsub : ∀ y, y ∈ rem L k → y ∈ L := fun y hy => (List.mem_filter.1 hy).1
  refine ⟨bo, w', e, hrun, hkk, fo, ⟨fun i e => Nat.lt_of_lt_of_le (h.inF i e) hkk.size, keys_rem h.keys k, fun y hy => h.ok y (hsub y hy), h.tal.kept hkk (fun i hi e2 => ?_), h.fp, h.fm, .inr ⟨bo, _, e, fo, hne, ownsMap_tight ho' (Nat.le_of_eq hD'.size), hD'⟩, fun y hy => ?_, fun y hy z hz => h.apart y (hsub y hy) z (hsub z hz)⟩⟩
  · rcases hi with e3 | e3
    · exact h.o_ne ho (e2.symm.trans e3)
    · rw [e2] at e3; exact hne e3
  · obtain ⟨a, b, c, d⟩ := h.mems y (hsub y hy)
    exact ⟨a, b, c, d.kept hkk (fun e2 => b (by rw [e, e2]))⟩
end
/-- A store that has these memories. -/
def Sto (w : World) (F : Nat → Prop) (p : Nat) (l : List T3) (L : List Mem) : Prop := (∀ k, cnt k l = wanted L k) ∧ (∀ m ∈ L, 1 ≤ m.n) ∧ ∃ mm x g, Stc w F p mm x g l L
/-- What a call on a store leaves. -/
def SGrew (w w' : World) (F : Nat → Prop) (p : Nat) (l : List T3) (L : List Mem) : Prop := ∃ F', Sto w' F' p l L ∧ (∀ k, F' k → F k ∨ w.heap.size ≤ k) ∧ Kept F w w'
section
variable {w w' w1 w2 : World} {F : Nat → Prop} {p : Nat} {l : List T3} {L : List Mem}
theorem Sto.kept {G : Nat → Prop} (h : Sto w F p l L) (hk : Kept G w w') (hG : ∀ k, F k → ¬ G k) : Sto w' F p l L := by
  obtain ⟨h1, h2, mm, x, g, h3⟩ := h
  exact ⟨h1, h2, mm, x, g, h3.kept hk hG⟩
theorem Sto.keptN (h : Sto w F p l L) (hk : Kept Nil w w') : Sto w' F p l L := h.kept hk (fun _ _ e => e)
theorem Sto.inF (h : Sto w F p l L) {k : Nat} (hk : F k) : k < w.heap.size := by obtain ⟨_, _, _, _, _, h3⟩ := h; exact h3.inF k hk
theorem Sto.keys (h : Sto w F p l L) : (keysL L).Nodup := by obtain ⟨_, _, _, _, _, h3⟩ := h; exact h3.keys
theorem SGrew.from (h : SGrew w1 w2 F p l L) (k : Kept Nil w w1) (_ : True) : SGrew w w2 F p l L := by
  obtain ⟨F', a, b, c⟩ := h
  exact ⟨F', a, fun i hi => (b i hi).imp id (Nat.le_trans k.size), (k.mono (fun _ _ e => e.elim)).trans c (fun _ _ e => e)⟩
theorem SGrew.keptN (h : SGrew w w1 F p l L) (k : Kept Nil w1 w2) : SGrew w w2 F p l L := by
  obtain ⟨F', a, b, c⟩ := h
  exact ⟨F', a.keptN k, b, c.trans k (fun _ _ e => e.elim)⟩
theorem SGrew.same (h : Sto w F p l L) (k : Kept Nil w w') : SGrew w w' F p l L := ⟨F, h.keptN k, fun _ e => .inl e, k.mono (fun _ _ e => e.elim)⟩
theorem SGrew.trans {L' : List Mem} {l' : List T3} (_h : SGrew w w1 F p l' L') (k : ∀ F', (∀ k, F' k → F k ∨ w.heap.size ≤ k) → Sto w1 F' p l' L' → SGrew w1 w2 F' p l L) : SGrew w w2 F p l L := by
  obtain ⟨F1, a1, b1, c1⟩ := _h
  obtain ⟨F2, a2, b2, c2⟩ := k F1 b1 a1
  exact ⟨F2, a2, fun i hi => (b2 i hi).elim (fun e => b1 i e) (fun e => .inr (Nat.le_trans c1.size e)), c1.trans c2 (fun i hi e => (b1 i e).elim id (fun e => absurd hi (Nat.not_lt.2 e)))⟩
end
end Go.Proofs.Ythiijlngoikhkaa
