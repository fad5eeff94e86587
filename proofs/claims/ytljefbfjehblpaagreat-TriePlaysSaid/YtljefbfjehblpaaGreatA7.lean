/- Layer trie in memory: maps from any keys to any things; numbers and shapes as keys, nodes as values. – Layer trie in memory: numbers and shapes as keys, nodes as values; a trie: its maps, its nodes' rows, whose each block is. – Layer trie: the program's number. – (Out of layer 14.) A region that draws its order and ends in an operation that comes up last, whatever comes ahead: it may be walked without that one, which is carried out behind. No program. -/
import Derived.Test.YtljefbfjehblpaaGreatA4
import Derived.Test.YtljefbfjehblpaaGreatA6
import Derived.DeepKeys4
import Derived.Test.YtljefbfjehblpaaGreatA1
import Derived.OrdersHeld
namespace Go.Proofs.YtljefbfjehblpaaGreat
section
open Go.RowKit Go.Maps Go.WideMaps
set_option maxRecDepth 100000

/-! ### Things of any kind as a map's elements -/
structure VT (ν : Type) where
  val : ν → Value
  dat : ν → DataW Unit
  valInj : ∀ a b, val a = val b → a = b
  datInj : ∀ a b, dat a = dat b → a = b
section
variable {P : Program} {κ ν : Type} {K : KT P κ} {V : VT ν}
open Classical in
noncomputable def VT.rd (V : VT ν) (v : Value) : Option (DataW Unit × List MemPlace) := if h : ∃ x, v = V.val x then some (V.dat h.choose, []) else none
theorem VT.mk_ (V : VT ν) (x : ν) : V.rd (V.val x) = some (V.dat x, []) := by
  have h : ∃ y, V.val x = V.val y := ⟨x, rfl⟩
  unfold VT.rd
  rw [dif_pos h, ← V.valInj _ _ h.choose_spec]
theorem VT.inv (V : VT ν) {v : Value} {x : ν} {ps : List MemPlace} (h : V.rd v = some (V.dat x, ps)) : v = V.val x := by
  unfold VT.rd at h
  split at h
  · rename_i hx
    have h1 := hx.choose_spec
    simp only [Option.some.injEq, Prod.mk.injEq] at h
    rw [h1, V.datInj _ _ h.1]
  · cases h
/-- A map's datum that has just these. -/
structure MapD (K : KT P κ) (V : VT ν) (D : DataW Unit) (f : κ → Option ν) : Prop where
  tidy : Tidy D
  ok : ∀ k, f k ≠ none → K.ok k
  keys : ∃ ks : List κ, ks.Nodup ∧ (∀ k, k ∈ ks ↔ f k ≠ none) ∧ Maps.size D = ks.length
  has : ∀ k, K.ok k → Maps.has D (K.lit k) = (f k).isSome
  get : ∀ k x, f k = some x → ∀ zd, D.atKey (K.lit k) zd = V.dat x
theorem MapD.nil : MapD K V (.map []) (fun _ => none) := ⟨tidy_empty, fun k h => absurd rfl h, ⟨[], List.nodup_nil, fun k => by simp, rfl⟩, fun k _ => by simp [Maps.has], fun k x h => by cases h⟩
theorem MapD.miss {D : DataW Unit} {f : κ → Option ν} (h : MapD K V D f) {k : κ} (hk : K.ok k) (hf : f k = none) (zd : DataW Unit) : D.atKey (K.lit k) zd = zd := atKey_of_not_has (by rw [h.has k hk, hf]; rfl) zd
section
variable [DecidableEq κ]
/-- One of them put in, or turned. -/
def setF (f : κ → Option ν) (k : κ) (x : Option ν) (j : κ) : Option ν := if j = k then x else f j
theorem setF_same (f : κ → Option ν) (k : κ) (x : Option ν) : setF f k x k = x := if_pos rfl
theorem setF_other (f : κ → Option ν) {k j : κ} (x : Option ν) (h : j ≠ k) : setF f k x j = f j := if_neg h
theorem MapD.put {D : DataW Unit} {f : κ → Option ν} (h : MapD K V D f) {k : κ} (hk : K.ok k) (x : ν) : MapD K V (D.put (K.lit k) (V.dat x)) (setF f k (some x)) := by
  refine ⟨h.tidy.put (K.isKey hk) _, fun j hj => ?_, ?_, fun j hj => ?_, fun j y hj zd => ?_⟩
  · by_cases e : j = k
    · subst e; exact hk
    · rw [setF_other _ _ e] at hj; exact h.ok j hj
  · obtain ⟨ks, h1, h2, h3⟩ := h.keys
    rw [size_put h.tidy, h.has k hk]
    by_cases hm : f k = none
    · refine ⟨ks ++ [k], ?_, fun j => ?_, by simp [hm, h3]⟩
      · rw [List.nodup_append]
        refine ⟨h1, by simp, fun a ha b hb e => ?_⟩
        rw [List.mem_singleton.1 hb] at e
        exact (h2 k).1 (e ▸ ha) hm
      · rw [List.mem_append, List.mem_singleton, h2]
        by_cases e : j = k
        · subst e; simp [setF_same]
        · rw [setF_other _ _ e]; simp [e]
    · refine ⟨ks, h1, fun j => ?_, ?_⟩
      · rw [h2]
        by_cases e : j = k
        · subst e; simp [setF_same, hm]
        · rw [setF_other _ _ e]
      · have : (f k).isSome = true := by cases e : f k; exact absurd e hm; rfl
        simp [this, h3]
  · by_cases e : j = k
    · subst e; rw [has_put_same h.tidy.isMap (K.isKey hj), setF_same]; rfl
    · rw [has_put_other (K.ne hj hk e), setF_other _ _ e, h.has j hj]
  · by_cases e : j = k
    · subst e
      rw [setF_same] at hj
      cases hj
      rw [atKey_put_same h.tidy.isMap (K.isKey hk)]
    · rw [setF_other _ _ e] at hj
      rw [atKey_put_other (K.ne (h.ok j (by rw [hj]; simp)) hk e), h.get j y hj]
theorem MapD.del {D : DataW Unit} {f : κ → Option ν} (h : MapD K V D f) {k : κ} (hk : K.ok k) : MapD K V (D.del (K.lit k)) (setF f k none) := by
  refine ⟨h.tidy.del _, fun j hj => ?_, ?_, fun j hj => ?_, fun j y hj zd => ?_⟩
  · by_cases e : j = k
    · subst e; exact hk
    · rw [setF_other _ _ e] at hj; exact h.ok j hj
  · obtain ⟨ks, h1, h2, h3⟩ := h.keys
    have hs := size_del h.tidy (k := K.lit k)
    rw [h.has k hk, h3] at hs
    by_cases hm : f k = none
    · refine ⟨ks, h1, fun j => ?_, by simpa [hm] using hs⟩
      rw [h2]
      by_cases e : j = k
      · subst e; simp [setF_same, hm]
      · rw [setF_other _ _ e]
    · have hi : (f k).isSome = true := by cases e : f k; exact absurd e hm; rfl
      have hk2 := (h2 k).2 hm
      refine ⟨drp k ks, ?_, fun j => ?_, ?_⟩
      · have : ∀ l : List κ, l.Nodup → (drp k l).Nodup := fun l hl => by
          induction l with
          | nil => exact hl
          | cons a r ih =>
            obtain ⟨x1, x2⟩ := List.nodup_cons.1 hl
            rw [drp]
            split
            · exact x2
            · exact List.nodup_cons.2 ⟨fun hm => x1 (drp_sub hm), ih x2⟩
        exact this ks h1
      · by_cases e : j = k
        · subst e
          rw [setF_same]
          simp
          intro hm2
          have hc : cnt j ks ≤ 1 := by
            have : ∀ l : List κ, l.Nodup → cnt j l ≤ 1 := fun l hl => by
              induction l with
              | nil => simp [cnt]
              | cons a r ih =>
                obtain ⟨x1, x2⟩ := List.nodup_cons.1 hl
                rw [cnt]
                split
                · rename_i e; subst e; rw [cnt_zero.2 x1]; omega
                · exact ih x2
            exact this ks h1
          rw [← cntK_pos, cnt_drp_same] at hm2
          omega
        · rw [setF_other _ _ e, ← h2, ← cntK_pos, cnt_drp_other e, cntK_pos]
      · have := drp_length hk2
        rw [hi] at hs
        simp at hs
        omega
  · by_cases e : j = k
    · subst e; rw [has_del_same, setF_same]; rfl
    · rw [has_del_other (K.ne hj hk e), setF_other _ _ e, h.has j hj]
  · by_cases e : j = k
    · subst e; rw [setF_same] at hj; cases hj
    · rw [setF_other _ _ e] at hj
      rw [atKey_del_other (K.ne (h.ok j (by rw [hj]; simp)) hk e), h.get j y hj]
theorem MapD.size_le {D : DataW Unit} {f : κ → Option ν} (h : MapD K V D f) {l : List κ} (hl : ∀ k, f k ≠ none → k ∈ l) : Maps.size D ≤ l.length := by
  obtain ⟨ks, h1, h2, h3⟩ := h.keys
  rw [h3]
  exact nodup_le h1 (fun k hk => hl k ((h2 k).1 hk))
end

/-! ### A map of a call's own -/
structure MapM (K : KT P κ) (V : VT ν) (w : World) (b n : Nat) (f : κ → Option ν) : Prop where
  mp : ∃ D, w.ownsMap (H := Unit) P K.t V.rd b n D ∧ MapD K V D f
variable {w w' : World} {b n : Nat} {f : κ → Option ν}
theorem MapM.lt (h : MapM K V w b n f) : b < w.heap.size := by obtain ⟨D, ho, _⟩ := h.mp; exact ho.lt
theorem MapM.kept (h : MapM K V w b n f) {F : Nat → Prop} (hk : Kept F w w') (hF : ¬ F b) : MapM K V w' b n f := by
  obtain ⟨D, ho, hD⟩ := h.mp
  exact ⟨D, hk.map ho hF, hD⟩
theorem MapM.more (h : MapM K V w b n f) {m : Nat} (hm : n ≤ m) : MapM K V w b m f := by
  obtain ⟨D, ho, hD⟩ := h.mp
  exact ⟨D, ho.mono hm, hD⟩
theorem MapM.new (w : World) : MapM K V (w.alloc (.map #[] 0)) w.heap.size 0 (fun _ => none) := ⟨.map [], World.ownsMap_made (H := Unit) w P K.t V.rd, MapD.nil⟩
/-- The look-ups: the thing; a zero one where there is none. -/
theorem MapM.look (h : MapM K V w b n f) {tM tE : TypeId} (hM : P.underlying tM = some (.map K.t tE)) {z : ν} (hz : (zeroValue tE).run P w = .ok (V.val z) w) {k : κ} (hk : K.ok k) :
    (Instr.lookup tM (.map (some b)) (K.enc k) false).run P w = .ok (V.val ((f k).getD z)) w := by
  obtain ⟨D, ho, hD⟩ := h.mp
  obtain ⟨v, ps, hrun, hv⟩ := ho.lookup K.keyed hM hz (V.mk_ z) (K.key k hk)
  cases e : f k with
  | none =>
    rw [hD.miss hk e] at hv
    rw [hrun, V.inv hv]; rfl
  | some x =>
    rw [hD.get k x e] at hv
    rw [hrun, V.inv hv]; rfl
theorem MapM.look2 (h : MapM K V w b n f) {tM tE : TypeId} (hM : P.underlying tM = some (.map K.t tE)) {z : ν} (hz : (zeroValue tE).run P w = .ok (V.val z) w) {k : κ} (hk : K.ok k) :
    (Instr.lookup tM (.map (some b)) (K.enc k) true).run P w = .ok (.tuple #[V.val ((f k).getD z), .bool (f k).isSome]) w := by
  obtain ⟨D, ho, hD⟩ := h.mp
  obtain ⟨v, ps, hrun, hv⟩ := ho.look_ok K.keyed hM hz (V.mk_ z) (K.key k hk)
  rw [hD.has k hk] at hrun
  cases e : f k with
  | none =>
    rw [hD.miss hk e] at hv
    rw [e] at hrun
    rw [hrun, V.inv hv]; rfl
  | some x =>
    rw [hD.get k x e] at hv
    rw [e] at hrun
    rw [hrun, V.inv hv]; rfl
theorem MapM.put [DecidableEq κ] (h : MapM K V w b n f) {tM tE : TypeId} (hM : P.underlying tM = some (.map K.t tE)) (hn : n ≤ 5000) {k : κ} (hk : K.ok k) (x : ν) :
    ∃ w', (Instr.mapUpdate tM (.map (some b)) (K.enc k) (V.val x)).run P w = .ok () w' ∧ MapM K V w' b (n + 1) (setF f k (some x)) ∧ Kept (fun i => i = b) w w' := by
  obtain ⟨D, ho, hD⟩ := h.mp
  obtain ⟨w', hrun, ho', hg⟩ := ho.update (val := V.val x) K.keyed hM (by unfold maxLen; omega) (K.key k hk) (V.mk_ x)
  exact ⟨w', hrun, ⟨_, ho', hD.put hk x⟩, (Kept.refl _ _).grown hg (fun i e => .inl (by simpa using e.symm))⟩
theorem MapM.del [DecidableEq κ] (h : MapM K V w b n f) {tM tE : TypeId} (hM : P.underlying tM = some (.map K.t tE)) {k : κ} (hk : K.ok k) :
    ∃ w', (Builtin.delete_ #[tM, K.t] 0 #[.map (some b), K.enc k]).run P w = .ok (.tuple #[]) w' ∧ MapM K V w' b n (setF f k none) ∧ Kept (fun i => i = b) w w' := by
  obtain ⟨D, ho, hD⟩ := h.mp
  obtain ⟨w', hrun, ho', ht⟩ := ho.drop K.keyed hM (K.key k hk) 0
  exact ⟨w', hrun, ⟨_, ho', hD.del hk⟩, (Kept.refl _ _).grown ht.grown (fun i e => .inl (by simpa using e.symm))⟩
theorem MapM.len (h : MapM K V w b n f) {tM tE : TypeId} (hM : P.underlying tM = some (.map K.t tE)) (ty : TypeId) {ks : List κ} (hn : ks.Nodup) (hks : ∀ k, k ∈ ks ↔ f k ≠ none) [DecidableEq κ] : (Builtin.len_ #[tM] ty #[.map (some b)]).run P w = .ok (.int .i64 ks.length) w := by
  obtain ⟨D, ho, hD⟩ := h.mp
  have e := ho.len hM ty
  obtain ⟨js, h1, h2, h3⟩ := hD.keys
  have e1 : js.length = ks.length := Nat.le_antisymm (nodup_le h1 (fun k hk => (hks k).2 ((h2 k).1 hk))) (nodup_le hn (fun k hk => (h2 k).2 ((hks k).1 hk)))
  rw [h3, e1] at e
  exact e
/-- One that is put in where there is one: no more of them. -/
theorem MapM.tight [DecidableEq κ] (h : MapM K V w b n f) {l : List κ} (hl : ∀ k, f k ≠ none → k ∈ l) : MapM K V w b l.length f := by
  obtain ⟨D, ho, hD⟩ := h.mp
  exact ⟨D, ownsMap_tight ho (hD.size_le hl), hD⟩
end
end
section
open Go.RowKit Go.Maps Go.WideMaps
set_option maxRecDepth 100000

/-! ### Keys -/
def KNt : KT Tryz.prog Nat := ⟨3, fun n => .int .i64 n, fun n => .int .i64 n, fun n => n ≤ 4611686018427387904, int_keyed Tryz.underlying3, fun _ h => keyOf_int_mk Tryz.underlying3 (WalkArith.wf_i64 (by omega)), fun _ _ h => by injection h; omega⟩
def aSp (s : Sp) : Array Value := #[.int .i64 s.p, .int .i64 s.k, .int .i64 s.a, .int .i64 s.b, .int .i64 s.c, .int .i64 s.x0, .int .i64 s.x1, .int .i64 s.x2, .int .i64 s.x3, .int .i64 s.x4, .int .i64 s.x5, .int .i64 s.x6, .int .i64 s.x7, .int .i64 s.x8, .int .i64 s.n, .int .i64 s.q]
def wf1 (n : Int) : Prop := (Lit.int .i64 n).wf = true
structure SpOK (s : Sp) : Prop where
  p : wf1 s.p
  k : wf1 s.k
  a : wf1 s.a
  b : wf1 s.b
  c : wf1 s.c
  x0 : wf1 s.x0
  x1 : wf1 s.x1
  x2 : wf1 s.x2
  x3 : wf1 s.x3
  x4 : wf1 s.x4
  x5 : wf1 s.x5
  x6 : wf1 s.x6
  x7 : wf1 s.x7
  x8 : wf1 s.x8
  n : wf1 s.n
  q : wf1 s.q
theorem rowSp : (62 : TypeId) < Tryz.prog.types.size := of_decide_eq_true (by kernel_rfl)
theorem wideSp : (match Tryz.prog.underlying 62 with | some (.array _ _) | some (.struct _) => true | _ => false) = true := by rw [Tryz.underlying62]
theorem lawSp : Keyed Tryz.prog 62 := Keyed.of_law (deep_law_laid laidOut (m := 5) (by omega) rowSp (by kernel_rfl) wideSp)
theorem cellsSp16 : Tryz.prog.cellsOf 62 = 16 := by kernel_rfl
theorem cellsSp9 : Tryz.prog.cellsOf 60 = 9 := by kernel_rfl
theorem cellsTr3 : Tryz.prog.cellsOf 57 = 3 := by kernel_rfl
theorem cellsTe3 : Tryz.prog.cellsOf 59 = 3 := by kernel_rfl
theorem cellsI1 : Tryz.prog.cellsOf 3 = 1 := by kernel_rfl
theorem klI (m : Nat) (n : Int) (h : (Lit.int .i64 n).wf = true) : Tryz.prog.keyLits (m + 1) 3 [.int .i64 n] = some [.int .i64 n] := by
  simp only [Program.keyLits, Tryz.underlying3]
  simp [h]
theorem klTe (m : Nat) (a b c : Int) (ha : (Lit.int .i64 a).wf = true) (hb : (Lit.int .i64 b).wf = true) (hc : (Lit.int .i64 c).wf = true) : Tryz.prog.keyLits (m + 2) 59 [.int .i64 a, .int .i64 b, .int .i64 c] = some [.int .i64 a, .int .i64 b, .int .i64 c] := by
  unfold Program.keyLits
  simp only [Tryz.underlying59]
  rw [if_pos ⟨by rw [cellsTe3]; rfl, by kernel_rfl⟩]
  simp [cellsI1, klI m a ha, klI m b hb, klI m c hc]
theorem klTr (m : Nat) (a b c : Int) (ha : (Lit.int .i64 a).wf = true) (hb : (Lit.int .i64 b).wf = true) (hc : (Lit.int .i64 c).wf = true) : Tryz.prog.keyLits (m + 2) 57 [.int .i64 a, .int .i64 b, .int .i64 c] = some [.int .i64 a, .int .i64 b, .int .i64 c] := by
  unfold Program.keyLits
  simp only [Tryz.underlying57]
  rw [if_pos (by rw [cellsTr3]; rfl)]
  simp [cellsI1, klI m a ha, klI m b hb, klI m c hc, List.range, List.range.loop]
theorem klA (m : Nat) (x0 x1 x2 x3 x4 x5 x6 x7 x8 : Int) (h0 : (Lit.int .i64 x0).wf = true) (h1 : (Lit.int .i64 x1).wf = true) (h2 : (Lit.int .i64 x2).wf = true) (h3 : (Lit.int .i64 x3).wf = true) (h4 : (Lit.int .i64 x4).wf = true) (h5 : (Lit.int .i64 x5).wf = true) (h6 : (Lit.int .i64 x6).wf = true) (h7 : (Lit.int .i64 x7).wf = true) (h8 : (Lit.int .i64 x8).wf = true) :
    Tryz.prog.keyLits (m + 3) 60 [.int .i64 x0, .int .i64 x1, .int .i64 x2, .int .i64 x3, .int .i64 x4, .int .i64 x5, .int .i64 x6, .int .i64 x7, .int .i64 x8] = some [.int .i64 x0, .int .i64 x1, .int .i64 x2, .int .i64 x3, .int .i64 x4, .int .i64 x5, .int .i64 x6, .int .i64 x7, .int .i64 x8] := by
  unfold Program.keyLits
  simp only [Tryz.underlying60]
  rw [if_pos (by rw [cellsSp9]; rfl)]
  simp [cellsTe3, klTe m x0 x1 x2 h0 h1 h2, klTe m x3 x4 x5 h3 h4 h5, klTe m x6 x7 x8 h6 h7 h8, List.range, List.range.loop]
theorem keySp (s : Sp) (h : SpOK s) : ∃ l, keyOf Tryz.prog 62 (.agg (aSp s)) = some l := by
  obtain ⟨p, k, a, b, c, x0, x1, x2, x3, x4, x5, x6, x7, x8, n, q⟩ := s
  obtain ⟨h0, h1, h2, h3, h4, h5, h6, h7, h8, h9, h10, h11, h12, h13, h14, h15⟩ := h
  unfold wf1 at *
  have hkt : Tryz.prog.keyType 62 = true := by kernel_rfl
  have hf : (Value.agg (aSp ⟨p, k, a, b, c, x0, x1, x2, x3, x4, x5, x6, x7, x8, n, q⟩)).formed Tryz.prog 62 = true := by simp [Value.formed, aSp, Tryz.underlying62, cellsSp16]
  obtain ⟨m, hm⟩ : ∃ m, Tryz.prog.types.size + 1 = m + 4 := ⟨Tryz.prog.types.size - 3, by have h0 : 10 < Tryz.prog.types.size := of_decide_eq_true (by kernel_rfl); omega⟩
  simp only [keyOf, Tryz.underlying62, hkt, hf, Bool.and_self, if_true, hm]
  have key : Tryz.prog.keyLits (m + 4) 62 (Value.agg (aSp ⟨p, k, a, b, c, x0, x1, x2, x3, x4, x5, x6, x7, x8, n, q⟩)).cells.toList = some [.int .i64 p, .int .i64 k, .int .i64 a, .int .i64 b, .int .i64 c, .int .i64 x0, .int .i64 x1, .int .i64 x2, .int .i64 x3, .int .i64 x4, .int .i64 x5, .int .i64 x6, .int .i64 x7, .int .i64 x8, .int .i64 n, .int .i64 q] := by
    show Tryz.prog.keyLits (m + 4) 62 [.int .i64 p, .int .i64 k, .int .i64 a, .int .i64 b, .int .i64 c, .int .i64 x0, .int .i64 x1, .int .i64 x2, .int .i64 x3, .int .i64 x4, .int .i64 x5, .int .i64 x6, .int .i64 x7, .int .i64 x8, .int .i64 n, .int .i64 q] = _
    unfold Program.keyLits
    simp only [Tryz.underlying62]
    rw [if_pos ⟨by rw [cellsSp16]; rfl, by kernel_rfl⟩]
    simp [cellsI1, cellsTr3, cellsSp9, klI (m + 2) p h0, klI (m + 2) k h1, klTr (m + 1) a b c h2 h3 h4, klA m x0 x1 x2 x3 x4 x5 x6 x7 x8 h5 h6 h7 h8 h9 h10 h11 h12 h13, klI (m + 2) n h14, klI (m + 2) q h15]
  rw [key]
  exact ⟨_, rfl⟩
noncomputable def KSp : KT Tryz.prog Sp := ⟨62, fun s => .agg (aSp s), fun s => (keyOf Tryz.prog 62 (.agg (aSp s))).getD .nil, SpOK, lawSp, fun k h => by
  obtain ⟨l, e⟩ := keySp k h
  rw [e]; rfl, fun a b h => by
  injection h with h
  cases a
  cases b
  simpa [aSp] using h⟩
theorem spOK_z : SpOK zSp := by constructor <;> (unfold wf1 zSp; exact WalkArith.wf_i64 (by decide))
theorem spOK_of {p q : Nat} {h : SH} (hh : HdOK h) (hp : p ≤ 4611686018427387904) (hq : q ≤ 4611686018427387904) : SpOK (shp p h q) := by
  have ht : ∀ i, -1 ≤ tc h.ts i ∧ tc h.ts i ≤ 15 := fun i => by
    unfold tc
    split
    · omega
    · rename_i t e
      have := hh.ts t (List.mem_of_getElem? e)
      split
      · omega
      · split <;> omega
  have := hh.k
  have := hh.k0
  have := hh.k1
  have := hh.k2
  have := hh.tl
  constructor <;> unfold wf1 shp <;> apply WalkArith.wf_i64 <;> first | (have := ht 0; have := ht 1; have := ht 2; have := ht 3; have := ht 4; have := ht 5; have := ht 6; have := ht 7; have := ht 8; simp only; omega)

/-! ### Values -/
def sl (b : Option Nat) (n c : Nat) : Value := .slice (b.map fun x => ⟨x, 0, none⟩) n c
theorem sl_own (b : Option Nat) (n c : Nat) : (sl b n c).ownBlock = b := by cases b <;> rfl
/-- A node as it lies in the map. -/
structure Nv where
  sp : Sp
  kb : Option Nat
  kn : Nat
  kc : Nat
  ob : Option Nat
  on : Nat
  oc : Nat
  li : Int
  us : Int
def aN (v : Nv) : Array Value := #[.int .i64 v.sp.p, .int .i64 v.sp.k, .int .i64 v.sp.a, .int .i64 v.sp.b, .int .i64 v.sp.c, .int .i64 v.sp.x0, .int .i64 v.sp.x1, .int .i64 v.sp.x2, .int .i64 v.sp.x3, .int .i64 v.sp.x4, .int .i64 v.sp.x5, .int .i64 v.sp.x6, .int .i64 v.sp.x7, .int .i64 v.sp.x8, .int .i64 v.sp.n, .int .i64 v.sp.q, sl v.kb v.kn v.kc, sl v.ob v.on v.oc, .int .i64 v.li, .int .i64 v.us]
def oI : Option Nat → Int
  | none => -1
  | some b => b
theorem oI_inj {a b : Option Nat} (h : oI a = oI b) : a = b := by
  cases a <;> cases b <;> simp [oI] at h <;> first | rfl | (congr 1; omega) | omega
theorem sl_inj {b b' : Option Nat} {n n' c c' : Nat} (h : sl b n c = sl b' n' c') : b = b' ∧ n = n' ∧ c = c' := by
  unfold sl at h
  injection h with h1 h2 h3
  refine ⟨?_, h2, h3⟩
  cases b <;> cases b' <;> simp at h1 <;> simp [h1]
abbrev lI (n : Int) : DataW Unit := .lit (.int .i64 n)
def dSp (s : Sp) : List (DataW Unit) := [lI s.p, lI s.k, lI s.a, lI s.b, lI s.c, lI s.x0, lI s.x1, lI s.x2, lI s.x3, lI s.x4, lI s.x5, lI s.x6, lI s.x7, lI s.x8, lI s.n, lI s.q]
theorem aSp_inj {a b : Sp} (h : aSp a = aSp b) : a = b := KSp.encInj a b (congrArg Value.agg h)
theorem dSp_inj {a b : Sp} (h : dSp a = dSp b) : a = b := by
  cases a
  cases b
  simpa [dSp] using h
def VI : VT Nat := ⟨fun n => .int .i64 n, fun n => lI n, fun a b h => by injection h; omega, fun a b h => by simp [lI] at h; omega⟩
def VN : VT Nv := ⟨fun v => .agg (aN v), fun v => .agg (dSp v.sp ++ [lI (oI v.kb), lI v.kn, lI v.kc, lI (oI v.ob), lI v.on, lI v.oc, lI v.li, lI v.us]), fun a b h => by
  injection h with h
  unfold aN at h
  simp only [Array.mk.injEq, List.cons.injEq, and_true] at h
  obtain ⟨h0, h1, h2, h3, h4, h5, h6, h7, h8, h9, h10, h11, h12, h13, h14, h15, h16, h17, h18, h19⟩ := h
  have e1 : a.sp = b.sp := aSp_inj (by unfold aSp; rw [h0, h1, h2, h3, h4, h5, h6, h7, h8, h9, h10, h11, h12, h13, h14, h15])
  obtain ⟨g1, g2, g3⟩ := sl_inj h16
  obtain ⟨g4, g5, g6⟩ := sl_inj h17
  obtain ⟨sp, kb, kn, kc, ob, on, oc, li, us⟩ := a
  obtain ⟨sp', kb', kn', kc', ob', on', oc', li', us'⟩ := b
  subst e1 g1 g2 g3 g4 g5 g6
  injection h18 with _ h18
  injection h19 with _ h19
  subst h18 h19
  rfl, fun a b h => by
  injection h with h
  have h2 := List.append_inj h (by simp [dSp])
  have e1 := dSp_inj h2.1
  have h3 := h2.2
  simp [lI] at h3
  obtain ⟨g1, g2, g3, g4, g5, g6, g7, g8⟩ := h3
  have g1' := oI_inj g1
  have g4' := oI_inj g4
  obtain ⟨sp, kb, kn, kc, ob, on, oc, li, us⟩ := a
  obtain ⟨sp', kb', kn', kc', ob', on', oc', li', us'⟩ := b
  simp only at *
  subst e1 g1' g4' g7 g8
  congr 1 <;> omega⟩
def zNv : Nv := ⟨zSp, none, 0, 0, none, 0, 0, 0, 0⟩
theorem zeroNv (w : World) : (zeroValue 89).run Tryz.prog w = .ok (VN.val zNv) w := by kernel_rfl
theorem zeroVI (w : World) : (zeroValue 3).run Tryz.prog w = .ok (VI.val 0) w := by kernel_rfl

/-! ### A trie -/
/-- A number's cells. -/
def cNt (x : Nat) : List Value := [.int .i64 x]
theorem cNt_len (x : Nat) : (cNt x).length = 1 := rfl
theorem cNt_one (x : Nat) : ∀ v ∈ cNt x, v.oneCell' = true := fun v hv => by
  simp only [cNt, List.mem_cons, List.not_mem_nil, or_false] at hv
  subst hv; rfl
abbrev RowN (w : World) (v : Value) (l : List Nat) : Prop := Row cNt 3 1 w 0 v l
/-- What lies in the map for a node, and what is kept of it. -/
structure NodeR (w : World) (c : Nat → Nat) (k : Nat) (d : Nd) (v : Nv) : Prop where
  sp : v.sp = d.sp
  li : v.li = d.li
  us : v.us = d.us
  kr : RowN w (sl v.kb v.kn v.kc) d.kids
  or : RowN w (sl v.ob v.on v.oc) d.outer
  kc : ∀ b, v.kb = some b → c b = 2 * k + 4
  oc : ∀ b, v.ob = some b → c b = 2 * k + 5
def NodesR (w : World) (c : Nat → Nat) (nd : Nat → Option Nd) (nv : Nat → Option Nv) : Prop := ∀ k, (nd k = none ∧ nv k = none) ∨ ∃ d v, nd k = some d ∧ nv k = some v ∧ NodeR w c k d v
/-- Block p is a trie: bn, bs its maps; m the last number; c: whose each block is (0: not the trie's). -/
structure Trx (w : World) (c : Nat → Nat) (p : Nat) (nd : Nat → Option Nd) (nm : Sp → Option Nat) (m bn bs : Nat) (nv : Nat → Option Nv) : Prop where
  low : ∀ b, c b ≠ 0 → b < w.heap.size
  cp : c p = 1
  cn : c bn = 2
  cs : c bs = 3
  blk : Blk w p 54 #[.map (some bn), .map (some bs), .int .i64 m]
  mn : MapM KNt VN w bn (m + 1) nv
  ms : MapM KSp VI w bs m nm
  rows : NodesR w c nd nv
  le : ∀ k, nd k ≠ none → 1 ≤ k ∧ k ≤ m
def Tr (w : World) (c : Nat → Nat) (p : Nat) (nd : Nat → Option Nd) (nm : Sp → Option Nat) (m : Nat) : Prop := ∃ bn bs nv, Trx w c p nd nm m bn bs nv
section
variable {w w' : World} {c c' : Nat → Nat} {p m bn bs : Nat} {nd : Nat → Option Nd} {nm : Sp → Option Nat} {nv : Nat → Option Nv} {F : Nat → Prop}
theorem NodeR.kept {k : Nat} {d : Nd} {v : Nv} (h : NodeR w c k d v) (hk : Kept F w w') (hF : ∀ b, F b → c b ≠ 2 * k + 4 ∧ c b ≠ 2 * k + 5) (hc : ∀ b, c b ≠ 0 → c' b = c b) : NodeR w' c' k d v := by
  refine ⟨h.sp, h.li, h.us, h.kr.keptF hk (fun b e f => ?_), h.or.keptF hk (fun b e f => ?_), fun b e => ?_, fun b e => ?_⟩
  · rw [sl_own] at e; exact (hF b f).1 (h.kc b e)
  · rw [sl_own] at e; exact (hF b f).2 (h.oc b e)
  · have := h.kc b e; rw [hc b (by omega)]; exact this
  · have := h.oc b e; rw [hc b (by omega)]; exact this
theorem Trx.kept (h : Trx w c p nd nm m bn bs nv) (hk : Kept F w w') (hF : ∀ b, F b → c b = 0) : Trx w' c p nd nm m bn bs nv := by
  refine ⟨fun b e => Nat.lt_of_lt_of_le (h.low b e) hk.size, h.cp, h.cn, h.cs, h.blk.kept hk (fun e => by have := hF _ e; rw [h.cp] at this; cases this), h.mn.kept hk (fun e => by have := hF _ e; rw [h.cn] at this; cases this), h.ms.kept hk (fun e => by have := hF _ e; rw [h.cs] at this; cases this), fun k => ?_, h.le⟩
  rcases h.rows k with e | ⟨d, v, e1, e2, e3⟩
  · exact .inl e
  · exact .inr ⟨d, v, e1, e2, e3.kept hk (fun b e => by have := hF b e; omega) (fun _ _ => rfl)⟩
theorem Tr.kept (h : Tr w c p nd nm m) (hk : Kept F w w') (hF : ∀ b, F b → c b = 0) : Tr w' c p nd nm m := by
  obtain ⟨bn, bs, nv, h⟩ := h
  exact ⟨bn, bs, nv, h.kept hk hF⟩
theorem Tr.keptN (h : Tr w c p nd nm m) (hk : Kept Nil w w') : Tr w' c p nd nm m := h.kept hk (fun _ e => e.elim)
theorem Tr.low (h : Tr w c p nd nm m) : ∀ b, c b ≠ 0 → b < w.heap.size := by obtain ⟨bn, bs, nv, h⟩ := h; exact h.low
theorem Tr.le (h : Tr w c p nd nm m) : ∀ k, nd k ≠ none → 1 ≤ k ∧ k ≤ m := by obtain ⟨bn, bs, nv, h⟩ := h; exact h.le
theorem Tr.lt (h : Tr w c p nd nm m) : p < w.heap.size := by obtain ⟨bn, bs, nv, h⟩ := h; exact h.blk.lt
theorem Tr.cp (h : Tr w c p nd nm m) : c p = 1 := by obtain ⟨bn, bs, nv, h⟩ := h; exact h.cp
/-- A block of cells; what a call may turn of a trie. -/
def isC (w : World) (b : Nat) : Prop := ∃ cs t, w.heap[b]? = some (.cells cs t (0, 0))
def FT (c : Nat → Nat) (w : World) (b : Nat) : Prop := c b ≠ 0 ∧ (c b ≤ 3 ∨ isC w b)
theorem isC_back {G : Nat → Prop} (k : Kept G w w') {b : Nat} (hb : b < w.heap.size) (hG : ¬ G b) (h : isC w' b) : isC w b := by
  obtain ⟨cs, t, e⟩ := h
  rw [k.block b hb hG] at e
  exact ⟨cs, t, e⟩
theorem ft_back {c1 : Nat → Nat} {w1 : World} (k : Kept (FT c w) w w1) {i : Nat} (ho : c1 i = c i) (hi : i < w.heap.size) (e : FT c1 w1 i) : FT c w i := by
  rcases Classical.em (FT c w i) with h | h
  · exact h
  · exact ⟨by rw [← ho]; exact e.1, e.2.imp (fun g => by rw [← ho]; exact g) (isC_back k hi h)⟩
/-- What a call makes of a trie. -/
structure TG (w w' : World) (c : Nat → Nat) (p : Nat) (nd : Nat → Option Nd) (nm : Sp → Option Nat) (m : Nat) (c' : Nat → Nat) : Prop where
  tr : Tr w' c' p nd nm m
  kept : Kept (FT c w) w w'
  old : ∀ b, b < w.heap.size → c' b = c b
  new : ∀ b, w.heap.size ≤ b → c' b = 0 ∨ 4 ≤ c' b
theorem TG.sub {c1 : Nat → Nat} {w1 : World} {nd1 : Nat → Option Nd} {nm1 : Sp → Option Nat} {m1 : Nat} (h : TG w w1 c p nd1 nm1 m1 c1) : ∀ b, c1 b ≠ 0 → c b ≠ 0 ∨ w.heap.size ≤ b := fun b e => by
  by_cases hb : b < w.heap.size
  · left; rw [← h.old b hb]; exact e
  · exact .inr (by omega)
theorem TG.refl (h : Tr w c p nd nm m) : TG w w c p nd nm m c := ⟨h, Kept.refl _ _, fun _ _ => rfl, fun b hb => .inl (by
  by_cases e : c b = 0
  · exact e
  · have := h.low b e; omega)⟩
theorem TG.trans {w1 w2 : World} {c1 c2 : Nat → Nat} {nd1 nd2 : Nat → Option Nd} {nm1 nm2 : Sp → Option Nat} {m1 m2 : Nat} (h : TG w w1 c p nd1 nm1 m1 c1) (k : TG w1 w2 c1 p nd2 nm2 m2 c2) : TG w w2 c p nd2 nm2 m2 c2 :=
  ⟨k.tr, h.kept.trans k.kept (fun i hi e => ft_back h.kept (h.old i hi) hi e), fun b hb => (k.old b (Nat.lt_of_lt_of_le hb h.kept.size)).trans (h.old b hb), fun b hb => by
    by_cases h1 : b < w1.heap.size
    · rw [k.old b h1]; exact h.new b hb
    · exact k.new b (by omega)⟩
theorem TG.thenN {w1 w2 : World} {c1 : Nat → Nat} {nd1 : Nat → Option Nd} {nm1 : Sp → Option Nat} {m1 : Nat} (h : TG w w1 c p nd1 nm1 m1 c1) (k : Kept Nil w1 w2) : TG w w2 c p nd1 nm1 m1 c1 :=
  ⟨h.tr.keptN k, h.kept.trans k (fun _ _ e => e.elim), h.old, h.new⟩
theorem FT_nil {w0 : World} (k : Kept Nil w0 w) (i : Nat) (hi : i < w0.heap.size) (e : FT c w i) : FT c w0 i := ⟨e.1, e.2.imp id (isC_back k hi (fun f => f))⟩
theorem TG.afterN {w0 w1 : World} {c1 : Nat → Nat} {nd1 : Nat → Option Nd} {nm1 : Sp → Option Nat} {m1 : Nat} (k : Kept Nil w0 w) (hl : ∀ b, c b ≠ 0 → b < w0.heap.size) (h : TG w w1 c p nd1 nm1 m1 c1) : TG w0 w1 c p nd1 nm1 m1 c1 :=
  ⟨h.tr, (k.mono (fun _ _ e => e.elim)).trans h.kept (fun i hi e => FT_nil k i hi e), fun b hb => h.old b (Nat.lt_of_lt_of_le hb k.size), fun b hb => by
    by_cases h1 : b < w.heap.size
    · left; rw [h.old b h1]
      by_cases e : c b = 0
      · exact e
      · have := hl b e; omega
    · exact h.new b (by omega)⟩
end
end
section
open Go.RowKit Go.Maps Go.WideMaps
set_option maxRecDepth 100000

theorem uNodes : Tryz.prog.underlying 51 = some (.map 3 89) := Tryz.underlying51
theorem uNums : Tryz.prog.underlying 52 = some (.map 62 3) := Tryz.underlying52
section
variable {w : World} {c : Nat → Nat} {p m : Nat} {nd : Nat → Option Nd} {nm : Sp → Option Nat}
theorem Tr.lookN (h : Tr w c p nd nm m) : ∃ bs, w.cell? ⟨p, 1, none⟩ = some (.map (some bs)) ∧ ∀ s, SpOK s → (Instr.lookup 52 (.map (some bs)) (.agg (aSp s)) false).run Tryz.prog w = .ok (.int .i64 ((nm s).getD 0 : Nat)) w := by
  obtain ⟨bn, bs, nv, h⟩ := h
  refine ⟨bs, by have := h.blk.cell 1; simpa using this, fun s hs => ?_⟩
  exact h.ms.look (K := KSp) (V := VI) uNums (zeroVI w) hs
set_option maxHeartbeats 4000000 in
theorem number_any (h : Tr w c p nd nm m) (s : Sp) (hs : SpOK s) :
    Calls Tryz.prog 30 #[.pointer (some ⟨p, 0, none⟩), .agg (aSp s)] w fun e w' => e = .returned (.int .i64 ((nm s).getD 0 : Nat)) ∧ Kept Nil w w' := by
  have hlt := h.lt
  have k1 : Kept Nil w (w.alloc (.cells (aSp s) 62)) := (Kept.refl _ _).alloc _
  obtain ⟨bs, c1, hl⟩ := (h.keptN k1).lookN
  have hl1 := hl s hs
  obtain ⟨bs', c1', hl'⟩ := ((h.keptN k1).keptN ((Kept.refl Nil _).drew)).lookN
  have : bs' = bs := by
    have e : (w.alloc (.cells (aSp s) 62)).drew.cell? ⟨p, 1, none⟩ = (w.alloc (.cells (aSp s) 62)).cell? ⟨p, 1, none⟩ := rfl
    rw [e, c1] at c1'
    injection c1' with c1'
    injection c1' with c1'
    injection c1' with c1'
    exact c1'.symm
  subst this
  have hl2 := hl' s hs
  have KK := Lib.hid k1
  generalize (nm s).getD 0 = r at *
  clear h hl hl' k1 c1' hs
  obtain ⟨sp, sk, sa, sb, sc, x0, x1, x2, x3, x4, x5, x6, x7, x8, sn, sq⟩ := s
  unfold aSp at *
  simp only at *
  go_enter Tryz.func30, Tryz.ntmps30
  go_wp2_with fail
  go_region
  all_goals
    go_wp2_with fail
    go_ret
    exact ⟨rfl, KK.out.drew⟩
end
end
section
open Go.RowKit
set_option maxRecDepth 100000

section
variable {P : Program} {pre : Array Oper} {last : Oper} {Q Q' : Exit → Act → World → Prop} {md : Region.Mode}
/-- What is asked of the region: no guards, each waits for such as stand ahead of it alone, the last one for all others. -/
def lastB (md : Region.Mode) (pre : Array Oper) (last : Oper) : Bool :=
  ((List.range pre.size).all fun j => match pre[j]? with | some o => o.guard.isNone && o.after.all (fun e => !Region.binds md e || decide (e.on < j)) | none => false) &&
  (last.guard.isNone && (last.after.all (fun e => !Region.binds md e || decide (e.on < pre.size)) &&
  (List.range pre.size).all fun j => last.after.any fun e => Region.binds md e && (e.on == j || match pre[e.on]? with | some o => o.after.any (fun e' => Region.binds md e' && e'.on == j) | none => false)))
structure LastOK (md : Region.Mode) (pre : Array Oper) (last : Oper) : Prop where
  g : ∀ (j : Nat) (o : Oper), pre[j]? = some o → o.guard = none
  f : ∀ (j : Nat) (o : Oper), pre[j]? = some o → ∀ e ∈ o.after, Region.binds md e = true → e.on < j
  gl : last.guard = none
  fl : ∀ e ∈ last.after, Region.binds md e = true → e.on < pre.size
  al : ∀ (j : Nat), j < pre.size → ∃ e ∈ last.after, Region.binds md e = true ∧ (e.on = j ∨ ∃ o, pre[e.on]? = some o ∧ ∃ e' ∈ o.after, Region.binds md e' = true ∧ e'.on = j)
theorem LastOK.of (h : lastB md pre last = true) : LastOK md pre last := by
  unfold lastB at h
  simp only [Bool.and_eq_true, List.all_eq_true, List.mem_range] at h
  obtain ⟨h1, h2, h3, h4⟩ := h
  have hlt : ∀ {j : Nat} {o : Oper}, pre[j]? = some o → j < pre.size := fun ho => (Array.getElem?_eq_some_iff.1 ho).1
  refine ⟨fun j o ho => ?_, fun j o ho e he hb => ?_, by simpa using h2, fun e he hb => ?_, fun j hj => ?_⟩
  · have := h1 j (hlt ho)
    rw [ho] at this
    simp only [Bool.and_eq_true] at this
    simpa using this.1
  · have := h1 j (hlt ho)
    rw [ho] at this
    simp only [Bool.and_eq_true, Array.all_eq_true_iff_forall_mem] at this
    have := this.2 e he
    rw [hb] at this
    simpa using this
  · have := Array.all_eq_true_iff_forall_mem.1 h3 e he
    rw [hb] at this
    simpa using this
  · obtain ⟨i, hi, h5⟩ := Array.any_eq_true.1 (h4 j hj)
    simp only [Bool.and_eq_true, Bool.or_eq_true, beq_iff_eq] at h5
    refine ⟨_, Array.getElem_mem hi, h5.1, h5.2.imp id fun h6 => ?_⟩
    split at h6
    · rename_i o ho
      obtain ⟨i', hi', h7⟩ := Array.any_eq_true.1 h6
      simp only [Bool.and_eq_true, beq_iff_eq] at h7
      exact ⟨o, ho, _, Array.getElem_mem hi', h7.1, h7.2⟩
    · cases h6
/-- What has come up: the last one hasn't; all that something waited for has. -/
structure UpTo (md : Region.Mode) (pre : Array Oper) (listed : Array Bool) : Prop where
  sz : listed.size = pre.size + 1
  no : listed.getD pre.size true = false
  cl : ∀ (d : Nat) (o : Oper), pre[d]? = some o → listed.getD d false = true → ∀ e ∈ o.after, Region.binds md e = true → listed.getD e.on false = true
theorem getD_dn {listed : Array Bool} {j : Nat} (hj : j < listed.size) (d : Bool) : listed.getD j d = listed.getD j false := by simp [hj]
theorem UpTo.all {listed : Array Bool} (u : UpTo md pre listed) (h : LastOK md pre last) (hr : Region.ready md pre listed = []) : ∀ j, j < pre.size → listed.getD j false = true := by
  intro j
  induction j using Nat.strongRecOn with
  | _ j ih =>
    intro hj
    cases hb : listed.getD j false with
    | true => rfl
    | false =>
      exfalso
      have : j ∈ Region.ready md pre listed := mem_ready.2 ⟨(getD_dn (by rw [u.sz]; omega) _).trans hb, pre[j], Array.getElem?_eq_getElem hj, fun e he hbe => by
        have := h.f j _ (Array.getElem?_eq_getElem hj) e he hbe
        exact ih e.on this (by omega)⟩
      rw [hr] at this; cases this
theorem UpTo.lastReady {listed : Array Bool} (u : UpTo md pre listed) (h : LastOK md pre last) (hr : Region.ready md pre listed = []) : pre.size ∈ Region.ready md (pre.push last) listed :=
  mem_ready.2 ⟨u.no, last, Array.getElem?_push_size, fun e he hb => u.all h hr _ (h.fl e he hb)⟩
theorem UpTo.allOf {listed : Array Bool} (u : UpTo md pre listed) (h : LastOK md pre last) (hr : pre.size ∈ Region.ready md (pre.push last) listed) : ∀ j, j < pre.size → listed.getD j false = true := by
  intro j hj
  obtain ⟨_, o, ho, hall⟩ := mem_ready.1 hr
  rw [Array.getElem?_push_size] at ho
  cases ho
  obtain ⟨e, he, hb, rfl | ⟨o, ho, e', he', hb', rfl⟩⟩ := h.al j hj
  · exact hall e he hb
  · exact u.cl _ o ho (hall e he hb) e' he' hb'
theorem UpTo.none {listed : Array Bool} (u : UpTo md pre listed) (ha : ∀ j, j < pre.size → listed.getD j false = true) : Region.ready md pre listed = [] := by
  rw [List.eq_nil_iff_forall_not_mem]
  intro j hj
  obtain ⟨h0, o, ho, _⟩ := mem_ready.1 hj
  have hlt := (Array.getElem?_eq_some_iff.1 ho).1
  rw [getD_dn (by rw [u.sz]; omega), ha j hlt] at h0
  cases h0
theorem UpTo.step {listed : Array Bool} (u : UpTo md pre listed) {i : Nat} (hi : i ∈ Region.ready md pre listed) : UpTo md pre (listed.setIfInBounds i true) := by
  obtain ⟨_, o, ho, hall⟩ := mem_ready.1 hi
  have hlt := (Array.getElem?_eq_some_iff.1 ho).1
  refine ⟨by simp [u.sz], by rw [getD_set_ne true (by omega)]; exact u.no, fun d o' ho' hd e he hb => ?_⟩
  by_cases hdi : i = d
  · subst hdi
    rw [ho] at ho'
    cases ho'
    exact getD_set_true (hall e he hb)
  · rw [getD_set_ne false hdi] at hd
    exact getD_set_true (u.cl d o' ho' hd e he hb)
theorem wpTo {o : Oper} {a : Act} {w : World} {K K' : Act → World → Prop} (hp : ∀ c a w, Q' (.panic c) a w → Q (.panic c) a w) (ho : LetsOut Q' → LetsOut Q) (hK : ∀ a w, K a w → K' a w) (h : o.wp P a w K Q') : o.wp P a w K' Q := by
  unfold Oper.wp at *
  generalize (execOp a.eval o).run P w = r at *
  cases r with
  | ok n w' =>
    cases n <;> simp only [Oper.upon] at h ⊢
    case value u => exact hK _ _ h
    case skip => exact hK _ _ h
    case defer d => exact hK _ _ h
    case enter f args =>
      refine Calls.mono h fun e w'' he => ?_
      cases e with
      | returned u => exact hK _ _ he
      | panicked c => exact hp _ _ _ he
      | outgrown => exact ho he
    case row row args => exact Rows.mono h fun u w'' he => hK _ _ he
  | halt x w' =>
    cases x <;> simp only [Oper.upon] at h ⊢
    case panic u => exact hp _ _ _ h
theorem wpOpTo {ops : Array Oper} {i : Nat} {o : Oper} (hi : pre[i]? = some o) (hi' : ops[i]? = some o) (hg : o.guard = none) {a : Act} {w : World} {K K' : Act → World → Prop} (hp : ∀ c a w, Q' (.panic c) a w → Q (.panic c) a w) (ho : LetsOut Q' → LetsOut Q) (hK : ∀ a w, K a w → K' a w) (h : wpOp P pre Q' i K a w) : wpOp P ops Q i K' a w := by
  unfold wpOp at *
  rw [hi] at h
  rw [hi']
  simp only [Region.wanted, hg, if_true] at h ⊢
  exact h.imp (wpTo hp ho hK) fun ⟨h1, h2⟩ => ⟨h1, ho h2⟩
/-- What follows where the last one is left out: it is carried out. -/
def ThenLast (P : Program) (last : Oper) (Q : Exit → Act → World → Prop) : Exit → Act → World → Prop
  | .normal, a, w => last.wp P a w (fun a' w' => Q .normal a' w') Q
  | e, a, w => Q e a w
theorem wpAny_push (h : LastOK md pre last) : ∀ (fuel : Nat) (listed : Array Bool) (a : Act) (w : World), UpTo md pre listed → wpAny P md pre (ThenLast P last Q) fuel listed a w → wpAny P md (pre.push last) Q (fuel + 1) listed a w := by
  have hlast : ∀ (f : Nat) (listed : Array Bool) (a : Act) (w : World), UpTo md pre listed → Region.ready md pre listed = [] → ThenLast P last Q .normal a w → wpOp P (pre.push last) Q pre.size (wpAny P md (pre.push last) Q f (listed.setIfInBounds pre.size true)) a w := fun f listed a w u hr hq => by
    unfold wpOp
    rw [Array.getElem?_push_size]
    simp only [Region.wanted, h.gl, if_true]
    refine .inl (Oper.wp_mono (fun a' w' hq' => ?_) hq)
    have ha := u.all h hr
    have hn : Region.ready md (pre.push last) (listed.setIfInBounds pre.size true) = [] := by
      rw [List.eq_nil_iff_forall_not_mem]
      intro j hj
      obtain ⟨h0, o, ho, _⟩ := mem_ready.1 hj
      have hlt := (Array.getElem?_eq_some_iff.1 ho).1
      rw [Array.size_push] at hlt
      by_cases hjn : pre.size = j
      · subst hjn
        have : pre.size < listed.size := by rw [u.sz]; omega
        simp [this] at h0
      · rw [getD_set_ne true hjn, getD_dn (by rw [u.sz]; omega), ha j (by omega)] at h0
        cases h0
    cases f with
    | zero => exact ⟨hn, hq'⟩
    | succ f => exact ⟨fun _ => hq', by rw [hn]; simp⟩
  intro fuel
  induction fuel with
  | zero =>
    intro listed a w u ⟨hr, hq⟩
    refine ⟨fun hn => absurd (u.lastReady h hr) (by rw [hn]; simp), fun i hi => ?_⟩
    obtain ⟨h0, o, ho, hall⟩ := mem_ready.1 hi
    have hlt := (Array.getElem?_eq_some_iff.1 ho).1
    rw [Array.size_push] at hlt
    by_cases hin : i = pre.size
    · subst hin; exact hlast 0 listed a w u hr hq
    · rw [getD_dn (by rw [u.sz]; omega), u.all h hr i (by omega)] at h0
      cases h0
  | succ fuel ih =>
    intro listed a w u ⟨hq, hs⟩
    have hne : Region.ready md (pre.push last) listed = [] → Q .normal a w := fun hn => by
      have hp : Region.ready md pre listed = [] := by
        rw [List.eq_nil_iff_forall_not_mem]
        intro j hj
        obtain ⟨h0, o, ho, hall⟩ := mem_ready.1 hj
        have hlt := (Array.getElem?_eq_some_iff.1 ho).1
        have : j ∈ Region.ready md (pre.push last) listed := mem_ready.2 ⟨h0, o, by rw [Array.getElem?_push_lt hlt]; rw [Array.getElem?_eq_getElem hlt] at ho; exact ho, hall⟩
        rw [hn] at this; cases this
      exact absurd (u.lastReady h hp) (by rw [hn]; simp)
    refine ⟨hne, fun i hi => ?_⟩
    obtain ⟨h0, o, ho, hall⟩ := mem_ready.1 hi
    have hlt := (Array.getElem?_eq_some_iff.1 ho).1
    rw [Array.size_push] at hlt
    by_cases hin : i = pre.size
    · subst hin
      have hr := u.none (u.allOf h hi)
      exact hlast (fuel + 1) listed a w u hr (hq hr)
    · have hlt' : i < pre.size := by omega
      have ho' : pre[i]? = some o := by
        rw [Array.getElem?_push_lt hlt'] at ho
        rw [Array.getElem?_eq_getElem hlt']; exact ho
      have hi' : i ∈ Region.ready md pre listed := mem_ready.2 ⟨h0, o, ho', hall⟩
      exact wpOpTo ho' ho (h.g i o ho') (fun _ _ _ e => e) (fun e => e) (fun a' w' hw => ih _ a' w' (u.step hi') hw) (hs i hi')
/-- A region that draws: without its last operation, under a condition on the world that holds till then. -/
theorem wp_region_last {id : Nat} {ops : Array Oper} {a : Act} {w : World} (S : World → Prop) (pre : Array Oper) (last : Oper) (ho : ops = pre.push last) (hm : P.follows .mixedOrders = true) (hB : lastB .any pre last = true)
    (h : wpAnyH P .any pre (ThenLast P last Q) S pre.size (Array.replicate (pre.size + 1) false) a w.drew) : (Code.region id ops true).wp P Q a w := by
  subst ho
  refine wp_region_any hm ?_
  rw [Array.size_push]
  refine wpAny_push (LastOK.of hB) _ _ _ _ ⟨by simp, by simp, fun d o _ hd => ?_⟩ (wpAny_of_held _ _ _ _ h)
  have : (Array.replicate (pre.size + 1) false).getD d false = false := by
    rcases Nat.lt_or_ge d (pre.size + 1) with h | h
    · simp [h]
    · simp [Nat.not_lt.2 h]
  rw [this] at hd; cases hd
end
section
theorem app_wp {P : Program} {o : Oper} (d : Option Tmp) (hd : o.dst = d) {a : Act} {w : World} {K : Act → World → Prop} {Q : Exit → Act → World → Prop} (s x : Operand) (t ty : TypeId) (hty : o.type = ty)
    (ho : o.op = .call { callee := .builtin .append, args := #[s, x], argTypes := #[t, t] }) (v y : Value) (hs : a.eval s = v) (hx : a.eval x = y) {v' : Value} {w' : World}
    (hr : (Builtin.append_ #[t, t] ty #[v, y]).run P w = .ok v' w') (h : K (a.put d v') w') : o.wp P a w K Q := by
  subst hd hty
  unfold Oper.wp execOp
  simp only [ho, resolve, invoke, builtin, Sem.run_bind, Sem.run_pure, Result.andThen_ok, List.map_toArray, List.map_cons, List.map_nil, hs, hx, hr]
  exact h
theorem wpOp_of {P : Program} {ops : Array Oper} {Q : Exit → Act → World → Prop} {i : Nat} {o : Oper} {K : Act → World → Prop} {a : Act} {w : World} (hi : ops[i]? = some o) (hg : o.guard = none) (h : o.wp P a w K Q) : wpOp P ops Q i K a w := by
  unfold wpOp
  rw [hi]
  simp only [Region.wanted, hg, if_true]
  exact .inl h
theorem lit_wp {P : Program} {o : Oper} (d : Option Tmp) (hd : o.dst = d) {a : Act} {w w' : World} {v : Value} {K : Act → World → Prop} {Q : Exit → Act → World → Prop} (hr : (execOp a.eval o).run P w = .ok (.value v) w') (h : K (a.put d v) w') : o.wp P a w K Q := by
  subst hd
  unfold Oper.wp
  rw [hr]
  exact h
theorem takeH {P : Program} {ops : Array Oper} {Q : Exit → Act → World → Prop} {md : Region.Mode} {S : World → Prop} {i : Nat} {oi : Oper} (d : Option Tmp) (v : Value) {fuel : Nat} {listed : Array Bool} {a : Act} {w : World} (hi : ops[i]? = some oi) (hd : oi.dst = d)
    (hs : Region.noSelect ops = true) (hf : Region.free md ops listed i = true) (hr : (Region.ready md ops listed).contains i = true)
    (hQ : ∀ c a w, Q (.panic c) (a.put oi.dst v) w → Q (.panic c) a w) (hw : Region.wanted oi (yielded ops a.tmps) = true) (hS : S w) (hy : ∀ w, S w → (execOp a.eval oi).run P w = .ok (.value v) w)
    (h : wpAnyH P md ops Q S fuel (listed.setIfInBounds i true) (a.put d v) w) : wpAnyH P md ops Q S (fuel + 1) listed a w := by
  subst hd
  exact wpAnyH_take hi hs hf hr hQ (.inl ⟨hw, hy⟩) hS h
theorem store_wp {P : Program} {last : Oper} {o : Oper} {Q : Exit → Act → World → Prop} {a : Act} {w : World} {K : Act → World → Prop} (ho : last = o) (hK : K = fun a' w' => Q .normal a' w') (h : o.wp P a w K Q) : ThenLast P last Q .normal a w := by
  subst ho hK
  exact h
theorem forall_one {p : Nat → Prop} {i : Nat} (hi : p i) : ∀ k ∈ [i], p k := fun k hk => by rw [List.mem_singleton.1 hk]; exact hi
theorem wp_region_lastL {P : Program} {Q : Exit → Act → World → Prop} {id : Nat} {l : List Oper} {a : Act} {w : World} (S : World → Prop) (hl : l ≠ []) (hm : P.follows .mixedOrders = true) (hB : lastB .any l.dropLast.toArray (l.getLast hl) = true)
    (h : wpAnyH P .any l.dropLast.toArray (ThenLast P (l.getLast hl) Q) S l.dropLast.toArray.size (Array.replicate (l.dropLast.toArray.size + 1) false) a w.drew) : (Code.region id l.toArray true).wp P Q a w :=
  wp_region_last S l.dropLast.toArray (l.getLast hl) (by rw [List.push_toArray, List.dropLast_concat_getLast]) hm hB h
theorem call_wp {P : Program} {o : Oper} (d : Option Tmp) (hd : o.dst = d) (f : FuncId) (xs : Array Operand) (ats : Array TypeId) (ho : o.op = .call { callee := .value (.func f), args := xs, argTypes := ats }) (he : ∀ args w, (callFunc f args).run P w = .ok (.enter f args) w) {a : Act} {w : World} {K : Act → World → Prop} {Q : Exit → Act → World → Prop} (vals : Array Value) (hv : xs.map a.eval = vals) {R : Ending → World → Prop} (hc : Calls P f vals w R) (hk : ∀ e w', R e w' → ∃ v, e = .returned v ∧ K (a.put d v) w') : o.wp P a w K Q := by
  subst hd hv
  have e1 : execOp a.eval o = callFunc f (#[] ++ xs.map a.eval ++ #[]) := by
    obtain ⟨d, op, ty, pos, after, guard⟩ := o
    simp only at ho
    subst ho
    rfl
  have e2 : (#[] ++ xs.map a.eval ++ #[] : Array Value) = xs.map a.eval := by simp
  unfold Oper.wp
  rw [e1, e2, he]
  exact hc.mono fun e w' hR => by
    obtain ⟨v, rfl, hK⟩ := hk e w' hR
    exact hK
/-- A region that draws, under a condition on the world that holds all along. -/
theorem wp_region_held {P : Program} {Q : Exit → Act → World → Prop} {id : Nat} {ops : Array Oper} {a : Act} {w : World} (S : World → Prop) (hm : P.follows .mixedOrders = true)
    (h : wpAnyH P .any ops Q S ops.size (Array.replicate ops.size false) a w.drew) : (Code.region id ops true).wp P Q a w := by
  refine wp_region_any hm ?_
  exact wpAny_of_held _ _ _ _ h
/-- A load, by an equation on its run. -/
theorem exec_load {P : Program} {ev : Operand → Value} {o : Oper} {ty : TypeId} {x : Operand} {p v : Value} {w : World} (ho : o.op = .load ty x) (hx : ev x = p) (hl : (Instr.loadAt ty p).run P w = .ok v w) : (execOp ev o).run P w = .ok (.value v) w := by
  unfold execOp
  simp only [ho, hx, Sem.run_bind, hl, Result.andThen_ok, Sem.run_pure]
/-- A store into a map, by an equation on its run. -/
theorem upd_wp {P : Program} {o : Oper} {a : Act} {w w' : World} {K : Act → World → Prop} {Q : Exit → Act → World → Prop} (t : TypeId) (m k x : Operand) (ho : o.op = .mapUpdate t m k x) {vm vk vx : Value} (hm : a.eval m = vm) (hk : a.eval k = vk) (hx : a.eval x = vx)
    (hr : (Instr.mapUpdate t vm vk vx).run P w = .ok () w') (h : K (a.put o.dst undef) w') : o.wp P a w K Q := by
  unfold Oper.wp execOp
  simp only [ho, hm, hk, hx, Sem.run_bind, hr, Result.andThen_ok, Sem.run_pure]
  exact h
end
end
end Go.Proofs.YtljefbfjehblpaaGreat
