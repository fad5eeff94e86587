/- A tally in memory that has a third cell beside its own two (a store's map of memories): XNMath's Tal with a value more. No program. -/
import Derived.Test.YthiijlngoikhkaaNMath
namespace Go.Proofs.Ythiijlngoikhkaa
open Go.RowKit Go.Maps

/-! ### A tally in memory -/
section
variable {P : Program} {κ : Type} [DecidableEq κ] {K : KT P κ} {e tT : TypeId}
/-- Block p is a tally of the things l; it and its map lie from block B on. -/
structure TalX (K : KT P κ) (e tT : TypeId) (w : World) (B p : Nat) (m x : Value) (l : List κ) : Prop where
  len : l.length ≤ 10000
  ok : ∀ x ∈ l, K.ok x
  base : B ≤ p
  here : w.heap[p]? = some (.cells #[m, .int .i64 l.length, x] tT (0, 0))
  mp : (m = .map none ∧ l = []) ∨ ∃ bm D, m = .map (some bm) ∧ B ≤ bm ∧ w.ownsMap (H := Unit) P K.t (plainElem P e) bm l.length D ∧ Cnt K D l
variable {w w' : World} {B p : Nat} {m x : Value} {l l' : List κ}
theorem TalX.lt (h : TalX K e tT w B p m x l) : p < w.heap.size := (Array.getElem?_eq_some_iff.1 h.here).1
theorem TalX.foot (h : TalX K e tT w B p m x l) {k : Nat} (hk : TFoot p m k) : B ≤ k ∧ k < w.heap.size := by
  rcases hk with rfl | rfl
  · exact ⟨h.base, h.lt⟩
  · rcases h.mp with ⟨e, _⟩ | ⟨bm, D, e, hb, ho, _⟩
    · cases e
    · cases e; exact ⟨hb, ho.lt⟩
theorem TalX.kept (h : TalX K e tT w B p m x l) {F : Nat → Prop} (hk : Kept F w w') (hF : ∀ k, TFoot p m k → ¬ F k) : TalX K e tT w' B p m x l := by
  refine ⟨h.len, h.ok, h.base, ?_, ?_⟩
  · rw [hk.block p h.lt (hF p (.inl rfl))]; exact h.here
  · rcases h.mp with e | ⟨bm, D, e, hb, ho, ht⟩
    · exact .inl e
    · exact .inr ⟨bm, D, e, hb, hk.map ho (hF bm (.inr e)), ht⟩
theorem TalX.keptN (h : TalX K e tT w B p m x l) (hk : Kept Nil w w') : TalX K e tT w' B p m x l := h.kept hk (fun _ _ g => g)
theorem TalX.cell0 (h : TalX K e tT w B p m x l) : w.cell? ⟨p, 0, none⟩ = some m := by simp [World.cell?, h.here]
theorem TalX.cell1 (h : TalX K e tT w B p m x l) : w.cell? ⟨p, 1, none⟩ = some (.int .i64 l.length) := by simp [World.cell?, h.here]
theorem TalX.cell2 (h : TalX K e tT w B p m x l) : w.cell? ⟨p, 2, none⟩ = some x := by simp [World.cell?, h.here]
theorem TalX.free (h : TalX K e tT w B p m x l) (o : Nat) : w.frozen? ⟨p, o, none⟩ = false := by simp [World.frozen?, h.here]
/-- A block of values of another type is none of a tally's. -/
theorem TalX.other (h : TalX K e tT w B p m x l) {k : Nat} {cur : Array Value} {t : TypeId} {fr : Nat × Nat} (hb : w.heap[k]? = some (.cells cur t fr)) (ht : t ≠ tT) : ¬ TFoot p m k := by
  rintro (rfl | rfl)
  · rw [h.here] at hb; injection hb with hb; injection hb with _ h2 _; exact ht h2.symm
  · rcases h.mp with ⟨e, _⟩ | ⟨bm, D, e, _, ho, _⟩
    · cases e
    · cases e
      obtain ⟨es, clock, hbb, _⟩ := ho
      rw [hbb] at hb; cases hb
/-- The look-up of a thing: how often it is wanted. -/
theorem TalX.look (h : TalX K e tT w B p m x l) (he : P.underlying e = some (.int .i64)) {tM : TypeId} (hM : P.underlying tM = some (.map K.t e)) (hz : ∀ w, (zeroValue e).run P w = .ok (.int .i64 0) w) {k : κ} (hk : K.ok k) :
    (Instr.lookup tM m (K.enc k) false).run P w = .ok (.int .i64 (cnt k l)) w := by
  rcases h.mp with ⟨rfl, rfl⟩ | ⟨bm, D, rfl, hb, ho, ht⟩
  · exact look_nil (w := w) false K.keyed hM (hz w) (K.key k hk)
  · obtain ⟨c, hrun, hat, _⟩ := ho.lookup_int K.keyed hM he (hz w) (K.key k hk)
    rw [ht.get k hk] at hat
    simp at hat
    rw [hrun, ← hat]
/-- What a tally's call that writes leaves. -/
def TGrewX (K : KT P κ) (e tT : TypeId) (w w' : World) (B p : Nat) (m x : Value) (l : List κ) : Prop :=
  ∃ m', TalX K e tT w' B p m' x l ∧ (∀ k, TFoot p m' k → TFoot p m k ∨ w.heap.size ≤ k) ∧ Kept (TFoot p m) w w'
end
section
variable {P : Program} {κ : Type} [DecidableEq κ] {K : KT P κ} {e tT : TypeId} {w w' : World} {B p : Nat} {m x : Value} {l l' : List κ}
/-- A tally whose map is made. -/
theorem TalX.withMap (h : TalX K e tT w B p (.map none) x l) : TalX K e tT ((w.setCell ⟨p, 0, none⟩ (.map (some w.heap.size))).alloc (.map #[] 0)) B p (.map (some w.heap.size)) x l := by
  have hp := h.lt
  have hB := h.base
  have hsz : (w.setCell ⟨p, 0, none⟩ (.map (some w.heap.size))).heap.size = w.heap.size := by simp [World.setCell]
  rcases h.mp with ⟨_, rfl⟩ | ⟨bm, D, e, _⟩
  rotate_left
  · cases e
  refine ⟨h.len, h.ok, h.base, ?_, .inr ⟨w.heap.size, .map [], rfl, by omega, ?_, Cnt.nil K⟩⟩
  · rw [Below.heap_alloc _ _ p (by rw [hsz]; exact hp)]
    simp [World.setCell, Array.getElem?_modify, h.here]
  · have := World.ownsMap_made (H := Unit) (w.setCell ⟨p, 0, none⟩ (.map (some w.heap.size))) P K.t (plainElem P e)
    rw [hsz] at this
    exact this
theorem TGrewX.made (h : TGrewX K e tT ((w.setCell ⟨p, 0, none⟩ (.map (some w.heap.size))).alloc (.map #[] 0)) w' B p (.map (some w.heap.size)) x l) : TGrewX K e tT w w' B p (.map none) x l := by
  obtain ⟨m', r1, r2, r3⟩ := h
  have hsz : ((w.setCell ⟨p, 0, none⟩ (.map (some w.heap.size))).alloc (.map #[] 0)).heap.size = w.heap.size + 1 := by simp [World.setCell]
  refine ⟨m', r1, fun k hk => ?_, ?_⟩
  · rcases r2 k hk with (rfl | e) | e
    · exact .inl (.inl rfl)
    · cases e; exact .inr (Nat.le_refl _)
    · exact .inr (by rw [hsz] at e; omega)
  · refine (((Kept.refl _ w).setCell ⟨p, 0, none⟩ (.inl (.inl rfl)) _).alloc _).trans r3 (fun i hi e => ?_)
    rcases e with rfl | e
    · exact .inl rfl
    · cases e; exact absurd hi (Nat.lt_irrefl _)
/-- Behind a call on the map: the tally's own cells stay. -/
theorem TalX.mapped {bm : Nat} (h : TalX K e tT w B p (.map (some bm)) x l) (hg : w.grownBy w' (some bm)) :
    w'.heap[p]? = some (.cells #[.map (some bm), .int .i64 l.length, x] tT (0, 0)) := by
  have hpb : p ≠ bm := fun e => by
    rcases h.mp with ⟨e2, _⟩ | ⟨bm', D, e2, _, ho, _⟩
    · cases e2
    · cases e2
      obtain ⟨es, clock, hbb, _⟩ := ho
      rw [← e, h.here] at hbb; cases hbb
  rw [hg.block p h.lt (fun e => hpb (Option.some.inj e))]
  exact h.here
theorem TalX.done {bm n : Nat} {D : DataW Unit} (h : TalX K e tT w B p (.map (some bm)) x l) (hg : w.grownBy w' (some bm)) (ho : w'.ownsMap (H := Unit) P K.t (plainElem P e) bm n D) (hc : Cnt K D l') (hl : l'.length ≤ 10000) (ok : ∀ x ∈ l', K.ok x) {q : Int} (hq : q = l'.length) :
    TGrewX K e tT w (w'.setCell ⟨p, 1, none⟩ (.int .i64 q)) B p (.map (some bm)) x l' := by
  subst hq
  have hh := h.mapped hg
  have hbp : bm ≠ p := fun e => by
    obtain ⟨es, clock, hbb, _⟩ := ho
    rw [e, hh] at hbb; cases hbb
  have hb := (h.foot (k := bm) (.inr rfl)).1
  refine ⟨.map (some bm), ⟨hl, ok, h.base, ?_, .inr ⟨bm, D, rfl, hb, ownsMap_tight (ho.setCell (a := ⟨p, 1, none⟩) hbp _) hc.size_le, hc⟩⟩, fun k hk => .inl hk, ?_⟩
  · simp [World.setCell, Array.getElem?_modify, hh]
  · exact ((Kept.refl _ w).grown hg (fun k e => .inl (.inr (by cases e; rfl)))).setCell ⟨p, 1, none⟩ (.inl (.inl rfl)) _
end
end Go.Proofs.Ythiijlngoikhkaa
