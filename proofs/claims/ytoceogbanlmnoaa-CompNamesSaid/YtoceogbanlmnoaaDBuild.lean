/- Layer rule: one round of building a slice of conditions that hangs in whatever block (after layer cond's build_round). -/
import Derived.Test.YtoceogbanlmnoaaCRef
namespace Go.Proofs.Ytoceogbanlmnoaa
open Go.RowKit
set_option maxRecDepth 100000

/-- What stands in memory: what came in, boxed; the result's place. -/
structure RG (w : World) (t0 : TypeId) (c0 : Array Value) (tz : TypeId) (z : Array Value) (W : World) : Prop where
  kept : Kept Nil w W
  b0 : Blk W w.heap.size t0 c0
  b1 : Blk W (w.heap.size + 1) tz z
section
variable {w : World} {t0 : TypeId} {c0 : Array Value} {tz : TypeId} {z : Array Value} {W W' : World}
theorem RG.start (w : World) (t0 : TypeId) (c0 : Array Value) (tz : TypeId) (z : Array Value) : RG w t0 c0 tz z ((w.alloc (.cells c0 t0)).alloc (.cells z tz)) := by
  refine ⟨((Kept.refl Nil w).alloc _).alloc _, (Blk.new w _ _).alloc _, ?_⟩
  have := Blk.new (w.alloc (.cells c0 t0)) tz z
  simpa using this
theorem RG.step (r : RG w t0 c0 tz z W) (k : Kept Nil W W') : RG w t0 c0 tz z W' := ⟨r.kept.trans k (fun _ _ g => g), r.b0.kept k id, r.b1.kept k id⟩
theorem RG.alloc (r : RG w t0 c0 tz z W) (o : Obj) : RG w t0 c0 tz z (W.alloc o) := r.step ((Kept.refl Nil W).alloc o)
theorem RG.drew (r : RG w t0 c0 tz z W) : RG w t0 c0 tz z W.drew := r.step ((Kept.refl Nil W).drew)
theorem RG.far {F : Nat → Prop} (r : RG w t0 c0 tz z W) (k : Kept F W W') (hF : ∀ i, F i → w.heap.size + 1 < i) : RG w t0 c0 tz z W' :=
  ⟨r.kept.trans k (fun i hi g => by have := hF i g; omega), r.b0.kept k (fun g => by have := hF _ g; omega), r.b1.kept k (fun g => by have := hF _ g; omega)⟩
theorem RG.set_ (r : RG w t0 c0 tz z W) {X : Nat} (hX : w.heap.size + 1 < X) (i : Nat) (u : Value) : RG w t0 c0 tz z (W.setCell ⟨X, i, none⟩ u) :=
  ⟨r.kept.setCell _ (.inr (by show w.heap.size ≤ X; omega)) _, r.b0.far (by show w.heap.size ≠ X; omega) _, r.b1.far (by show w.heap.size + 1 ≠ X; omega) _⟩
end
/-- One round of building: the child's tree is there in new memory; it is appended, and the new slice is stored. -/
theorem build_roundG {P : Program} {E : Hd → Value → List Value} (hE : Kind8 E) {t e : TypeId} {i0 : TypeInfo} {z0 : Value} {bytes : Nat} (ht : P.underlying t = some (.slice e)) (hi : P.info? e = some i0) (hz : i0.zero = some z0) (hsize : i0.size = 8) (hby : i0.bytes = bytes) (hzs : z0.cells.size = 8) (hb128 : bytes ≤ 128)
    {w : World} {t0 : TypeId} {c0 : Array Value} {tz : TypeId} {z : Array Value} {W1 W1' w2 : World} {X : Nat} {tX : TypeId} (p : Nat) {cs : Array Value} {ps : List (Sh × Value)} {av : Option Addr} {pl capv : Nat} (hX : w.heap.size + 1 < X)
    (r : RG w t0 c0 tz z W1) (b : Blk W1 X tX cs) (h7 : cs[p]? = some (.slice av pl capv)) (c : CRow E e W1 (X + 1) (.slice av pl capv) ps) (hpl : ps.length = pl) (hl : pl ≤ 5000) (hd1 : Kept Nil W1 W1') (hsz : W1'.heap.size = W1.heap.size) (k2 : Kept Nil W1' w2)
    (s : Sh) (u : Value) (h2 : Holds E w2 (okM W1'.heap.size w2) u s.subs) (nt : TypeId) (arr : Array Value) (harr : arr = (E s.hd u).toArray) :
    w2.cell? ⟨X, p, none⟩ = some (.slice av pl capv) ∧ X < w2.heap.size ∧ ∃ g cap3 w3, (Builtin.append_ #[t, t] t #[.slice av pl capv, .slice (some ⟨w2.heap.size, 0, none⟩) 1 1]).run P (w2.alloc (.cells arr nt)) = .ok (.slice (some ⟨g, 0, none⟩) (pl + 1) cap3) w3 ∧
      w3.cell? ⟨X, p, none⟩ = some (.slice av pl capv) ∧ w3.frozen? ⟨X, p, none⟩ = false ∧
      RG w t0 c0 tz z (w3.setCell ⟨X, p, none⟩ (.slice (some ⟨g, 0, none⟩) (pl + 1) cap3)) ∧ Blk (w3.setCell ⟨X, p, none⟩ (.slice (some ⟨g, 0, none⟩) (pl + 1) cap3)) X tX (cs.setIfInBounds p (.slice (some ⟨g, 0, none⟩) (pl + 1) cap3)) ∧
      CRow E e (w3.setCell ⟨X, p, none⟩ (.slice (some ⟨g, 0, none⟩) (pl + 1) cap3)) (X + 1) (.slice (some ⟨g, 0, none⟩) (pl + 1) cap3) (ps ++ [(s, u)]) := by
  have k12 : Kept Nil W1 w2 := hd1.trans k2 (fun _ _ g => g)
  have b2 := b.kept k12 id
  have ka := (Kept.refl Nil w2).alloc (.cells arr nt)
  have hB2 : Blk (w2.alloc (.cells arr nt)) w2.heap.size nt arr := Blk.new _ _ _
  have hX1 := b.lt
  have hX2 := b2.lt
  have hsa : (w2.alloc (.cells arr nt)).heap.size = w2.heap.size + 1 := by simp
  obtain ⟨g, cap3, w3, r3, c3, k3⟩ := CRow.append hE ht hi hz hsize hby hzs hb128 ((c.kept k12).kept ka) (by omega) (by omega) t s u w2.heap.size (fun j x hj => by rw [hB2.cell j, harr]; simpa using hj)
    ((h2.keptN ka).mono (fun b' o hb' => ⟨(hb'.kept ka id).less (by omega), fun eo => by have := c.lt b' eo; have := hb'.1; omega⟩))
  rw [hpl] at r3 c3
  have b3 : Blk w3 X tX cs := (b2.alloc _).kept k3 (fun eo => by have := c.base X eo; omega)
  have far3 : RG w t0 c0 tz z w3 := ((r.step k12).step ka).far k3 (fun i eo => by have := c.base i eo; omega)
  refine ⟨by rw [b2.cell p]; exact h7, hX2, g, cap3, w3, r3, by rw [b3.cell p]; exact h7, b3.frozen p, far3.set_ hX p _, b3.set_ p _, ?_⟩
  exact c3.keptF ((Kept.refl (fun k => k = X) w3).setCell ⟨X, p, none⟩ (.inl rfl) _) (fun i e => by omega)
end Go.Proofs.Ytoceogbanlmnoaa
