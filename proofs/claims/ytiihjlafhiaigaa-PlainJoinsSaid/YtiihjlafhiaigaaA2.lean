/- Layer cond: the law's own Ref of a condition: the reference's tree, in new memory. – Layer scope: plain mathematics of the chains of conditions: how many there are, which of them conditions end themselves, what stands ahead of each. No program. – Layer scope: slices of conditions as rows of pairs (a tree, and the slice in which its Subs lie), and lists of such slices: what append makes of them. Both kinds of conditions. -/
import Derived.Test.YtiihjlafhiaigaaA1
import Derived.Deep.RegionHeld3
import Derived.Deep.RegionLaw
import Derived.Deep.AppendLies
import Derived.Deep.DeepCutAuto
import Derived.OwnWalk
import Derived.Maps.AppendAt
namespace Go.Proofs.Ytiihjlafhiaigaa
section
open Go.RowKit
set_option maxRecDepth 100000

abbrev arrR (h : Hd) (v : Value) : Array Value := #[.int .i64 h.k, .int .i64 (isV h.x0), .int .i64 h.n0, .int .i64 (isV h.x1), .int .i64 h.n1, .int .i64 (isV h.x2), .int .i64 h.n2, v]
abbrev zR : Array Value := #[.int .i64 0, .int .i64 0, .int .i64 0, .int .i64 0, .int .i64 0, .int .i64 0, .int .i64 0, .slice none 0 0]
theorem Kept.cellOf {w w' : World} {p : Addr} {v : Value} (k : Kept Nil w w') (h : w.cell? p = some v) : w'.cell? p = some v := by rw [k.cell (World.block_lt_of_cell? w _ h) id]; exact h
/-- What is read in the region that makes the head. -/
abbrev Seen7 (B : Nat) (k : Int) (x0 x1 x2 : Bool) (n0 n1 n2 : Int) (w' : World) : Prop :=
  w'.cell? ⟨B, 0, none⟩ = some (.int .i64 k) ∧ w'.cell? ⟨B, 1, none⟩ = some (.bool x0) ∧ w'.cell? ⟨B, 2, none⟩ = some (.int .i64 n0) ∧ w'.cell? ⟨B, 3, none⟩ = some (.bool x1) ∧ w'.cell? ⟨B, 4, none⟩ = some (.int .i64 n1) ∧ w'.cell? ⟨B, 5, none⟩ = some (.bool x2) ∧ w'.cell? ⟨B, 6, none⟩ = some (.int .i64 n2)
section
variable {B : Nat} {k : Int} {x0 x1 x2 : Bool} {n0 n1 n2 : Int} {w w' : World}
theorem Seen7.of {v : Value} (h : Blk w B 72 (arrA ⟨k, x0, x1, x2, n0, n1, n2⟩ v)) : Seen7 B k x0 x1 x2 n0 n1 n2 w :=
  ⟨h.cell 0, h.cell 1, h.cell 2, h.cell 3, h.cell 4, h.cell 5, h.cell 6⟩
theorem Seen7.move (k0 : ∀ i v, w.cell? ⟨B, i, none⟩ = some v → w'.cell? ⟨B, i, none⟩ = some v) (h : Seen7 B k x0 x1 x2 n0 n1 n2 w) : Seen7 B k x0 x1 x2 n0 n1 n2 w' :=
  ⟨k0 _ _ h.1, k0 _ _ h.2.1, k0 _ _ h.2.2.1, k0 _ _ h.2.2.2.1, k0 _ _ h.2.2.2.2.1, k0 _ _ h.2.2.2.2.2.1, k0 _ _ h.2.2.2.2.2.2⟩
theorem seen7_kept (kk : Kept Nil w w') (h : Seen7 B k x0 x1 x2 n0 n1 n2 w) : Seen7 B k x0 x1 x2 n0 n1 n2 w' := h.move (fun _ _ h => kk.cellOf h)
theorem seen7_alloc (o : Obj) (h : Seen7 B k x0 x1 x2 n0 n1 n2 w) : Seen7 B k x0 x1 x2 n0 n1 n2 (w.alloc o) := seen7_kept ((Kept.refl Nil w).alloc o) h
theorem seen7_da (o : Obj) (h : Seen7 B k x0 x1 x2 n0 n1 n2 w.drew) : Seen7 B k x0 x1 x2 n0 n1 n2 (w.alloc o).drew := seen7_kept ((Kept.refl Nil w.drew).alloc o) h
theorem seen7_swap {o o' : Obj} (h0 : B < w.heap.size) (h : Seen7 B k x0 x1 x2 n0 n1 n2 (w.alloc o)) : Seen7 B k x0 x1 x2 n0 n1 n2 (w.alloc o') :=
  h.move (fun i v h => by rw [World.cell?_alloc_lt w _ _ h0] at *; exact h)
theorem seen7_set {A i : Nat} {v : Value} (h0 : B ≠ A) (h : Seen7 B k x0 x1 x2 n0 n1 n2 w) : Seen7 B k x0 x1 x2 n0 n1 n2 (w.setCell ⟨A, i, none⟩ v) :=
  h.move (fun i v h => by rw [World.cell?_setCell_other w _ _ _ (fun e => h0 (congrArg Addr.block e).symm)]; exact h)
theorem seen7_set8 {A : Nat} {v0 v1 v2 v3 v4 v5 v6 v7 : Value} (h0 : B ≠ A) (h : Seen7 B k x0 x1 x2 n0 n1 n2 w) : Seen7 B k x0 x1 x2 n0 n1 n2 ((((((((w.setCell ⟨A, 0, none⟩ v0).setCell ⟨A, 1, none⟩ v1).setCell ⟨A, 2, none⟩ v2).setCell ⟨A, 3, none⟩ v3).setCell ⟨A, 4, none⟩ v4).setCell ⟨A, 5, none⟩ v5).setCell ⟨A, 6, none⟩ v6).setCell ⟨A, 7, none⟩ v7) := (seen7_set h0 (seen7_set h0 (seen7_set h0 (seen7_set h0 (seen7_set h0 (seen7_set h0 (seen7_set h0 (seen7_set h0 h))))))))
end

theorem newK {w w' : World} {t : TypeId} {cs : Array Value} (k : Kept Nil (w.alloc (.cells cs t)) w') : Blk w' w.heap.size t cs := (Blk.new w t cs).kept k id
theorem newKd {w w' : World} {t : TypeId} {cs : Array Value} (k : Kept Nil (w.alloc (.cells cs t)).drew w') : Blk w' w.heap.size t cs := ((Blk.new w t cs).drew).kept k id
/-- What stands in memory: what came in, boxed; the result's place. -/
structure RH (w : World) (tz : TypeId) (z : Array Value) (h : Hd) (v : Value) (W : World) : Prop where
  kept : Kept Nil w W
  b0 : Blk W w.heap.size 72 (arrA h v)
  b1 : Blk W (w.heap.size + 1) tz z
section
variable {w : World} {tz : TypeId} {z : Array Value} {h : Hd} {v : Value} {W W' : World}
theorem RH.start (w : World) (tz : TypeId) (z : Array Value) (h : Hd) (v : Value) : RH w tz z h v ((w.alloc (.cells (arrA h v) 72)).alloc (.cells z tz)) := by
  refine ⟨((Kept.refl Nil w).alloc _).alloc _, (Blk.new w _ _).alloc _, ?_⟩
  have := Blk.new (w.alloc (.cells (arrA h v) 72)) tz z
  simpa using this
theorem RH.step (r : RH w tz z h v W) (k : Kept Nil W W') : RH w tz z h v W' := ⟨r.kept.trans k (fun _ _ g => g), r.b0.kept k id, r.b1.kept k id⟩
theorem RH.alloc (r : RH w tz z h v W) (o : Obj) : RH w tz z h v (W.alloc o) := r.step ((Kept.refl Nil W).alloc o)
theorem RH.drew (r : RH w tz z h v W) : RH w tz z h v W.drew := r.step ((Kept.refl Nil W).drew)
theorem RH.far {F : Nat → Prop} (r : RH w tz z h v W) (k : Kept F W W') (hF : ∀ i, F i → w.heap.size + 1 < i) : RH w tz z h v W' :=
  ⟨r.kept.trans k (fun i hi g => by have := hF i g; omega), r.b0.kept k (fun g => by have := hF _ g; omega), r.b1.kept k (fun g => by have := hF _ g; omega)⟩
theorem RH.set_ (r : RH w tz z h v W) {X : Nat} (hX : w.heap.size + 1 < X) (i : Nat) (u : Value) : RH w tz z h v (W.setCell ⟨X, i, none⟩ u) :=
  ⟨r.kept.setCell _ (.inr (by show w.heap.size ≤ X; omega)) _, r.b0.far (by show w.heap.size ≠ X; omega) _, r.b1.far (by show w.heap.size + 1 ≠ X; omega) _⟩
theorem RH.set8 (r : RH w tz z h v W) {X : Nat} (hX : w.heap.size + 1 < X) (v0 v1 v2 v3 v4 v5 v6 v7 : Value) : RH w tz z h v ((((((((W.setCell ⟨X, 0, none⟩ v0).setCell ⟨X, 1, none⟩ v1).setCell ⟨X, 2, none⟩ v2).setCell ⟨X, 3, none⟩ v3).setCell ⟨X, 4, none⟩ v4).setCell ⟨X, 5, none⟩ v5).setCell ⟨X, 6, none⟩ v6).setCell ⟨X, 7, none⟩ v7) := ((((((((r.set_ hX 0 v0).set_ hX 1 v1).set_ hX 2 v2).set_ hX 3 v3).set_ hX 4 v4).set_ hX 5 v5).set_ hX 6 v6).set_ hX 7 v7)
theorem blk_set8 {X : Nat} {t : TypeId} {c0 c1 c2 c3 c4 c5 c6 c7 : Value} (b : Blk W X t #[c0, c1, c2, c3, c4, c5, c6, c7]) (v0 v1 v2 v3 v4 v5 v6 v7 : Value) : Blk ((((((((W.setCell ⟨X, 0, none⟩ v0).setCell ⟨X, 1, none⟩ v1).setCell ⟨X, 2, none⟩ v2).setCell ⟨X, 3, none⟩ v3).setCell ⟨X, 4, none⟩ v4).setCell ⟨X, 5, none⟩ v5).setCell ⟨X, 6, none⟩ v6).setCell ⟨X, 7, none⟩ v7) X t #[v0, v1, v2, v3, v4, v5, v6, v7] := by
  have := ((((((((b.set_ 0 v0).set_ 1 v1).set_ 2 v2).set_ 3 v3).set_ 4 v4).set_ 5 v5).set_ 6 v6).set_ 7 v7)
  simpa using this
end
/-- One round of building: the child's tree is there in new memory; it is appended, and the new slice is stored. -/
theorem build_round {P : Program} {E : Hd → Value → List Value} (hE : Kind8 E) {t e : TypeId} {i0 : TypeInfo} {z0 : Value} {bytes : Nat} (ht : P.underlying t = some (.slice e)) (hi : P.info? e = some i0) (hz : i0.zero = some z0) (hsize : i0.size = 8) (hby : i0.bytes = bytes) (hzs : z0.cells.size = 8) (hb128 : bytes ≤ 128)
    {w : World} {tz : TypeId} {z : Array Value} {h : Hd} {v0 : Value} {W1 W1' w2 : World} {X : Nat} {cs : Array Value} {ps : List (Sh × Value)} {av : Option Addr} {pl capv : Nat} (hX : w.heap.size + 1 < X)
    (r : RH w tz z h v0 W1) (b : Blk W1 X e cs) (h7 : cs[7]? = some (.slice av pl capv)) (c : CRow E e W1 (X + 1) (.slice av pl capv) ps) (hpl : ps.length = pl) (hl : pl ≤ 5000) (hd1 : Kept Nil W1 W1') (hsz : W1'.heap.size = W1.heap.size) (k2 : Kept Nil W1' w2)
    (s : Sh) (u : Value) (h2 : Holds E w2 (okM W1'.heap.size w2) u s.subs) (nt : TypeId) (arr : Array Value) (harr : arr = (E s.hd u).toArray) :
    w2.cell? ⟨X, 7, none⟩ = some (.slice av pl capv) ∧ X < w2.heap.size ∧ ∃ g cap3 w3, (Builtin.append_ #[t, t] t #[.slice av pl capv, .slice (some ⟨w2.heap.size, 0, none⟩) 1 1]).run P (w2.alloc (.cells arr nt)) = .ok (.slice (some ⟨g, 0, none⟩) (pl + 1) cap3) w3 ∧
      w3.cell? ⟨X, 7, none⟩ = some (.slice av pl capv) ∧ w3.frozen? ⟨X, 7, none⟩ = false ∧
      RH w tz z h v0 (w3.setCell ⟨X, 7, none⟩ (.slice (some ⟨g, 0, none⟩) (pl + 1) cap3)) ∧ Blk (w3.setCell ⟨X, 7, none⟩ (.slice (some ⟨g, 0, none⟩) (pl + 1) cap3)) X e (cs.setIfInBounds 7 (.slice (some ⟨g, 0, none⟩) (pl + 1) cap3)) ∧
      CRow E e (w3.setCell ⟨X, 7, none⟩ (.slice (some ⟨g, 0, none⟩) (pl + 1) cap3)) (X + 1) (.slice (some ⟨g, 0, none⟩) (pl + 1) cap3) (ps ++ [(s, u)]) := by
  have k12 : Kept Nil W1 w2 := hd1.trans k2 (fun _ _ g => g)
  have b2 := b.kept k12 id
  have ka := (Kept.refl Nil w2).alloc (.cells arr nt)
  have hB2 : Blk (w2.alloc (.cells arr nt)) w2.heap.size nt arr := Blk.new _ _ _
  have hX1 := b.lt
  have hX2 := b2.lt
  have hsa : (w2.alloc (.cells arr nt)).heap.size = w2.heap.size + 1 := by simp
  obtain ⟨g, cap3, w3, r3, c3, k3⟩ := CRow.append hE ht hi hz hsize hby hzs hb128 ((c.kept k12).kept ka) (by omega) (by omega) t s u w2.heap.size (fun j x hj => by rw [hB2.cell j, harr]; simpa using hj)
    ((h2.keptN ka).mono (fun b' o hb' => ⟨(hb'.kept ka id).less (by omega), fun eo => by have := c.lt b' eo; have := hb'.1; omega⟩))
  rw [hpl] at r3 c3
  have b3 : Blk w3 X e cs := (b2.alloc _).kept k3 (fun eo => by have := c.base X eo; omega)
  have far3 : RH w tz z h v0 w3 := ((r.step k12).step ka).far k3 (fun i eo => by have := c.base i eo; omega)
  refine ⟨by rw [b2.cell 7]; exact h7, hX2, g, cap3, w3, r3, by rw [b3.cell 7]; exact h7, b3.frozen 7, far3.set_ hX 7 _, b3.set_ 7 _, ?_⟩
  exact c3.keptF ((Kept.refl (fun k => k = X) w3).setCell ⟨X, 7, none⟩ (.inl rfl) _) (fun i e => by omega)
theorem wpList_store_R {ops : Array Oper} {rest : List Oper} {o : Oper} {a : Act} {w : World} {Q : Exit → Act → World → Prop} (hgd : o.guard = none) (x y : Operand) (ho : o.op = .store 77 x y)
    (g : Nat) (h : Hd) (s : Option Addr) (n c : Nat) (hx : a.eval x = .pointer (some ⟨g, 0, none⟩)) (hy : a.eval y = vR h (.slice s n c)) (v0 : Array Value) (h8 : v0.size = 8) (hg : Blk w g 77 v0)
    (hn : ∀ W, Kept (fun k => k = g) w W → Blk W g 77 (arrR h (.slice s n c)) → wpList Try.prog ops Q rest (a.put o.dst undef) W) : wpList Try.prog ops Q (o :: rest) a w :=
  wpList_store_rowW hgd _ x y ho g _ hx hy _ _ hg infoR8 h8 (by simp [Value.oneCell']) hn
/-- The reference's tree of a condition. -/
def RefEnd (hd : Hd) (subs : List Sh) (w : World) (e : Ending) (w' : World) : Prop :=
  ∃ a' cap', e = .returned (vR hd (.slice a' subs.length cap')) ∧ Holds cR w' (okM w.heap.size w') (.slice a' subs.length cap') subs ∧ Kept Nil w w'
abbrev RefIH (subs : List Sh) : Prop := ∀ hd sb, Sh.mk hd sb ∈ subs → ∀ ok a cap w, Holds cA w ok (.slice a sb.length cap) sb →
  Calls Try.prog 28 #[vA hd (.slice a sb.length cap)] w (RefEnd hd sb w)
set_option maxHeartbeats 4000000 in
theorem refT_step (k : Int) (x0 x1 x2 : Bool) (n0 n1 n2 : Int) (subs : List Sh) (len : Nat) (HL : Hid (subs.length = len)) (hLen : len ≤ 5000) (IH : Hid (RefIH subs))
    (ok : Nat → Nat → Prop) (a : Option Addr) (cap : Nat) (w : World) (HH : Hid (Holds cA w ok (.slice a len cap) subs)) :
    Calls Try.prog 28 #[vA ⟨k, x0, x1, x2, n0, n1, n2⟩ (.slice a len cap)] w (RefEnd ⟨k, x0, x1, x2, n0, n1, n2⟩ subs w) := by
  have CR := Lib.hid (fun W => ref_any x0 x1 x2 n0 n1 n2 W)
  go_enter Try.func28, Try.ntmps28
  go_upto_region 1 with fail
  have hne : w.heap.size ≠ w.heap.size + 1 + 1 := by omega
  have SS : Hid (Seen7 w.heap.size k x0 x1 x2 n0 n1 n2 ((w.alloc (.cells (arrA ⟨k, x0, x1, x2, n0, n1, n2⟩ (.slice a len cap)) 72)).alloc (.cells zR 77)).drew) := Lib.hid (Seen7.of (((Blk.new w 72 (arrA ⟨k, x0, x1, x2, n0, n1, n2⟩ (.slice a len cap))).alloc _).drew))
  have hX2 : w.heap.size + 1 < w.heap.size + 1 + 1 := by omega
  have R0 := Lib.hid ((RH.start w 77 zR ⟨k, x0, x1, x2, n0, n1, n2⟩ (.slice a len cap)).drew)
  have R1 := Lib.hid (((RH.start w 77 zR ⟨k, x0, x1, x2, n0, n1, n2⟩ (.slice a len cap)).alloc (.cells zR 77)).drew)
  go_cut [3] from 3 to 11 (fun p wx => ∃ X, p = .pointer (some ⟨X, 0, none⟩) ∧ w.heap.size + 1 < X ∧ Kept Nil w wx ∧ Blk wx w.heap.size 72 (arrA ⟨k, x0, x1, x2, n0, n1, n2⟩ (.slice a len cap)) ∧ Blk wx (w.heap.size + 1) 77 zR ∧ Blk wx X 77 (arrR ⟨k, x0, x1, x2, n0, n1, n2⟩ (.slice none 0 0)))
  case first =>
    go_region_held3 (Seen7 w.heap.size k x0 x1 x2 n0 n1 n2)
      (first | (with_reducible exact SS.out) | (with_reducible exact seen7_set8 hne (by with_reducible assumption)) | (with_reducible exact seen7_kept k7 (by with_reducible assumption)) | (with_reducible exact seen7_alloc _ (by with_reducible assumption)) | (with_reducible exact seen7_da _ (by with_reducible assumption)) | (with_reducible refine seen7_swap ?_ (by with_reducible assumption)) <;> omega)
      (first
        | (go_at_call 49; refine (CR.out _).mono ?_; rintro e w7 ⟨rfl, k7⟩; have z7 : w.heap.size + 1 < w7.heap.size := (by have := k7.size; (try simp at this); omega); first | (with_reducible have A7 := newK k7; have a0 := A7.cell 0; have b0 := A7.frozen 0; (try simp at a0); (try simp at b0); have a1 := A7.cell 1; have b1 := A7.frozen 1; (try simp at a1); (try simp at b1); have a2 := A7.cell 2; have b2 := A7.frozen 2; (try simp at a2); (try simp at b2); have a3 := A7.cell 3; have b3 := A7.frozen 3; (try simp at a3); (try simp at b3); have a4 := A7.cell 4; have b4 := A7.frozen 4; (try simp at a4); (try simp at b4); have a5 := A7.cell 5; have b5 := A7.frozen 5; (try simp at a5); (try simp at b5); have a6 := A7.cell 6; have b6 := A7.frozen 6; (try simp at a6); (try simp at b6); have a7 := A7.cell 7; have b7 := A7.frozen 7; (try simp at a7); (try simp at b7)) | (with_reducible have A7 := newKd k7; have a0 := A7.cell 0; have b0 := A7.frozen 0; (try simp at a0); (try simp at b0); have a1 := A7.cell 1; have b1 := A7.frozen 1; (try simp at a1); (try simp at b1); have a2 := A7.cell 2; have b2 := A7.frozen 2; (try simp at a2); (try simp at b2); have a3 := A7.cell 3; have b3 := A7.frozen 3; (try simp at a3); (try simp at b3); have a4 := A7.cell 4; have b4 := A7.frozen 4; (try simp at a4); (try simp at b4); have a5 := A7.cell 5; have b5 := A7.frozen 5; (try simp at a5); (try simp at b5); have a6 := A7.cell 6; have b6 := A7.frozen 6; (try simp at a6); (try simp at b6); have a7 := A7.cell 7; have b7 := A7.frozen 7; (try simp at a7); (try simp at b7)) | skip))
    all_goals
      first
        | with_reducible have RR := R0.out.step k7
        | with_reducible have RR := R1.out.step k7
      have RR' := Lib.hid RR
      first
        | have AA' : Hid (Blk w7 (w.heap.size + 1 + 1) 77 zR) := Lib.hid (by simpa using A7)
        | skip
      clear RR k7
      go_wp2_with fail
      go_meet
      first
        | with_reducible exact ⟨_, rfl, z7, (RR'.out.alloc _).kept, (RR'.out.alloc _).b0, (RR'.out.alloc _).b1, Blk.new _ _ _⟩
        | with_reducible exact ⟨_, rfl, hX2, (RR'.out.set8 hX2 _ _ _ _ _ _ _ _).kept, (RR'.out.set8 hX2 _ _ _ _ _ _ _ _).b0, (RR'.out.set8 hX2 _ _ _ _ _ _ _ _).b1, blk_set8 AA'.out _ _ _ _ _ _ _ _⟩
  case rest =>
    obtain ⟨X, rfl, hX, kX, bX0, bX1, bX⟩ := hcut
    have RX := Lib.hid (RH.mk kX bX0 bX1 : RH w 77 zR ⟨k, x0, x1, x2, n0, n1, n2⟩ (.slice a len cap) wc)
    have BX := Lib.hid bX
    have c7 := bX0.cell 7
    simp at c7
    clear kX bX0 bX1 bX SS R0 R1 CR
    go_wp2_with fail
    go_loopw [15] (fun i wr => ∃ (j : Nat) (v : Value) (ps : List (Sh × Value)), j ≤ len ∧ i = .int .i64 j ∧ ps.map (·.1) = subs.take j ∧ RH w 77 zR ⟨k, x0, x1, x2, n0, n1, n2⟩ (.slice a len cap) wr ∧ Blk wr X 77 (arrR ⟨k, x0, x1, x2, n0, n1, n2⟩ v) ∧ CRow cR 77 wr (X + 1) v ps) (fun i _ => len - (intOf i).toNat)
    case atStart => exact ⟨0, .slice none 0 0, [], by omega, rfl, rfl, RX.out, BX.out, .nil _ _ _ _⟩
    case round =>
      obtain ⟨j, v, ps, hj, rfl, hps, hR, hB, hC⟩ := hrel
      have HR := Lib.hid hR
      have HB := Lib.hid hB
      have HC := Lib.hid hC
      have HP := Lib.hid hps
      have hXs : X < wr.heap.size := hB.lt
      clear hR hB hC hps RX BX c7
      by_cases hlt : j < len
      · obtain ⟨⟨⟨k', x0', x1', x2', n0', n1', n2'⟩, sb⟩, hx⟩ : ∃ x, subs[j]? = some x := ⟨_, List.getElem?_eq_getElem (by have := HL.out; omega)⟩
        obtain ⟨b, o, a', cap', rfl, hok, hr, hs⟩ := (HH.out.keptN HR.out.kept).at_ hx
        have HX := Lib.hid (IH.out _ _ (List.mem_of_getElem? hx))
        have HRow := Lib.hid hr
        have HS := Lib.hid hs
        have HN : Hid (subs.take (j + 1) = subs.take j ++ [Sh.mk ⟨k', x0', x1', x2', n0', n1', n2'⟩ sb]) := Lib.hid (by rw [List.take_add_one, hx]; rfl)
        clear hx hr hs hok
        have HX2 : Hid (∀ w, Holds cA w ok (.slice a' sb.length cap') sb → Calls Try.prog 28 #[vA ⟨k', x0', x1', x2', n0', n1', n2'⟩ (.slice a' sb.length cap')] w fun e w' => ∃ a2 c2, e = .returned (vR ⟨k', x0', x1', x2', n0', n1', n2'⟩ (.slice a2 sb.length c2)) ∧ Holds cR w' (okM w.heap.size w') (.slice a2 sb.length c2) sb ∧ Kept Nil w w') := Lib.hid fun w h => HX.out ok a' cap' w h
        clear HX
        obtain ⟨av, capv, rfl⟩ := HC.out.shape
        have HPL : Hid (ps.length ≤ 5000) := Lib.hid (by have := congrArg List.length HP.out; rw [List.length_map, List.length_take] at this; omega)
        generalize hl' : sb.length = len' at HRow HS HX2
        clear hl'
        generalize hpl : ps.length = pl at HB HC
        have HPl := Lib.hid hpl
        clear hpl
        go_wp2_with ((with_reducible refine wpList_load_A rfl (.tmp 17) rfl _ _ rfl ⟨k', x0', x1', x2', n0', n1', n2'⟩ (.slice a' len' cap') ?_ ?_)
                     · exact HRow.out)
        obtain ⟨W1, hW1⟩ : ∃ W1, wr.alloc (.cells (arrA ⟨k', x0', x1', x2', n0', n1', n2'⟩ (.slice a' len' cap')) 72) = W1 := ⟨_, rfl⟩
        have KW : Kept Nil wr W1 := by rw [← hW1]; exact (Kept.refl Nil wr).alloc _
        have by0 : Blk W1 wr.heap.size 72 (arrA ⟨k', x0', x1', x2', n0', n1', n2'⟩ (.slice a' len' cap')) := by rw [← hW1]; exact Blk.new _ _ _
        rw [show wr.alloc (.cells #[.int .i64 k', .bool x0', .int .i64 n0', .bool x1', .int .i64 n1', .bool x2', .int .i64 n2', .slice a' len' cap'] 72) = W1 from hW1]
        have RW := Lib.hid (HR.out.step KW)
        have BW := Lib.hid (HB.out.kept KW id)
        have CW1 := Lib.hid (HC.out.kept KW)
        have HSW := Lib.hid (HS.out.keptN KW)
        have hXW : X < W1.heap.size := by have := KW.size; omega
        have e0 := by0.cell 0
        have e1 := by0.cell 1
        have e2 := by0.cell 2
        have e3 := by0.cell 3
        have e4 := by0.cell 4
        have e5 := by0.cell 5
        have e6 := by0.cell 6
        have e7 := by0.cell 7
        have x7 := BW.out.cell 7
        simp at e0 e1 e2 e3 e4 e5 e6 e7 x7
        clear hW1 KW by0 HR HB HC HS HRow hXs
        obtain ⟨i0, hi, hz0, hz1, hz2⟩ := info_parts infoCR
        have RND : Hid (∀ a2 c2 w2, Holds cR w2 (okM W1.drew.heap.size w2) (.slice a2 len' c2) sb → Kept Nil W1.drew w2 → _) := Lib.hid fun a2 c2 w2 h2 k2 =>
          build_round (P := Try.prog) (t := 31) kindR Try.underlying31 hi hz0 hz1 hz2 rfl (by decide) hX RW.out BW.out rfl CW1.out HPl.out (by have := HPl.out; have := HPL.out; omega) ((Kept.refl Nil W1).drew) rfl k2 (.mk ⟨k', x0', x1', x2', n0', n1', n2'⟩ sb) (.slice a2 len' c2) h2 77 (arrR ⟨k', x0', x1', x2', n0', n1', n2'⟩ (.slice a2 len' c2)) rfl
        clear RW BW CW1 hi hz0 hz1 hz2
        go_region_law (first
          | (refine step_append_run rfl (.tmp 20) (.tmp 23) 31 rfl _ _ rfl rfl r3 ?_)
          | (go_simp; go_at_call 28; refine (HX2.out _ (HSW.out.keptN ((Kept.refl Nil _).drew))).mono ?_; rintro e w2 ⟨a2, c2, rfl, h2, k2⟩; obtain ⟨c72, hX2, g, cap3, w3, r3, c73, f73, F1, F2, F3⟩ := RND.out a2 c2 w2 h2 k2; have F1' := Lib.hid F1; have F2' := Lib.hid F2; have F3' := Lib.hid F3; clear F1 F2 F3 h2 k2))
        all_goals
          go_wp2_with fail
          go_roundw
          case rel =>
            refine ⟨j + 1, _, ps ++ [(.mk ⟨k', x0', x1', x2', n0', n1', n2'⟩ sb, .slice a2 len' c2)], by omega, by go_num, ?_, F1'.out, ?_, F3'.out⟩
            · rw [List.map_append, HP.out, HN.out]; rfl
            · exact F2'.out
          case measure => simp [intOf]; omega
      · obtain rfl : j = len := by omega
        have HE : Hid (ps.map (·.1) = subs) := Lib.hid (by rw [HP.out, ← HL.out]; simp)
        obtain ⟨av, capv, rfl⟩ := HC.out.shape
        have HPl : Hid (ps.length = subs.length) := Lib.hid (by rw [← HE.out]; simp)
        rw [HPl.out] at HB HC
        have HL2 := Lib.hid (rfl : subs.length = subs.length)
        generalize hsl : subs.length = sl at HB HC
        have HSl := Lib.hid hsl
        clear hsl
        go_wp2_with (first
          | ((with_reducible refine wpList_load_R rfl (.tmp 3) rfl _ _ rfl ⟨k, x0, x1, x2, n0, n1, n2⟩ (.slice av sl capv) ?_ ?_)
             · exact World.rangeAt_of_block HB.out 0 8)
          | ((with_reducible refine wpList_store_R rfl (.tmp 2) _ rfl _ ⟨k, x0, x1, x2, n0, n1, n2⟩ _ _ _ rfl rfl zR rfl ?_ ?_)
             · exact HR.out.b1
             intro W kW bW
             have KW := Lib.hid kW
             have BW := Lib.hid bW
             clear kW bW))
        refine bodyPost_ret (results_cell_row Try.results28 _ _ _ _ _ _ _ rfl BW.out Try.underlying77 rfl (by kernel_rfl)) rfl ?_
        have hh := HC.out.holds kindR
        rw [HE.out] at hh
        refine ⟨av, capv, by rw [HSl.out], ?_, HR.out.kept.trans KW.out (fun i hi e => by omega)⟩
        rw [HSl.out]
        exact (hh.kept KW.out (fun b o hb e => by have := hb.1; omega)).mono (fun b o hb => (hb.kept KW.out (fun e => by have := hb.1; omega)).less (by omega))
theorem refT_any : ∀ s : Sh, s.count ≤ 5000 → ∀ ok a cap w, Holds cA w ok (.slice a s.subs.length cap) s.subs →
    Calls Try.prog 28 #[vA s.hd (.slice a s.subs.length cap)] w (RefEnd s.hd s.subs w) := by
  refine Sh.ind fun hd subs ih hc ok a cap w h => ?_
  have hc' : 1 + countL subs ≤ 5000 := by simpa [Sh.count] using hc
  have hl := length_countL subs
  exact refT_step hd.k hd.x0 hd.x1 hd.x2 hd.n0 hd.n1 hd.n2 subs _ rfl (by omega) (fun hd' sb hx => ih _ hx (by have := count_mem hx; omega)) ok a cap w h
end
section
open Go.RowKit
set_option maxRecDepth 100000

mutual
/-- The chains of a condition, of conditions, behind a beginning. -/
def Sh.chs : Sh → List Sh → List (List Sh)
  | .mk h subs, ab => (if h.k = 3 then chL subs ab else []) ++ [ab ++ [.mk h subs]]
def chL : List Sh → List Sh → List (List Sh)
  | [], _ => []
  | s :: r, ab => s.chs ab ++ chL r (ab ++ [s])
end
theorem chs_mk (h : Hd) (subs ab : List Sh) : (Sh.mk h subs).chs ab = (if h.k = 3 then chL subs ab else []) ++ [ab ++ [.mk h subs]] := by rw [Sh.chs]
theorem chL_nil (ab : List Sh) : chL [] ab = [] := by rw [chL]
theorem chL_cons (s : Sh) (r ab : List Sh) : chL (s :: r) ab = s.chs ab ++ chL r (ab ++ [s]) := by rw [chL]
theorem chL_append : ∀ a b ab : List Sh, chL (a ++ b) ab = chL a ab ++ chL b (ab ++ a)
  | [], b, ab => by rw [List.nil_append, chL_nil, List.nil_append, List.append_nil]
  | s :: a, b, ab => by rw [List.cons_append, chL_cons, chL_cons, chL_append a b (ab ++ [s]), List.append_assoc, List.append_assoc]; rfl
theorem chL_take_succ {l : List Sh} {j : Nat} {x : Sh} (h : l[j]? = some x) (ab : List Sh) : chL (l.take (j + 1)) ab = chL (l.take j) ab ++ x.chs (ab ++ l.take j) := by
  rw [List.take_add_one, h, chL_append]
  congr 1
  show chL [x] _ = _
  rw [chL_cons, chL_nil, List.append_nil]
theorem chL_len_le : (∀ (s : Sh) (ab : List Sh), (s.chs ab).length ≤ s.count) ∧ ∀ (l ab : List Sh), (chL l ab).length ≤ countL l := by
  refine Sh.ind2 (fun hd subs ih ab => ?_) (fun ab => by simp [chL_nil]) (fun a l ha hl ab => ?_)
  · have := ih ab
    rw [chs_mk, Sh.count, List.length_append]
    split
    · simp; omega
    · simp
  · have h1 := ha ab
    have h2 := hl (ab ++ [a])
    rw [chL_cons, List.length_append, countL]
    omega
theorem chs_last (s : Sh) (ab : List Sh) : (s.chs ab).getLast? = some (ab ++ [s]) := by
  cases s
  rw [chs_mk]
  simp

/-! ### What is right -/
theorem chkL_cons (s : Sh) (r : List Sh) (d : Int) : chkL (s :: r) d = 0 ↔ s.chk d = 0 ∧ chkL r d = 0 := by
  simp only [chkL]
  by_cases h : s.chk d = 0
  · rw [if_neg (by simp [h])]; simp [h]
  · rw [if_pos h]; simp [h]
theorem chkL_all {l : List Sh} {d : Int} : chkL l d = 0 ↔ ∀ s ∈ l, s.chk d = 0 := by
  induction l with
  | nil => simp [chkL]
  | cons a r ih => rw [chkL_cons, ih]; simp
theorem chkL_take {l : List Sh} {d : Int} (h : chkL l d = 0) (n : Nat) : chkL (l.take n) d = 0 := chkL_all.2 fun s hs => chkL_all.1 h s (List.mem_of_mem_take hs)
theorem chk_zero {s : Sh} {d : Int} (h : s.chk d = 0) : (s.hd.k = 3 ∧ s.subs ≠ [] ∧ chkL s.subs (d + 1) = 0) ∨ ((s.hd.k = 1 ∨ s.hd.k = 2) ∧ s.subs = []) := by
  cases s with
  | mk hd subs =>
    simp only [Sh.chk] at h
    show (hd.k = 3 ∧ subs ≠ [] ∧ chkL subs (d + 1) = 0) ∨ ((hd.k = 1 ∨ hd.k = 2) ∧ subs = [])
    by_cases h3 : 3 < d
    · rw [if_pos h3] at h; omega
    · rw [if_neg h3] at h
      by_cases hk : hd.k = 3
      · rw [if_pos hk] at h
        refine .inl ⟨hk, ?_⟩
        by_cases hz : hd.sameT zeroH = false
        · rw [if_pos hz] at h; omega
        · rw [if_neg hz] at h
          by_cases hl : subs.length = 0
          · rw [if_pos hl] at h; omega
          · rw [if_neg hl] at h
            exact ⟨fun e => hl (by rw [e]; rfl), h⟩
      · rw [if_neg hk] at h
        by_cases hk2 : hd.k = 1 ∨ hd.k = 2
        · rw [if_pos hk2] at h
          refine .inr ⟨hk2, ?_⟩
          by_cases hf : hd.fine = false
          · rw [if_pos hf] at h; omega
          · rw [if_neg hf] at h
            by_cases hl : 0 < subs.length
            · rw [if_pos hl] at h; omega
            · exact List.length_eq_zero_iff.1 (by omega)
        · rw [if_neg hk2] at h; omega
theorem chL_len : (∀ (s : Sh) (d : Int) (ab : List Sh), s.chk d = 0 → (s.chs ab).length = s.count) ∧ ∀ (l : List Sh) (d : Int) (ab : List Sh), chkL l d = 0 → (chL l ab).length = countL l := by
  refine Sh.ind2 (fun hd subs ih d ab h => ?_) (fun d ab _ => by simp [chL_nil, countL]) (fun a l ha hl d ab h => ?_)
  · rw [chs_mk, Sh.count, List.length_append]
    rcases chk_zero h with ⟨h3, _, hs⟩ | ⟨hk, he⟩
    · have h3' : hd.k = 3 := h3
      rw [if_pos h3', ih (d + 1) ab hs]; simp; omega
    · have he' : subs = [] := he
      subst he'
      split
      · simp [chL_nil, countL]
      · simp [countL]
  · obtain ⟨h1, h2⟩ := (chkL_cons _ _ _).1 h
    rw [chL_cons, List.length_append, countL, ha d ab h1, hl d (ab ++ [a]) h2]
/-- Which chain a condition ends itself. -/
theorem chL_own {l : List Sh} {d : Int} (ab : List Sh) (h : chkL l d = 0) {i : Nat} (hi : i < l.length) : (chL l ab)[countL (l.take (i + 1)) - 1]? = some (ab ++ l.take (i + 1)) := by
  have hx : l[i]? = some l[i] := List.getElem?_eq_getElem hi
  have hlen := chL_len.2 (l.take (i + 1)) d ab (chkL_take h _)
  have hlast : (chL (l.take (i + 1)) ab).getLast? = some (ab ++ l.take (i + 1)) := by
    rw [chL_take_succ hx, List.getLast?_append, chs_last, Option.some_or, List.append_assoc]
    congr 2
    rw [List.take_add_one, hx]; rfl
  have hpos : 0 < countL (l.take (i + 1)) := by
    have := length_countL (l.take (i + 1))
    rw [List.length_take] at this
    omega
  rw [List.getLast?_eq_getElem?, hlen] at hlast
  have e : chL l ab = chL (l.take (i + 1)) ab ++ chL (l.drop (i + 1)) (ab ++ l.take (i + 1)) := by rw [← chL_append, List.take_append_drop]
  rw [e, List.getElem?_append_left (by omega)]
  exact hlast
/-- Each chain without its last condition is the beginning, or a chain that stands ahead of it. -/
theorem chL_ahead : (∀ (s : Sh) (ab : List Sh) (k : Nat) (x : List Sh), (s.chs ab)[k]? = some x → x ≠ [] ∧ (x.dropLast = ab ∨ ∃ m, m < k ∧ (s.chs ab)[m]? = some x.dropLast)) ∧
    ∀ (l ab : List Sh) (k : Nat) (x : List Sh), (chL l ab)[k]? = some x → x ≠ [] ∧ (x.dropLast = ab ∨ ∃ m, m < k ∧ (chL l ab)[m]? = some x.dropLast) := by
  refine Sh.ind2 (fun hd subs ih ab k x hx => ?_) (fun ab k x hx => by simp [chL_nil] at hx) (fun a l ha hl ab k x hx => ?_)
  · rw [chs_mk] at hx ⊢
    generalize hq : (if hd.k = 3 then chL subs ab else []) = q at *
    by_cases hk : k < q.length
    · rw [List.getElem?_append_left hk] at hx
      by_cases h3 : hd.k = 3
      · rw [if_pos h3] at hq
        subst hq
        obtain ⟨h1, h2⟩ := ih ab k x hx
        refine ⟨h1, h2.imp id fun ⟨m, hm, he⟩ => ⟨m, hm, ?_⟩⟩
        rw [List.getElem?_append_left (by omega)]
        exact he
      · rw [if_neg h3] at hq
        subst hq
        simp at hk
    · rw [List.getElem?_append_right (by omega)] at hx
      have hkl : k - q.length = 0 := by
        have := (List.getElem?_eq_some_iff.1 hx).1
        simp at this; omega
      rw [hkl] at hx
      simp at hx
      subst hx
      exact ⟨by simp, .inl (by simp)⟩
  · rw [chL_cons] at hx ⊢
    by_cases hk : k < (a.chs ab).length
    · rw [List.getElem?_append_left hk] at hx
      obtain ⟨h1, h2⟩ := ha ab k x hx
      refine ⟨h1, h2.imp id fun ⟨m, hm, he⟩ => ⟨m, hm, ?_⟩⟩
      rw [List.getElem?_append_left (by omega)]
      exact he
    · rw [List.getElem?_append_right (by omega)] at hx
      obtain ⟨h1, h2⟩ := hl (ab ++ [a]) _ x hx
      refine ⟨h1, ?_⟩
      rcases h2 with h2 | ⟨m, hm, he⟩
      · have hla := chs_last a ab
        rw [List.getLast?_eq_getElem?] at hla
        have hpos := (List.getElem?_eq_some_iff.1 hla).1
        exact .inr ⟨(a.chs ab).length - 1, by omega, by rw [List.getElem?_append_left hpos, hla, h2]⟩
      · exact .inr ⟨(a.chs ab).length + m, by omega, by rw [List.getElem?_append_right (by omega), show (a.chs ab).length + m - (a.chs ab).length = m by omega]; exact he⟩
/-- A chain of conditions behind nothing: of one condition, or its beginning is a chain ahead of it. -/
theorem chains_ahead {l : List Sh} {k : Nat} {x : List Sh} (h : (chL l [])[k]? = some x) : x ≠ [] ∧ (x.length = 1 ∨ ∃ m, m < k ∧ (chL l [])[m]? = some (x.take (x.length - 1))) := by
  obtain ⟨h1, h2⟩ := chL_ahead.2 l [] k x h
  refine ⟨h1, ?_⟩
  rw [← List.dropLast_eq_take]
  refine h2.imp (fun e => ?_) id
  have := congrArg List.length e
  have h0 : 0 < x.length := List.length_pos_iff.2 h1
  simp at this
  omega
end
section
open Go.RowKit
set_option maxRecDepth 100000

/-! ### append, whatever the elements are -/
structure Els (P : Program) (t e : TypeId) (size : Nat) : Prop where
  ht : P.underlying t = some (.slice e)
  hi : ∃ i z bytes, P.info? e = some i ∧ i.zero = some z ∧ i.size = size ∧ i.bytes = bytes ∧ z.cells.size = size ∧ bytes ≤ 128
  hs : 0 < size
theorem Els.of {P : Program} {t e : TypeId} {size bytes : Nat} {z : Value} (ht : P.underlying t = some (.slice e)) (h : (P.info? e).map (fun i => (i.zero, i.size, i.bytes)) = some (some z, size, bytes)) (hz : z.cells.size = size) (hb : bytes ≤ 128) (hs : 0 < size) : Els P t e size := by
  obtain ⟨i, h1, h2, h3, h4⟩ := info_parts h
  exact ⟨ht, ⟨i, z, bytes, h1, h2, h3, h4, hz, hb⟩, hs⟩
/-- Cells lie at a slice. -/
def At (w : World) (v : Value) (n : Nat) (xs : List Value) : Prop := ∃ a c, v = .slice a n c ∧ (xs = [] ∨ ∃ b o, a = some ⟨b, o, none⟩ ∧ ∀ (j : Nat) x, xs[j]? = some x → w.cell? ⟨b, o + j, none⟩ = some x)
theorem At.kept {F : Nat → Prop} {w w' : World} {v : Value} {n : Nat} {xs : List Value} (h : At w v n xs) (k : Kept F w w') (hF : ∀ b, v.ownBlock = some b → ¬ F b) : At w' v n xs := by
  obtain ⟨a, c, rfl, h⟩ := h
  refine ⟨a, c, rfl, h.imp id fun ⟨b, o, e, hc⟩ => ⟨b, o, e, fun j x hj => ?_⟩⟩
  have := hc j x hj
  rw [k.cell (World.block_lt_of_cell? w _ this) (hF b (by rw [e]; rfl))]
  exact this
theorem At.keptN {w w' : World} {v : Value} {n : Nat} {xs : List Value} (h : At w v n xs) (k : Kept Nil w w') : At w' v n xs := h.kept k (fun _ _ g => g)
theorem At.shape {w : World} {v : Value} {n : Nat} {xs : List Value} (h : At w v n xs) : ∃ a c, v = .slice a n c := by obtain ⟨a, c, e, _⟩ := h; exact ⟨a, c, e⟩
theorem At.own {w : World} {B : Nat} {e : TypeId} {size n : Nat} {v : Value} {xs : List Value} (h : w.ownsRow B e size v n xs) : At w v n xs := by
  rcases h.2 with ⟨e1, e0⟩ | ⟨g, cap, cur, e1, _⟩
  · subst e0
    refine ⟨none, 0, e1, .inl ?_⟩
    have := h.1
    rw [Nat.zero_mul] at this
    exact List.length_eq_zero_iff.1 this
  · subst e1
    refine ⟨_, cap, rfl, .inr ⟨g, 0, rfl, fun j x hj => ?_⟩⟩
    have := h.cells (g := g) rfl j x hj
    rwa [Addr.add_mid] at this
/-- A literal of one element, in new memory. -/
theorem At.lit (w : World) (t : TypeId) (cs : Array Value) (xs : List Value) (hx : cs.toList = xs) : At (w.alloc (.cells cs t)) (.slice (some ⟨w.heap.size, 0, none⟩) 1 1) 1 xs :=
  ⟨_, _, rfl, .inr ⟨_, _, rfl, fun j x hj => by rw [Nat.zero_add, (Blk.new w t cs).cell j, ← hj, ← hx]; simp⟩⟩
theorem append_any {P : Program} {t e : TypeId} {size : Nat} (T : Els P t e size) (ty : TypeId) {w : World} {B : Nat} {v : Value} {n : Nat} {xs : List Value} (h : w.ownsRow B e size v n xs) {u : Value} {m : Nat} {ys : List Value} (hu : At w u m ys) (hl : ys.length = m * size) (h1 : ∀ y ∈ ys, y.oneCell' = true)
    (hle : n + m ≤ 20000) (hB : B ≤ w.heap.size) :
    ∃ v' w', (Builtin.append_ #[t, t] ty #[v, u]).run P w = .ok v' w' ∧ w'.ownsRow B e size v' (n + m) (xs ++ ys) ∧ Kept (fun k => v.ownBlock = some k) w w' ∧ (v'.ownBlock = v.ownBlock ∨ v'.ownBlock = some w.heap.size) := by
  obtain ⟨ht, ⟨i, z, bytes, hi, hz, hsz, hby, hzs, hb128⟩, hs⟩ := T
  obtain ⟨a, c, rfl, hat⟩ := hu
  have main : ∀ ad : Addr, a = some ad → (∀ j x, ys[j]? = some x → w.cell? (ad.add j) = some x) → ∃ v' w', (Builtin.append_ #[t, t] ty #[v, .slice a m c]).run P w = .ok v' w' ∧ w'.ownsRow B e size v' (n + m) (xs ++ ys) ∧ Kept (fun k => v.ownBlock = some k) w w' ∧ (v'.ownBlock = v.ownBlock ∨ v'.ownBlock = some w.heap.size) := by
    intro ad ha hnews
    subst ha
    obtain ⟨v', w', r, o, g, _, h5⟩ := run_append_own_at (P := P) w B t ty e i z size bytes ht hi hz hsz hby hzs hs v n xs h ad m c ys hl hnews h1 (by unfold maxLen; omega) (Nat.le_trans (Nat.mul_le_mul hle hb128) (by decide)) hB
    exact ⟨v', w', r, o, ⟨g.os, g.tape, g.output, g.size, fun k hk hF => g.block k hk (fun e => hF e.symm)⟩, h5⟩
  rcases hat with rfl | ⟨b, o, rfl, hc⟩
  · cases a with
    | none =>
      have hm : m = 0 := by
        rcases Nat.eq_zero_or_pos m with h | h
        · exact h
        · have := Nat.mul_pos h hs
          simp at hl; omega
      subst hm
      refine ⟨v, w, ?_, by simpa using h, Kept.refl _ _, .inl rfl⟩
      rcases h.2 with ⟨rfl, rfl⟩ | ⟨g, cap, cur, rfl, _, _, hnc, _⟩
      · simp [Builtin.append_, run_underlying ht, sizeOf, typeInfo, hi, Builtin.lenOf, Builtin.firstCells]
      · simp [Builtin.append_, run_underlying ht, sizeOf, typeInfo, hi, Builtin.lenOf, Builtin.firstCells, hnc, storeCells]
    | some ad => exact main ad rfl (fun j x hj => by simp at hj)
  · refine main _ rfl (fun j x hj => ?_)
    rw [Addr.add_mid]
    exact hc j x hj
/-- The two ways of append: in place, behind what is there; or in new memory, and nothing is written. -/
theorem append_two {P : Program} {t e : TypeId} {size : Nat} (T : Els P t e size) (ty : TypeId) {w : World} {B : Nat} {v : Value} {n : Nat} {xs : List Value} (h : w.ownsRow B e size v n xs) {a : Addr} {m c : Nat} {ys : List Value} (hl : ys.length = m * size) (hnews : ∀ j x, ys[j]? = some x → w.cell? (a.add j) = some x) (h1 : ∀ y ∈ ys, y.oneCell' = true)
    (hm : 0 < m) (hle : n + m ≤ 20000) {v' : Value} {w' : World} (r : (Builtin.append_ #[t, t] ty #[v, .slice (some a) m c]).run P w = .ok v' w') :
    (∃ g cap, v = .slice (some ⟨g, 0, none⟩) n cap ∧ v' = .slice (some ⟨g, 0, none⟩) (n + m) cap ∧ Kept (fun k => k = g) w w') ∨ (v'.ownBlock = some w.heap.size ∧ Kept Nil w w') := by
  obtain ⟨ht, ⟨i, z, bytes, hi, hz, hsz, hby, hzs, hb128⟩, hs⟩ := T
  subst hsz
  have hbytes : (n + m) * i.bytes ≤ 140737488355328 := Nat.le_trans (Nat.mul_le_mul hle (by omega)) (by decide : 20000 * 128 ≤ 140737488355328)
  rcases h.2 with ⟨rfl, rfl⟩ | ⟨g, cap, cur, rfl, hbg, hg, hnc, hcm, hcs, htake⟩
  · have r' := run_append_nil (P := P) w t ty e i z ht hi hz a m c ys hl hnews hm (by omega) (by rw [Nat.zero_add] at hbytes; omega)
    rw [r] at r'
    injection r' with e1 e2
    subst e1 e2
    exact .inr ⟨rfl, ((Kept.refl Nil w).drew).alloc _⟩
  · by_cases hroom : n + m ≤ cap
    · have hfit : n * i.size + ys.length ≤ cur.size := by rw [hl, hcs, ← Nat.add_mul]; exact Nat.mul_le_mul_right _ hroom
      have r' := run_append_room (P := P) w t ty e i ht hi g n cap cur hg a m c ys hl hnews h1 hroom hfit
      rw [r] at r'
      injection r' with e1 e2
      subst e1 e2
      exact .inl ⟨g, cap, rfl, rfl, Kept.setRow (F := fun k => k = g) (Kept.refl _ w) g (.inl rfl) _⟩
    · have holds : ∀ j u, xs[j]? = some u → w.cell? ((⟨g, 0, none⟩ : Addr).add j) = some u := h.cells (g := g) rfl
      have r' := run_append_grow (P := P) w t ty e i z ht hi hz ⟨g, 0, none⟩ n cap xs h.1 holds a m c ys hl hnews (by omega) (by omega) (growslice_fits (by omega) hbytes)
      rw [r] at r'
      injection r' with e1 e2
      subst e1 e2
      exact .inr ⟨rfl, ((Kept.refl Nil w).drew).alloc _⟩
/-- The head of an own row is one itself. -/
theorem ownsRow_head {w : World} {B e size n k c : Nat} {a : Option Addr} {xs ys : List Value} (h : w.ownsRow B e size (.slice a k c) k (xs ++ ys)) (hx : xs.length = n * size) (hnk : n ≤ k) : w.ownsRow B e size (.slice a n c) n xs := by
  refine ⟨hx, ?_⟩
  rcases h.2 with ⟨e1, e0⟩ | ⟨g, cap, cur, e1, hb, hg, hn, hm, hc, ht⟩
  · cases e1
    have : n = 0 := by omega
    exact .inl ⟨by rw [this], this⟩
  · cases e1
    refine .inr ⟨g, c, cur, rfl, hb, hg, by omega, hm, hc, ?_⟩
    have h2 := congrArg (List.take (n * size)) ht
    rw [List.take_take, Nat.min_eq_left (Nat.mul_le_mul_right _ hnk)] at h2
    rw [h2, List.take_append_of_le_length (by omega), List.take_of_length_le (by omega)]

/-! ### Conditions as pairs -/
abbrev Prs := List (Sh × Value)
/-- The trees of pairs. -/
def tr (ps : Prs) : List Sh := ps.map (·.1)
theorem tr_len (ps : Prs) : (tr ps).length = ps.length := by unfold tr; simp
theorem tr_append (a b : Prs) : tr (a ++ b) = tr a ++ tr b := by unfold tr; simp
/-- What hangs on each lies in memory. -/
def Kids (E : Hd → Value → List Value) (w : World) (ok : Nat → Nat → Prop) (ps : Prs) : Prop := ∀ p ∈ ps, Holds E w ok p.2 p.1.subs
abbrev Lies (E : Hd → Value → List Value) (w : World) (v : Value) (ps : Prs) : Prop := At w v ps.length (flatC E ps)
abbrev ORow (E : Hd → Value → List Value) (e : TypeId) (w : World) (B : Nat) (v : Value) (ps : Prs) : Prop := w.ownsRow B e 8 v ps.length (flatC E ps)
section
variable {E : Hd → Value → List Value} {e : TypeId} {w w' : World} {B : Nat} {v u : Value} {ps qs : Prs} {ok : Nat → Nat → Prop}
theorem flatC_append (ps qs : Prs) : flatC E (ps ++ qs) = flatC E ps ++ flatC E qs := by unfold flatC; simp
theorem Kids.kept {F : Nat → Prop} (h : Kids E w ok ps) (k : Kept F w w') (hF : ∀ b o, ok b o → ¬ F b) : Kids E w' ok ps := fun p hp => (h p hp).kept k hF
theorem Kids.append (h : Kids E w ok ps) (h' : Kids E w ok qs) : Kids E w ok (ps ++ qs) := fun p hp => (List.mem_append.1 hp).elim (h p) (h' p)
theorem Kids.nil : Kids E w ok [] := fun p hp => by cases hp
theorem Kids.take (h : Kids E w ok ps) (n : Nat) : Kids E w ok (ps.take n) := fun p hp => h p (List.mem_of_mem_take hp)
theorem Kids.one (h : Kids E w ok ps) (hE : Kind8 E) : ∀ y ∈ flatC E ps, y.oneCell' = true := by
  intro y hy
  obtain ⟨p, hp, hy⟩ := List.mem_flatMap.1 hy
  exact hE.one _ _ (h p hp).one y hy
theorem flatC_split (hE : Kind8 E) {j : Nat} {x : Value} (h : (flatC E ps)[j]? = some x) : ∃ i p, ps[i]? = some p ∧ j = i * 8 + (j - i * 8) ∧ j - i * 8 < 8 ∧ (E p.1.hd p.2)[j - i * 8]? = some x := by
  have hj := (List.getElem?_eq_some_iff.1 h).1
  rw [flatC_len hE] at hj
  have hi : j / 8 < ps.length := by omega
  refine ⟨j / 8, ps[j / 8], List.getElem?_eq_getElem hi, by omega, by omega, ?_⟩
  rw [← flatC_get hE ps (j / 8) (j - j / 8 * 8) _ (List.getElem?_eq_getElem hi) (by omega), show j / 8 * 8 + (j - j / 8 * 8) = j by omega]
  exact h
theorem flatC_take (hE : Kind8 E) (n : Nat) : flatC E (ps.take n) = (flatC E ps).take (n * 8) := by
  have e1 : flatC E ps = flatC E (ps.take n) ++ flatC E (ps.drop n) := by rw [← flatC_append, List.take_append_drop]
  by_cases hn : n ≤ ps.length
  · conv => rhs; rw [e1]
    rw [List.take_append_of_le_length (by rw [flatC_len hE, List.length_take]; omega)]
    exact (List.take_of_length_le (by rw [flatC_len hE, List.length_take]; omega)).symm
  · rw [List.take_of_length_le (by omega), List.take_of_length_le (by rw [flatC_len hE]; omega)]
/-- The pairs of what a slice holds. -/
theorem Holds.pairs (hE : Kind8 E) {l : List Sh} (h : Holds E w ok v l) : ∃ ps : Prs, tr ps = l ∧ Lies E w v ps ∧ Kids E w ok ps := by
  cases h with
  | nil a cap => exact ⟨[], rfl, ⟨a, cap, rfl, .inl rfl⟩, Kids.nil⟩
  | row b o cap _ u hn hok hr hs =>
    have hg : ∀ i, (l.zipIdx.map fun q => (q.1, u q.2))[i]? = (l[i]?).map fun x => (x, u i) := fun i => by simp only [List.getElem?_map, List.getElem?_zipIdx, Nat.zero_add, Option.map_map]; rfl
    have hl : (l.zipIdx.map fun q => (q.1, u q.2)).length = l.length := by simp
    refine ⟨l.zipIdx.map fun q => (q.1, u q.2), ?_, ⟨_, cap, by rw [hl], .inr ⟨b, o, rfl, fun j x hj => ?_⟩⟩, fun p hp => ?_⟩
    · apply List.ext_getElem?
      intro i
      unfold tr
      rw [List.getElem?_map, hg]
      cases l[i]? <;> rfl
    · obtain ⟨i, p, hp, e, hlt, hx⟩ := flatC_split hE hj
      rw [hg] at hp
      obtain ⟨s, hs', rfl⟩ := Option.map_eq_some_iff.1 hp
      have := hr i s hs' _ x hx
      rwa [show o + i * 8 + (j - i * 8) = o + j by omega] at this
    · obtain ⟨i, hi⟩ := List.getElem?_of_mem hp
      rw [hg] at hi
      obtain ⟨s, hs', rfl⟩ := Option.map_eq_some_iff.1 hi
      exact hs i s hs'
/-- Pairs that lie at a slice are what it holds. -/
theorem Lies.holds (hE : Kind8 E) {a : Option Addr} {n cap : Nat} (h : Lies E w (.slice a n cap) ps) (hk : Kids E w ok ps) (hc : n ≤ cap) (hok : ∀ b o, a = some ⟨b, o, none⟩ → ok b o) : Holds E w ok (.slice a n cap) (tr ps) := by
  obtain ⟨a', c', e1, h⟩ := h
  cases e1
  rcases Nat.eq_zero_or_pos ps.length with h0 | hpos
  · obtain rfl := List.length_eq_zero_iff.1 h0
    exact .nil _ _
  · rcases h with h | ⟨b, o, rfl, h⟩
    · have := congrArg List.length h
      rw [flatC_len hE] at this
      simp at this; omega
    · have key := Holds.row (E := E) (w := w) (ok := ok) b o cap (tr ps) (fun i => match ps[i]? with | some p => p.2 | none => undef) (by rw [tr_len]; exact hc) (hok b o rfl)
      rw [tr_len] at key
      refine key (fun i x hi => ?_) (fun i x hi => ?_)
      · unfold tr at hi
        rw [List.getElem?_map] at hi
        obtain ⟨p, hp, rfl⟩ := Option.map_eq_some_iff.1 hi
        rw [hp]
        intro j y hj
        have hj8 : j < 8 := by have := (List.getElem?_eq_some_iff.1 hj).1; rwa [hE.len] at this
        have := h (i * 8 + j) y (by rw [flatC_get hE ps i j p hp hj8]; exact hj)
        rwa [show o + (i * 8 + j) = o + i * 8 + j by omega] at this
      · unfold tr at hi
        rw [List.getElem?_map] at hi
        obtain ⟨p, hp, rfl⟩ := Option.map_eq_some_iff.1 hi
        rw [hp]
        exact hk p (List.mem_of_getElem? hp)
theorem Lies.at_ (hE : Kind8 E) {a : Option Addr} {n cap : Nat} (h : Lies E w (.slice a n cap) ps) {j : Nat} {q : Sh × Value} (hq : ps[j]? = some q) : ∃ b o, a = some ⟨b, o, none⟩ ∧ w.rangeAt b (o + j * 8) (E q.1.hd q.2) := by
  obtain ⟨a', c', e1, h⟩ := h
  cases e1
  have hj := (List.getElem?_eq_some_iff.1 hq).1
  rcases h with h | ⟨b, o, e, h⟩
  · have := congrArg List.length h
    rw [flatC_len hE] at this
    simp at this; omega
  · refine ⟨b, o, e, fun i x hi => ?_⟩
    have hi8 : i < 8 := by have := (List.getElem?_eq_some_iff.1 hi).1; rwa [hE.len] at this
    have := h (j * 8 + i) x (by rw [flatC_get hE ps j i q hq hi8]; exact hi)
    rwa [show o + (j * 8 + i) = o + j * 8 + i by omega] at this
/-- The first of them. -/
theorem Lies.first (hE : Kind8 E) {a : Option Addr} {n cap : Nat} (h : Lies E w (.slice a n cap) ps) {k : Nat} (hk : k ≤ n) : Lies E w (.slice a k cap) (ps.take k) := by
  obtain ⟨a', c', e1, h⟩ := h
  cases e1
  refine ⟨a, cap, by rw [List.length_take, Nat.min_eq_left hk], ?_⟩
  rcases h with h | ⟨b, o, e, h⟩
  · left
    rw [flatC_take hE, h]; simp
  · refine .inr ⟨b, o, e, fun j x hj => h j x ?_⟩
    rw [flatC_take hE, List.getElem?_take] at hj
    split at hj
    · exact hj
    · cases hj
theorem Holds.first {a : Option Addr} {n cap : Nat} {l : List Sh} (h : Holds E w ok (.slice a n cap) l) {k : Nat} (hk : k ≤ n) : Holds E w ok (.slice a k cap) (l.take k) := by
  obtain ⟨hn, hc⟩ := h.fits
  generalize e : Value.slice a n cap = v at h
  cases h with
  | nil a' cap' =>
    cases e
    have : k = 0 := by simpa using hk
    subst this
    exact .nil _ _
  | row b o cap' _ u hn' hok hr hs =>
    cases e
    have hl : (l.take k).length = k := by rw [List.length_take]; omega
    have := Holds.row (E := E) (w := w) (ok := ok) b o cap (l.take k) u (by omega) hok (fun i x hi => hr i x (by
      rw [List.getElem?_take] at hi
      split at hi
      · exact hi
      · cases hi)) (fun i x hi => hs i x (by
      rw [List.getElem?_take] at hi
      split at hi
      · exact hi
      · cases hi))
    rwa [hl] at this
theorem ORow.nil (w : World) : ORow E e w B (.slice none 0 0) [] := World.ownsRow_nil _ _ _ _
theorem ORow.append {P : Program} {t : TypeId} (T : Els P t e 8) (hE : Kind8 E) (ty : TypeId) (h : ORow E e w B v ps) (hu : Lies E w u qs) (hk : Kids E w ok qs) (hl : ps.length + qs.length ≤ 20000) (hB : B ≤ w.heap.size) :
    ∃ v' w', (Builtin.append_ #[t, t] ty #[v, u]).run P w = .ok v' w' ∧ ORow E e w' B v' (ps ++ qs) ∧ Kept (fun k => v.ownBlock = some k) w w' ∧ (v'.ownBlock = v.ownBlock ∨ v'.ownBlock = some w.heap.size) := by
  obtain ⟨v', w', r, o, k, h5⟩ := append_any T ty h hu (flatC_len hE qs) (hk.one hE) hl hB
  exact ⟨v', w', r, by show World.ownsRow _ _ _ _ _ _ _; rw [flatC_append, List.length_append]; exact o, k, h5⟩
end

/-! ### Lists of slices of conditions -/
section
variable {E : Hd → Value → List Value} {e t : TypeId} {w w' : World} {B : Nat} {v u : Value} {ps qs : Prs} {ok : Nat → Nat → Prop} {p : Nat → Prop} {ws vs : List Prs}
/-- A slice of conditions in a block of its own; what hangs on them lies elsewhere. -/
def Kid (E : Hd → Value → List Value) (e : TypeId) (w : World) (ok : Nat → Nat → Prop) (p : Nat → Prop) (u : Value) (ps : Prs) : Prop :=
  ∃ g c cs, u = .slice (some ⟨g, 0, none⟩) ps.length c ∧ ps.length ≤ c ∧ p g ∧ Blk w g e cs ∧ (∀ (j : Nat) x, (flatC E ps)[j]? = some x → cs[j]? = some x) ∧ Kids E w ok ps
theorem Kid.kept {F : Nat → Prop} (h : Kid E e w ok p u ps) (k : Kept F w w') (hF : ∀ g cs, Blk w g e cs → p g → ¬ F g) (ho : ∀ b o, ok b o → ¬ F b) : Kid E e w' ok p u ps := by
  obtain ⟨g, c, cs, e1, hc, hp, hb, hx, hk⟩ := h
  exact ⟨g, c, cs, e1, hc, hp, hb.kept k (hF g cs hb hp), hx, hk.kept k ho⟩
theorem Kid.mono {q : Nat → Prop} (h : Kid E e w ok p u ps) (hq : ∀ g cs, Blk w g e cs → p g → q g) : Kid E e w ok q u ps := by
  obtain ⟨g, c, cs, e1, hc, hp, hb, r⟩ := h
  exact ⟨g, c, cs, e1, hc, hq g cs hb hp, hb, r⟩
theorem Kid.shape (h : Kid E e w ok p u ps) : ∃ g c, u = .slice (some ⟨g, 0, none⟩) ps.length c ∧ ps.length ≤ c ∧ p g := by
  obtain ⟨g, c, cs, e1, hc, hp, _⟩ := h
  exact ⟨g, c, e1, hc, hp⟩
theorem Kid.lies (h : Kid E e w ok p u ps) : Lies E w u ps := by
  obtain ⟨g, c, cs, e1, hc, hp, hb, hx, _⟩ := h
  exact ⟨_, c, e1, .inr ⟨g, 0, rfl, fun j x hj => by rw [hb.cell, Nat.zero_add]; exact hx j x hj⟩⟩
theorem Kid.lt (h : Kid E e w ok p u ps) : ∀ k, u.ownBlock = some k → k < w.heap.size ∧ p k := by
  obtain ⟨g, c, cs, e1, hc, hp, hb, _⟩ := h
  intro k hk
  rw [e1] at hk
  cases hk
  exact ⟨hb.lt, hp⟩
/-- An own row that is none too short, as a slice of its own. -/
theorem ORow.kid (h : ORow E e w B v ps) (h0 : 0 < ps.length) (hk : Kids E w ok ps) (hp : ∀ g, v.ownBlock = some g → B ≤ g → p g) : Kid E e w ok p v ps := by
  rcases h.2 with ⟨_, e0⟩ | ⟨g, cap, cur, e1, hb, hg, hn, hm, hc, ht⟩
  · omega
  · refine ⟨g, cap, cur, e1, hn, hp g (by rw [e1]; rfl) hb, hg, fun j x hj => ?_, hk⟩
    have := congrArg (fun l => l[j]?) ht
    simp only [hj] at this
    rw [List.getElem?_take] at this
    split at this
    · simpa using this
    · cases this
/-- A row of the call's own that holds slices of conditions. -/
def LRow (E : Hd → Value → List Value) (e t : TypeId) (w : World) (ok : Nat → Nat → Prop) (B : Nat) (p : Nat → Prop) (v : Value) (ws : List Prs) : Prop :=
  ∃ vals : List Value, w.ownsRow B t 1 v ws.length vals ∧ ∀ (i : Nat) ps u, ws[i]? = some ps → vals[i]? = some u → Kid E e w ok p u ps
theorem ownsBlk {n size : Nat} {xs : List Value} (h : w.ownsRow B t size v n xs) : ∀ k, v.ownBlock = some k → B ≤ k ∧ ∃ cur, Blk w k t cur := by
  intro k hk
  rcases h.2 with ⟨e, _⟩ | ⟨g, cap, cur, e, hb, hg, _⟩
  · rw [e] at hk; cases hk
  · rw [e] at hk; cases hk; exact ⟨hb, cur, hg⟩
theorem blk_type {g : Nat} {t t' : TypeId} {cs cs' : Array Value} (h : Blk w g t cs) (h' : Blk w g t' cs') : t = t' := by
  unfold Blk at h h'
  rw [h] at h'
  cases h'
  rfl
theorem LRow.nil (w : World) : LRow E e t w ok B p (.slice none 0 0) [] := ⟨[], World.ownsRow_nil _ _ _ _, fun i ps u h => by simp at h⟩
theorem LRow.own (h : LRow E e t w ok B p v ws) : ∀ k, v.ownBlock = some k → B ≤ k ∧ k < w.heap.size ∧ ∃ cs, Blk w k t cs := by
  obtain ⟨vals, ho, _⟩ := h
  intro k hk
  obtain ⟨h1, cur, h2⟩ := ownsBlk ho k hk
  exact ⟨h1, h2.lt, cur, h2⟩
theorem LRow.shape (h : LRow E e t w ok B p v ws) : ∃ a cap, v = .slice a ws.length cap := by
  obtain ⟨vals, ho, _⟩ := h
  rcases ho.2 with ⟨e, e0⟩ | ⟨g, cap, cur, e, _⟩
  · exact ⟨none, 0, by rw [e, e0]⟩
  · exact ⟨_, cap, e⟩
theorem LRow.kept {F : Nat → Prop} (h : LRow E e t w ok B p v ws) (k : Kept F w w') (hv : ∀ g, v.ownBlock = some g → ¬ F g) (hF : ∀ g cs, Blk w g e cs → p g → ¬ F g) (ho : ∀ b o, ok b o → ¬ F b) : LRow E e t w' ok B p v ws := by
  obtain ⟨vals, hr, hk⟩ := h
  exact ⟨vals, Kept.row k hr hv, fun i ps u h1 h2 => (hk i ps u h1 h2).kept k hF ho⟩
theorem LRow.keptN (h : LRow E e t w ok B p v ws) (k : Kept Nil w w') : LRow E e t w' ok B p v ws := h.kept k (fun _ _ g => g) (fun _ _ _ _ g => g) (fun _ _ _ g => g)
theorem LRow.mono {q : Nat → Prop} (h : LRow E e t w ok B p v ws) (hq : ∀ g cs, Blk w g e cs → p g → q g) : LRow E e t w ok B q v ws := by
  obtain ⟨vals, hr, hk⟩ := h
  exact ⟨vals, hr, fun i ps u h1 h2 => (hk i ps u h1 h2).mono hq⟩
theorem LRow.append {P : Program} {tt : TypeId} (T : Els P tt t 1) (hte : t ≠ e) (ty : TypeId) (h : LRow E e t w ok B p v ws) {us : List Value} (hu : At w u vs.length us) (hul : us.length = vs.length) (hus : ∀ (i : Nat) ps x, vs[i]? = some ps → us[i]? = some x → Kid E e w ok p x ps) (hl : ws.length + vs.length ≤ 20000) (hB : B ≤ w.heap.size) (hok : ∀ b o, ok b o → b < B) :
    ∃ v' w', (Builtin.append_ #[tt, tt] ty #[v, u]).run P w = .ok v' w' ∧ LRow E e t w' ok B p v' (ws ++ vs) ∧ Kept (fun k => v.ownBlock = some k) w w' ∧ (v'.ownBlock = v.ownBlock ∨ v'.ownBlock = some w.heap.size) := by
  obtain ⟨vals, ho, hk⟩ := h
  have hlen : vals.length = ws.length := by have := ho.1; omega
  obtain ⟨v', w', r, o, k, h5⟩ := append_any T ty ho hu (by omega) (fun y hy => by
    obtain ⟨j, hj⟩ := List.getElem?_of_mem hy
    have hjl := (List.getElem?_eq_some_iff.1 hj).1
    obtain ⟨g, c, e1, _⟩ := (hus j vs[j] y (List.getElem?_eq_getElem (by omega)) hj).shape
    rw [e1]; rfl) hl hB
  have keep : ∀ x y, Kid E e w ok p x y → Kid E e w' ok p x y := fun x y hx => hx.kept k (fun g cs hb _ hf => by
    obtain ⟨_, cur, hc⟩ := ownsBlk ho g hf
    exact hte (blk_type hc hb)) (fun b o hb hf => by have := (ownsBlk ho b hf).1; have := hok b o hb; omega)
  refine ⟨v', w', r, ⟨vals ++ us, by rw [List.length_append]; exact o, fun i ps x h1 h2 => ?_⟩, k, h5⟩
  by_cases hil : i < ws.length
  · rw [List.getElem?_append_left hil] at h1
    rw [List.getElem?_append_left (by omega)] at h2
    exact keep _ _ (hk i ps x h1 h2)
  · rw [List.getElem?_append_right (by omega)] at h1 h2
    rw [hlen] at h2
    exact keep _ _ (hus _ ps x h1 h2)
/-- One slice more. -/
theorem LRow.append_one {P : Program} {tt : TypeId} (T : Els P tt t 1) (hte : t ≠ e) (ty : TypeId) (h : LRow E e t w ok B p v ws) (hu : Kid E e w ok p u ps) (hl : ws.length ≤ 10000) (hB : B ≤ w.heap.size) (hok : ∀ b o, ok b o → b < B) :
    ∃ v' w', (Builtin.append_ #[tt, tt] ty #[v, .slice (some ⟨w.heap.size, 0, none⟩) 1 1]).run P (w.alloc (.cells #[u] t)) = .ok v' w' ∧ LRow E e t w' ok B p v' (ws ++ [ps]) ∧ Kept (fun k => v.ownBlock = some k) w w' ∧ (v'.ownBlock = v.ownBlock ∨ v'.ownBlock = some (w.heap.size + 1)) := by
  have ka := (Kept.refl Nil w).alloc (.cells #[u] t)
  obtain ⟨v', w', r, o, k, h5⟩ := LRow.append (vs := [ps]) T hte ty (h.keptN ka) (At.lit w t #[u] [u] rfl) rfl (fun i qs x h1 h2 => by
    have : i = 0 := by have := (List.getElem?_eq_some_iff.1 h1).1; simp at this; omega
    subst this
    simp at h1 h2
    subst h1 h2
    exact hu.kept ka (fun _ _ _ _ g => g) (fun _ _ _ g => g)) (by simp; omega) (by simp; omega) hok
  exact ⟨v', w', r, o, (ka.mono (fun _ _ g => g.elim)).trans k (fun _ _ g => g), by simpa using h5⟩
/-- All slices of another list. -/
theorem LRow.append_all {P : Program} {tt : TypeId} (T : Els P tt t 1) (hte : t ≠ e) (ty : TypeId) {B2 : Nat} {q : Nat → Prop} (h : LRow E e t w ok B p v ws) (h2 : LRow E e t w ok B2 q u vs) (hq : ∀ g cs, Blk w g e cs → q g → p g) (hl : ws.length + vs.length ≤ 20000) (hB : B ≤ w.heap.size) (hok : ∀ b o, ok b o → b < B) :
    ∃ v' w', (Builtin.append_ #[tt, tt] ty #[v, u]).run P w = .ok v' w' ∧ LRow E e t w' ok B p v' (ws ++ vs) ∧ Kept (fun k => v.ownBlock = some k) w w' ∧ (v'.ownBlock = v.ownBlock ∨ v'.ownBlock = some w.heap.size) := by
  obtain ⟨vals, ho, hk⟩ := h2
  exact LRow.append T hte ty h (At.own ho) (by have := ho.1; omega) (fun i ps x h1 h2 => (hk i ps x h1 h2).mono hq) hl hB hok
end

/-! ### What a law sees of such a list -/
/-- A list of slices of conditions, in memory. -/
def Lists (E : Hd → Value → List Value) (w : World) (ok : Nat → Nat → Prop) (v : Value) (L : List (List Sh)) : Prop :=
  ∃ a cap, v = .slice a L.length cap ∧ L.length ≤ cap ∧ ∀ (i : Nat) x, L[i]? = some x → ∃ g b c, a = some ⟨g, 0, none⟩ ∧ w.cell? ⟨g, i, none⟩ = some (.slice b x.length c) ∧ Holds E w ok (.slice b x.length c) x
section
variable {E : Hd → Value → List Value} {e t : TypeId} {w w' : World} {B : Nat} {v u : Value} {ok ok' : Nat → Nat → Prop} {p : Nat → Prop} {ws : List Prs} {L : List (List Sh)}
theorem Lists.kept (h : Lists E w ok v L) (k : Kept Nil w w') : Lists E w' ok v L := by
  obtain ⟨a, cap, e1, hc, hx⟩ := h
  refine ⟨a, cap, e1, hc, fun i x hi => ?_⟩
  obtain ⟨g, b, c, e2, h1, h2⟩ := hx i x hi
  exact ⟨g, b, c, e2, k.cellOf h1, h2.keptN k⟩
theorem LRow.lists (hE : Kind8 E) (h : LRow E e t w ok B p v ws) (ho : ∀ b o, ok b o → ok' b o) (hp : ∀ g, p g → g < w.heap.size → ok' g 0) : Lists E w ok' v (ws.map tr) := by
  obtain ⟨vals, hr, hk⟩ := h
  have hlen : vals.length = ws.length := by have := hr.1; omega
  have hl : (ws.map tr).length = ws.length := by simp
  rcases hr.2 with ⟨e1, e0⟩ | ⟨g, cap, cur, e1, hb, hg, hn, _⟩
  · obtain rfl := List.length_eq_zero_iff.1 e0
    exact ⟨none, 0, e1, Nat.zero_le _, fun i x hi => by simp at hi⟩
  · refine ⟨_, cap, by rw [hl]; exact e1, by rw [hl]; exact hn, fun i x hi => ?_⟩
    rw [List.getElem?_map] at hi
    obtain ⟨ps, hps, rfl⟩ := Option.map_eq_some_iff.1 hi
    have hil := (List.getElem?_eq_some_iff.1 hps).1
    have hv : vals[i]? = some vals[i] := List.getElem?_eq_getElem (by omega)
    have kd := hk i ps _ hps hv
    obtain ⟨g2, c, e2, hc2, hp2⟩ := kd.shape
    have hcell := hr.cells (g := g) (by rw [e1]; rfl) i _ hv
    rw [Addr.add_mid, Nat.zero_add, e2] at hcell
    have hli := kd.lies
    rw [e2] at hli
    have hlt := (kd.lt g2 (by rw [e2]; rfl)).1
    obtain ⟨_, _, _, _, _, _, _, _, hkk⟩ := kd
    refine ⟨g, _, c, rfl, by rw [tr_len]; exact hcell, ?_⟩
    rw [tr_len]
    exact Lies.holds hE hli (fun q hq => (hkk q hq).mono ho) hc2 (fun b o e3 => by cases e3; exact hp g2 hp2 hlt)
end

/-! ### The types of this program -/
theorem elsA : Els Try.prog 22 72 8 := Els.of Try.underlying22 infoCA rfl (by decide) (by decide)
theorem elsR : Els Try.prog 31 77 8 := Els.of Try.underlying31 infoCR rfl (by decide) (by decide)
/-- append, by an equation on its run. -/
theorem wpList_append_run {P : Program} {w : World} {ops : Array Oper} {rest : List Oper} {o : Oper} {a : Act} {Q : Exit → Act → World → Prop} (hgd : o.guard = none) (s x : Operand) (t : TypeId)
    (ho : o.op = .call { callee := .builtin .append, args := #[s, x], argTypes := #[t, t] }) (v y : Value) (hs : a.eval s = v) (hx : a.eval x = y) {v' : Value} {w' : World}
    (hr : (Builtin.append_ #[t, t] o.type #[v, y]).run P w = .ok v' w') (h : wpList P ops Q rest (a.put o.dst v') w') : wpList P ops Q (o :: rest) a w := by
  refine wpList_plain hgd fun K hK => ?_
  unfold Oper.wp execOp
  simp only [ho, resolve, invoke, builtin, Sem.run_bind, Sem.run_pure, Result.andThen_ok, List.map_toArray, List.map_cons, List.map_nil, hs, hx, hr]
  exact hK _ _ h
end
end Go.Proofs.Ytiihjlafhiaigaa
