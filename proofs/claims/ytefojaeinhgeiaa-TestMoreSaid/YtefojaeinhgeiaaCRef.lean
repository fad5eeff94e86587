/- Layer cond: the law's own Ref of a condition: the reference's tree, in new memory. -/
import Derived.Test.YtefojaeinhgeiaaCRow
import Derived.Deep.RegionHeld3
import Derived.Deep.RegionLaw
import Derived.Deep.AppendLies
import Derived.Deep.DeepCutAuto
import Derived.OwnWalk
namespace Go.Proofs.Ytefojaeinhgeiaa
open Go.RowKit
set_option maxRecDepth 100000

abbrev arrR (h : Hd) (v : Value) : Array Value := #[.int .i64 h.k, .int .i64 (isV h.x0), .int .i64 h.n0, .int .i64 (isV h.x1), .int .i64 h.n1, .int .i64 (isV h.x2), .int .i64 h.n2, v]
abbrev zR : Array Value := #[.int .i64 0, .int .i64 0, .int .i64 0, .int .i64 0, .int .i64 0, .int .i64 0, .int .i64 0, .slice none 0 0]
theorem Kept.cellOf {w w' : World} {p : Addr} {v : Value} (k : Kept Nil w w') (h : w.cell? p = some v) : w'.cell? p = some v := by rw [k.cell (World.block_lt_of_cell? w _ h) id]; exact h
/-- What is read in the region that makes the head. -/
abbrev Seen7 (B : Nat) (k : Int) (x0 x1 x2 : Bool) (n0 n1 n2 : Int) (w' : World) : Prop :=
  w'.cell? ⟨B, 0, none⟩ = some (.int .i64 k) ∧ w'.cell? ⟨B, 1, none⟩ = some (.bool x0) ∧ w'.cell? ⟨B, 2, none⟩ = some (.int .i64 n0) ∧ w'.cell? ⟨B, 3, none⟩ = some (.bool x1) ∧ w'.cell? ⟨B, 4, none⟩ = some (.int .i64 n1) ∧ w'.cell? ⟨B, 5, none⟩ = some (.bool x2) ∧ w'.cell? ⟨B, 6, none⟩ = some (.int .i64 n2)
section
variable {B : Nat} {k : Int} {x0 x1 x2 : Bool} {n0 n1 n2 : Int} {w w' : World}
theorem Seen7.of {v : Value} (h : Blk w B 38 (arrA ⟨k, x0, x1, x2, n0, n1, n2⟩ v)) : Seen7 B k x0 x1 x2 n0 n1 n2 w :=
  ⟨h.cell 0, h.cell 1, h.cell 2, h.cell 3, h.cell 4, h.cell 5, h.cell 6⟩
theorem Seen7.move (k0 : ∀ i v, w.cell? ⟨B, i, none⟩ = some v → w'.cell? ⟨B, i, none⟩ = some v) (h : Seen7 B k x0 x1 x2 n0 n1 n2 w) : Seen7 B k x0 x1 x2 n0 n1 n2 w' :=
  ⟨k0 _ _ h.1, k0 _ _ h.2.1, k0 _ _ h.2.2.1, k0 _ _ h.2.2.2.1, k0 _ _ h.2.2.2.2.1, k0 _ _ h.2.2.2.2.2.1, k0 _ _ h.2.2.2.2.2.2⟩
theorem seen7_kept (kk : Kept Nil w w') (h : Seen7 B k x0 x1 x2 n0 n1 n2 w) : Seen7 B k x0 x1 x2 n0 n1 n2 w' := h.move (fun _ _ h => kk.cellOf h)
theorem seen7_alloc (o : Obj) (h : Seen7 B k x0 x1 x2 n0 n1 n2 w) : Seen7 B k x0 x1 x2 n0 n1 n2 (w.alloc o) := seen7_kept ((Kept.refl Nil w).alloc o) h
theorem seen7_da (o : Obj) (h : Seen7 B k x0 x1 x2 n0 n1 n2 w.drew) : Seen7 B k x0 x1 x2 n0 n1 n2 (w.alloc o).drew := seen7_kept ((Kept.refl Nil w.drew).alloc o) h
theorem seen7_swap {o o' : Obj} (h0 : B < w.heap.size) (h : Seen7 B k x0 x1 x2 n0 n1 n2 (w.alloc o)) : Seen7 B k x0 x1 x2 n0 n1 n2 (w.alloc o') :=
  h.move (fun i v h => by rw [World.cell?_alloc_lt w _ _ h0] at *; exact h)
theorem seen7_set {A i : Nat} {v : Value} (h0 : B ≠ A) (h : Seen7 B k x0 x1 x2 n0 n1 n2 w) : Seen7 B k x0 x1 x2 n0 n1 n2 (w.setCell ⟨A, i, none⟩ v) :=
  h.move (fun i v h => by rw [World.cell?_setCell_other w _ _ _ (fun e => h0 (congrArg Addr.block e).symm)]; exact h)
theorem seen7_set8 {A : Nat} {v0 v1 v2 v3 v4 v5 v6 v7 : Value} (h0 : B ≠ A) (h : Seen7 B k x0 x1 x2 n0 n1 n2 w) : Seen7 B k x0 x1 x2 n0 n1 n2 ((((((((w.setCell ⟨A, 0, none⟩ v0).setCell ⟨A, 1, none⟩ v1).setCell ⟨A, 2, none⟩ v2).setCell ⟨A, 3, none⟩ v3).setCell ⟨A, 4, none⟩ v4).setCell ⟨A, 5, none⟩ v5).setCell ⟨A, 6, none⟩ v6).setCell ⟨A, 7, none⟩ v7) := (seen7_set h0 (seen7_set h0 (seen7_set h0 (seen7_set h0 (seen7_set h0 (seen7_set h0 (seen7_set h0 (seen7_set h0 h))))))))
end

theorem newK {w w' : World} {t : TypeId} {cs : Array Value} (k : Kept Nil (w.alloc (.cells cs t)) w') : Blk w' w.heap.size t cs := (Blk.new w t cs).kept k id
theorem newKd {w w' : World} {t : TypeId} {cs : Array Value} (k : Kept Nil (w.alloc (.cells cs t)).drew w') : Blk w' w.heap.size t cs := ((Blk.new w t cs).drew).kept k id
/-- What stands in memory: what came in, boxed; the result's place. -/
structure RH (w : World) (tz : TypeId) (z : Array Value) (h : Hd) (v : Value) (W : World) : Prop where
  kept : Kept Nil w W
  b0 : Blk W w.heap.size 38 (arrA h v)
  b1 : Blk W (w.heap.size + 1) tz z
section
variable {w : World} {tz : TypeId} {z : Array Value} {h : Hd} {v : Value} {W W' : World}
theorem RH.start (w : World) (tz : TypeId) (z : Array Value) (h : Hd) (v : Value) : RH w tz z h v ((w.alloc (.cells (arrA h v) 38)).alloc (.cells z tz)) := by
  refine ⟨((Kept.refl Nil w).alloc _).alloc _, (Blk.new w _ _).alloc _, ?_⟩
  have := Blk.new (w.alloc (.cells (arrA h v) 38)) tz z
  simpa using this
theorem RH.step (r : RH w tz z h v W) (k : Kept Nil W W') : RH w tz z h v W' := ⟨r.kept.trans k (fun _ _ g => g), r.b0.kept k id, r.b1.kept k id⟩
theorem RH.alloc (r : RH w tz z h v W) (o : Obj) : RH w tz z h v (W.alloc o) := r.step ((Kept.refl Nil W).alloc o)
theorem RH.drew (r : RH w tz z h v W) : RH w tz z h v W.drew := r.step ((Kept.refl Nil W).drew)
theorem RH.far {F : Nat → Prop} (r : RH w tz z h v W) (k : Kept F W W') (hF : ∀ i, F i → w.heap.size + 1 < i) : RH w tz z h v W' :=
  ⟨r.kept.trans k (fun i hi g => by have := hF i g; omega), r.b0.kept k (fun g => by have := hF _ g; omega), r.b1.kept k (fun g => by have := hF _ g; omega)⟩
theorem RH.set_ (r : RH w tz z h v W) {X : Nat} (hX : w.heap.size + 1 < X) (i : Nat) (u : Value) : RH w tz z h v (W.setCell ⟨X, i, none⟩ u) :=
  ⟨r.kept.setCell _ (.inr (by show w.heap.size ≤ X; omega)) _, r.b0.far (by show w.heap.size ≠ X; omega) _, r.b1.far (by show w.heap.size + 1 ≠ X; omega) _⟩
theorem RH.set8 (r : RH w tz z h v W) {X : Nat} (hX : w.heap.size + 1 < X) (v0 v1 v2 v3 v4 v5 v6 v7 : Value) : RH w tz z h v ((((((((W.setCell ⟨X, 0, none⟩ v0).setCell ⟨X, 1, none⟩ v1).setCell ⟨X, 2, none⟩ v2).setCell ⟨X, 3, none⟩ v3).setCell ⟨X, 4, none⟩ v4).setCell ⟨X, 5, none⟩ v5).setCell ⟨X, 6, none⟩ v6).setCell ⟨X, 7, none⟩ v7) := ((((((((r.set_ hX 0 v0).set_ hX 1 v1).set_ hX 2 v2).set_ hX 3 v3).set_ hX 4 v4).set_ hX 5 v5).set_ hX 6 v6).set_ hX 7 v7)
theorem blk_set8 {X : Nat} {t : TypeId} {c0 c1 c2 c3 c4 c5 c6 c7 : Value} (b : Blk W X t #[c0, c1, c2, c3, c4, c5, c6, c7]) (v0 v1 v2 v3 v4 v5 v6 v7 : Value) : Blk ((((((((W.setCell ⟨X, 0, none⟩ v0).setCell ⟨X, 1, none⟩ v1).setCell ⟨X, 2, none⟩ v2).setCell ⟨X, 3, none⟩ v3).setCell ⟨X, 4, none⟩ v4).setCell ⟨X, 5, none⟩ v5).setCell ⟨X, 6, none⟩ v6).setCell ⟨X, 7, none⟩ v7) X t #[v0, v1, v2, v3, v4, v5, v6, v7] := by
  have := ((((((((b.set_ 0 v0).set_ 1 v1).set_ 2 v2).set_ 3 v3).set_ 4 v4).set_ 5 v5).set_ 6 v6).set_ 7 v7)
  simpa using this
end
/-- One round of building: the child's tree is there in new memory; it is appended, and the new slice is stored. -/
theorem build_round {P : Program} {E : Hd → Value → List Value} (hE : Kind8 E) {t e : TypeId} {i0 : TypeInfo} {z0 : Value} {bytes : Nat} (ht : P.underlying t = some (.slice e)) (hi : P.info? e = some i0) (hz : i0.zero = some z0) (hsize : i0.size = 8) (hby : i0.bytes = bytes) (hzs : z0.cells.size = 8) (hb128 : bytes ≤ 128)
    {w : World} {tz : TypeId} {z : Array Value} {h : Hd} {v0 : Value} {W1 W1' w2 : World} {X : Nat} {cs : Array Value} {ps : List (Sh × Value)} {av : Option Addr} {pl capv : Nat} (hX : w.heap.size + 1 < X)
    (r : RH w tz z h v0 W1) (b : Blk W1 X e cs) (h7 : cs[7]? = some (.slice av pl capv)) (c : CRow E e W1 (X + 1) (.slice av pl capv) ps) (hpl : ps.length = pl) (hl : pl ≤ 5000) (hd1 : Kept Nil W1 W1') (hsz : W1'.heap.size = W1.heap.size) (k2 : Kept Nil W1' w2)
    (s : Sh) (u : Value) (h2 : Holds E w2 (okM W1'.heap.size w2) u s.subs) (nt : TypeId) (arr : Array Value) (harr : arr = (E s.hd u).toArray) :
    w2.cell? ⟨X, 7, none⟩ = some (.slice av pl capv) ∧ X < w2.heap.size ∧ ∃ g cap3 w3, (Builtin.append_ #[t, t] t #[.slice av pl capv, .slice (some ⟨w2.heap.size, 0, none⟩) 1 1]).run P (w2.alloc (.cells arr nt)) = .ok (.slice (some ⟨g, 0, none⟩) (pl + 1) cap3) w3 ∧
      w3.cell? ⟨X, 7, none⟩ = some (.slice av pl capv) ∧ w3.frozen? ⟨X, 7, none⟩ = false ∧
      RH w tz z h v0 (w3.setCell ⟨X, 7, none⟩ (.slice (some ⟨g, 0, none⟩) (pl + 1) cap3)) ∧ Blk (w3.setCell ⟨X, 7, none⟩ (.slice (some ⟨g, 0, none⟩) (pl + 1) cap3)) X e (cs.setIfInBounds 7 (.slice (some ⟨g, 0, none⟩) (pl + 1) cap3)) ∧
      CRow E e (w3.setCell ⟨X, 7, none⟩ (.slice (some ⟨g, 0, none⟩) (pl + 1) cap3)) (X + 1) (.slice (some ⟨g, 0, none⟩) (pl + 1) cap3) (ps ++ [(s, u)]) := by
  have k12 : Kept Nil W1 w2 := hd1.trans k2 (fun _ _ g => g)
  have b2 := b.kept k12 id
  have ka := (Kept.refl Nil w2).alloc (.cells arr nt)
  have hB2 : Blk (w2.alloc (.cells arr nt)) w2.heap.size nt arr := Blk.new _ _ _
  have hX1 := b.lt
  have hX2 := b2.lt
  have hsa : (w2.alloc (.cells arr nt)).heap.size = w2.heap.size + 1 := by simp
  obtain ⟨g, cap3, w3, r3, c3, k3⟩ := CRow.append hE ht hi hz hsize hby hzs hb128 ((c.kept k12).kept ka) (by omega) (by omega) t s u w2.heap.size (fun j x hj => by rw [hB2.cell j, harr]; simpa using hj)
    ((h2.keptN ka).mono (fun b' o hb' => ⟨(hb'.kept ka id).less (by omega), fun eo => by have := c.lt b' eo; have := hb'.1; omega⟩))
  rw [hpl] at r3 c3
  have b3 : Blk w3 X e cs := (b2.alloc _).kept k3 (fun eo => by have := c.base X eo; omega)
  have far3 : RH w tz z h v0 w3 := ((r.step k12).step ka).far k3 (fun i eo => by have := c.base i eo; omega)
  refine ⟨by rw [b2.cell 7]; exact h7, hX2, g, cap3, w3, r3, by rw [b3.cell 7]; exact h7, b3.frozen 7, far3.set_ hX 7 _, b3.set_ 7 _, ?_⟩
  exact c3.keptF ((Kept.refl (fun k => k = X) w3).setCell ⟨X, 7, none⟩ (.inl rfl) _) (fun i e => by omega)
theorem wpList_store_R {ops : Array Oper} {rest : List Oper} {o : Oper} {a : Act} {w : World} {Q : Exit → Act → World → Prop} (hgd : o.guard = none) (x y : Operand) (ho : o.op = .store 45 x y)
    (g : Nat) (h : Hd) (s : Option Addr) (n c : Nat) (hx : a.eval x = .pointer (some ⟨g, 0, none⟩)) (hy : a.eval y = vR h (.slice s n c)) (v0 : Array Value) (h8 : v0.size = 8) (hg : Blk w g 45 v0)
    (hn : ∀ W, Kept (fun k => k = g) w W → Blk W g 45 (arrR h (.slice s n c)) → wpList Try.prog ops Q rest (a.put o.dst undef) W) : wpList Try.prog ops Q (o :: rest) a w :=
  wpList_store_rowW hgd _ x y ho g _ hx hy _ _ hg infoR8 h8 (by simp [Value.oneCell']) hn
/-- The reference's tree of a condition. -/
def RefEnd (hd : Hd) (subs : List Sh) (w : World) (e : Ending) (w' : World) : Prop :=
  ∃ a' cap', e = .returned (vR hd (.slice a' subs.length cap')) ∧ Holds cR w' (okM w.heap.size w') (.slice a' subs.length cap') subs ∧ Kept Nil w w'
abbrev RefIH (subs : List Sh) : Prop := ∀ hd sb, Sh.mk hd sb ∈ subs → ∀ ok a cap w, Holds cA w ok (.slice a sb.length cap) sb →
  Calls Try.prog 13 #[vA hd (.slice a sb.length cap)] w (RefEnd hd sb w)
set_option maxHeartbeats 4000000 in
theorem refT_step (k : Int) (x0 x1 x2 : Bool) (n0 n1 n2 : Int) (subs : List Sh) (len : Nat) (HL : Hid (subs.length = len)) (hLen : len ≤ 5000) (IH : Hid (RefIH subs))
    (ok : Nat → Nat → Prop) (a : Option Addr) (cap : Nat) (w : World) (HH : Hid (Holds cA w ok (.slice a len cap) subs)) :
    Calls Try.prog 13 #[vA ⟨k, x0, x1, x2, n0, n1, n2⟩ (.slice a len cap)] w (RefEnd ⟨k, x0, x1, x2, n0, n1, n2⟩ subs w) := by
  have CR := Lib.hid (fun W => ref_any x0 x1 x2 n0 n1 n2 W)
  go_enter Try.func13, Try.ntmps13
  go_upto_region 1 with fail
  have hne : w.heap.size ≠ w.heap.size + 1 + 1 := by omega
  have SS : Hid (Seen7 w.heap.size k x0 x1 x2 n0 n1 n2 ((w.alloc (.cells (arrA ⟨k, x0, x1, x2, n0, n1, n2⟩ (.slice a len cap)) 38)).alloc (.cells zR 45)).drew) := Lib.hid (Seen7.of (((Blk.new w 38 (arrA ⟨k, x0, x1, x2, n0, n1, n2⟩ (.slice a len cap))).alloc _).drew))
  have hX2 : w.heap.size + 1 < w.heap.size + 1 + 1 := by omega
  have R0 := Lib.hid ((RH.start w 45 zR ⟨k, x0, x1, x2, n0, n1, n2⟩ (.slice a len cap)).drew)
  have R1 := Lib.hid (((RH.start w 45 zR ⟨k, x0, x1, x2, n0, n1, n2⟩ (.slice a len cap)).alloc (.cells zR 45)).drew)
  go_cut [3] from 3 to 11 (fun p wx => ∃ X, p = .pointer (some ⟨X, 0, none⟩) ∧ w.heap.size + 1 < X ∧ Kept Nil w wx ∧ Blk wx w.heap.size 38 (arrA ⟨k, x0, x1, x2, n0, n1, n2⟩ (.slice a len cap)) ∧ Blk wx (w.heap.size + 1) 45 zR ∧ Blk wx X 45 (arrR ⟨k, x0, x1, x2, n0, n1, n2⟩ (.slice none 0 0)))
  case first =>
    go_region_held3 (Seen7 w.heap.size k x0 x1 x2 n0 n1 n2)
      (first | (with_reducible exact SS.out) | (with_reducible exact seen7_set8 hne (by with_reducible assumption)) | (with_reducible exact seen7_kept k7 (by with_reducible assumption)) | (with_reducible exact seen7_alloc _ (by with_reducible assumption)) | (with_reducible exact seen7_da _ (by with_reducible assumption)) | (with_reducible refine seen7_swap ?_ (by with_reducible assumption)) <;> omega)
      (first
        | (go_at_call 22; refine (CR.out _).mono ?_; rintro e w7 ⟨rfl, k7⟩; have z7 : w.heap.size + 1 < w7.heap.size := (by have := k7.size; (try simp at this); omega); first | (with_reducible have A7 := newK k7; have a0 := A7.cell 0; have b0 := A7.frozen 0; (try simp at a0); (try simp at b0); have a1 := A7.cell 1; have b1 := A7.frozen 1; (try simp at a1); (try simp at b1); have a2 := A7.cell 2; have b2 := A7.frozen 2; (try simp at a2); (try simp at b2); have a3 := A7.cell 3; have b3 := A7.frozen 3; (try simp at a3); (try simp at b3); have a4 := A7.cell 4; have b4 := A7.frozen 4; (try simp at a4); (try simp at b4); have a5 := A7.cell 5; have b5 := A7.frozen 5; (try simp at a5); (try simp at b5); have a6 := A7.cell 6; have b6 := A7.frozen 6; (try simp at a6); (try simp at b6); have a7 := A7.cell 7; have b7 := A7.frozen 7; (try simp at a7); (try simp at b7)) | (with_reducible have A7 := newKd k7; have a0 := A7.cell 0; have b0 := A7.frozen 0; (try simp at a0); (try simp at b0); have a1 := A7.cell 1; have b1 := A7.frozen 1; (try simp at a1); (try simp at b1); have a2 := A7.cell 2; have b2 := A7.frozen 2; (try simp at a2); (try simp at b2); have a3 := A7.cell 3; have b3 := A7.frozen 3; (try simp at a3); (try simp at b3); have a4 := A7.cell 4; have b4 := A7.frozen 4; (try simp at a4); (try simp at b4); have a5 := A7.cell 5; have b5 := A7.frozen 5; (try simp at a5); (try simp at b5); have a6 := A7.cell 6; have b6 := A7.frozen 6; (try simp at a6); (try simp at b6); have a7 := A7.cell 7; have b7 := A7.frozen 7; (try simp at a7); (try simp at b7)) | skip))
    all_goals
      first
        | with_reducible have RR := R0.out.step k7
        | with_reducible have RR := R1.out.step k7
      have RR' := Lib.hid RR
      first
        | have AA' : Hid (Blk w7 (w.heap.size + 1 + 1) 45 zR) := Lib.hid (by simpa using A7)
        | skip
      clear RR k7
      go_wp2_with fail
      go_meet
      first
        | with_reducible exact ⟨_, rfl, z7, (RR'.out.alloc _).kept, (RR'.out.alloc _).b0, (RR'.out.alloc _).b1, Blk.new _ _ _⟩
        | with_reducible exact ⟨_, rfl, hX2, (RR'.out.set8 hX2 _ _ _ _ _ _ _ _).kept, (RR'.out.set8 hX2 _ _ _ _ _ _ _ _).b0, (RR'.out.set8 hX2 _ _ _ _ _ _ _ _).b1, blk_set8 AA'.out _ _ _ _ _ _ _ _⟩
  case rest =>
    obtain ⟨X, rfl, hX, kX, bX0, bX1, bX⟩ := hcut
    have RX := Lib.hid (RH.mk kX bX0 bX1 : RH w 45 zR ⟨k, x0, x1, x2, n0, n1, n2⟩ (.slice a len cap) wc)
    have BX := Lib.hid bX
    have c7 := bX0.cell 7
    simp at c7
    clear kX bX0 bX1 bX SS R0 R1 CR
    go_wp2_with fail
    go_loopw [15] (fun i wr => ∃ (j : Nat) (v : Value) (ps : List (Sh × Value)), j ≤ len ∧ i = .int .i64 j ∧ ps.map (·.1) = subs.take j ∧ RH w 45 zR ⟨k, x0, x1, x2, n0, n1, n2⟩ (.slice a len cap) wr ∧ Blk wr X 45 (arrR ⟨k, x0, x1, x2, n0, n1, n2⟩ v) ∧ CRow cR 45 wr (X + 1) v ps) (fun i _ => len - (intOf i).toNat)
    case atStart => exact ⟨0, .slice none 0 0, [], by omega, rfl, rfl, RX.out, BX.out, .nil _ _ _ _⟩
    case round =>
      obtain ⟨j, v, ps, hj, rfl, hps, hR, hB, hC⟩ := hrel
      have HR := Lib.hid hR
      have HB := Lib.hid hB
      have HC := Lib.hid hC
      have HP := Lib.hid hps
      have hXs : X < wr.heap.size := hB.lt
      clear hR hB hC hps RX BX c7
      by_cases hlt : j < len
      · obtain ⟨⟨⟨k', x0', x1', x2', n0', n1', n2'⟩, sb⟩, hx⟩ : ∃ x, subs[j]? = some x := ⟨_, List.getElem?_eq_getElem (by have := HL.out; omega)⟩
        obtain ⟨b, o, a', cap', rfl, hok, hr, hs⟩ := (HH.out.keptN HR.out.kept).at_ hx
        have HX := Lib.hid (IH.out _ _ (List.mem_of_getElem? hx))
        have HRow := Lib.hid hr
        have HS := Lib.hid hs
        have HN : Hid (subs.take (j + 1) = subs.take j ++ [Sh.mk ⟨k', x0', x1', x2', n0', n1', n2'⟩ sb]) := Lib.hid (by rw [List.take_add_one, hx]; rfl)
        clear hx hr hs hok
        have HX2 : Hid (∀ w, Holds cA w ok (.slice a' sb.length cap') sb → Calls Try.prog 13 #[vA ⟨k', x0', x1', x2', n0', n1', n2'⟩ (.slice a' sb.length cap')] w fun e w' => ∃ a2 c2, e = .returned (vR ⟨k', x0', x1', x2', n0', n1', n2'⟩ (.slice a2 sb.length c2)) ∧ Holds cR w' (okM w.heap.size w') (.slice a2 sb.length c2) sb ∧ Kept Nil w w') := Lib.hid fun w h => HX.out ok a' cap' w h
        clear HX
        obtain ⟨av, capv, rfl⟩ := HC.out.shape
        have HPL : Hid (ps.length ≤ 5000) := Lib.hid (by have := congrArg List.length HP.out; rw [List.length_map, List.length_take] at this; omega)
        generalize hl' : sb.length = len' at HRow HS HX2
        clear hl'
        generalize hpl : ps.length = pl at HB HC
        have HPl := Lib.hid hpl
        clear hpl
        go_wp2_with ((with_reducible refine wpList_load_A rfl (.tmp 17) rfl _ _ rfl ⟨k', x0', x1', x2', n0', n1', n2'⟩ (.slice a' len' cap') ?_ ?_)
                     · exact HRow.out)
        obtain ⟨W1, hW1⟩ : ∃ W1, wr.alloc (.cells (arrA ⟨k', x0', x1', x2', n0', n1', n2'⟩ (.slice a' len' cap')) 38) = W1 := ⟨_, rfl⟩
        have KW : Kept Nil wr W1 := by rw [← hW1]; exact (Kept.refl Nil wr).alloc _
        have by0 : Blk W1 wr.heap.size 38 (arrA ⟨k', x0', x1', x2', n0', n1', n2'⟩ (.slice a' len' cap')) := by rw [← hW1]; exact Blk.new _ _ _
        rw [show wr.alloc (.cells #[.int .i64 k', .bool x0', .int .i64 n0', .bool x1', .int .i64 n1', .bool x2', .int .i64 n2', .slice a' len' cap'] 38) = W1 from hW1]
        have RW := Lib.hid (HR.out.step KW)
        have BW := Lib.hid (HB.out.kept KW id)
        have CW1 := Lib.hid (HC.out.kept KW)
        have HSW := Lib.hid (HS.out.keptN KW)
        have hXW : X < W1.heap.size := by have := KW.size; omega
        have e0 := by0.cell 0
        have e1 := by0.cell 1
        have e2 := by0.cell 2
        have e3 := by0.cell 3
        have e4 := by0.cell 4
        have e5 := by0.cell 5
        have e6 := by0.cell 6
        have e7 := by0.cell 7
        have x7 := BW.out.cell 7
        simp at e0 e1 e2 e3 e4 e5 e6 e7 x7
        clear hW1 KW by0 HR HB HC HS HRow hXs
        obtain ⟨i0, hi, hz0, hz1, hz2⟩ := info_parts infoCR
        have RND : Hid (∀ a2 c2 w2, Holds cR w2 (okM W1.drew.heap.size w2) (.slice a2 len' c2) sb → Kept Nil W1.drew w2 → _) := Lib.hid fun a2 c2 w2 h2 k2 =>
          build_round (P := Try.prog) (t := 31) kindR Try.underlying31 hi hz0 hz1 hz2 rfl (by decide) hX RW.out BW.out rfl CW1.out HPl.out (by have := HPl.out; have := HPL.out; omega) ((Kept.refl Nil W1).drew) rfl k2 (.mk ⟨k', x0', x1', x2', n0', n1', n2'⟩ sb) (.slice a2 len' c2) h2 45 (arrR ⟨k', x0', x1', x2', n0', n1', n2'⟩ (.slice a2 len' c2)) rfl
        clear RW BW CW1 hi hz0 hz1 hz2
        go_region_law (first
          | (refine step_append_run rfl (.tmp 20) (.tmp 23) 31 rfl _ _ rfl rfl r3 ?_)
          | (go_simp; go_at_call 13; refine (HX2.out _ (HSW.out.keptN ((Kept.refl Nil _).drew))).mono ?_; rintro e w2 ⟨a2, c2, rfl, h2, k2⟩; obtain ⟨c72, hX2, g, cap3, w3, r3, c73, f73, F1, F2, F3⟩ := RND.out a2 c2 w2 h2 k2; have F1' := Lib.hid F1; have F2' := Lib.hid F2; have F3' := Lib.hid F3; clear F1 F2 F3 h2 k2))
        all_goals
          go_wp2_with fail
          go_roundw
          case rel =>
            refine ⟨j + 1, _, ps ++ [(.mk ⟨k', x0', x1', x2', n0', n1', n2'⟩ sb, .slice a2 len' c2)], by omega, by go_num, ?_, F1'.out, ?_, F3'.out⟩
            · rw [List.map_append, HP.out, HN.out]; rfl
            · exact F2'.out
          case measure => simp [intOf]; omega
      · obtain rfl : j = len := by omega
        have HE : Hid (ps.map (·.1) = subs) := Lib.hid (by rw [HP.out, ← HL.out]; simp)
        obtain ⟨av, capv, rfl⟩ := HC.out.shape
        have HPl : Hid (ps.length = subs.length) := Lib.hid (by rw [← HE.out]; simp)
        rw [HPl.out] at HB HC
        have HL2 := Lib.hid (rfl : subs.length = subs.length)
        generalize hsl : subs.length = sl at HB HC
        have HSl := Lib.hid hsl
        clear hsl
        go_wp2_with (first
          | ((with_reducible refine wpList_load_R rfl (.tmp 3) rfl _ _ rfl ⟨k, x0, x1, x2, n0, n1, n2⟩ (.slice av sl capv) ?_ ?_)
             · exact World.rangeAt_of_block HB.out 0 8)
          | ((with_reducible refine wpList_store_R rfl (.tmp 2) _ rfl _ ⟨k, x0, x1, x2, n0, n1, n2⟩ _ _ _ rfl rfl zR rfl ?_ ?_)
             · exact HR.out.b1
             intro W kW bW
             have KW := Lib.hid kW
             have BW := Lib.hid bW
             clear kW bW))
        refine bodyPost_ret (results_cell_row Try.results13 _ _ _ _ _ _ _ rfl BW.out Try.underlying45 rfl (by kernel_rfl)) rfl ?_
        have hh := HC.out.holds kindR
        rw [HE.out] at hh
        refine ⟨av, capv, by rw [HSl.out], ?_, HR.out.kept.trans KW.out (fun i hi e => by omega)⟩
        rw [HSl.out]
        exact (hh.kept KW.out (fun b o hb e => by have := hb.1; omega)).mono (fun b o hb => (hb.kept KW.out (fun e => by have := hb.1; omega)).less (by omega))
theorem refT_any : ∀ s : Sh, s.count ≤ 5000 → ∀ ok a cap w, Holds cA w ok (.slice a s.subs.length cap) s.subs →
    Calls Try.prog 13 #[vA s.hd (.slice a s.subs.length cap)] w (RefEnd s.hd s.subs w) := by
  refine Sh.ind fun hd subs ih hc ok a cap w h => ?_
  have hc' : 1 + countL subs ≤ 5000 := by simpa [Sh.count] using hc
  have hl := length_countL subs
  exact refT_step hd.k hd.x0 hd.x1 hd.x2 hd.n0 hd.n1 hd.n2 subs _ rfl (by omega) (fun hd' sb hx => ih _ hx (by have := count_mem hx; omega)) ok a cap w h
end Go.Proofs.Ytefojaeinhgeiaa
