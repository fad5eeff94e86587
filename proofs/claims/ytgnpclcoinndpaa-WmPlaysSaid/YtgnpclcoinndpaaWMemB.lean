/- A memory of facts: Get, Remove. -/
import Derived.Test.YtgnpclcoinndpaaWMem
namespace Go.Proofs.Ytgnpclcoinndpaa
open Go.RowKit Go.Maps
set_option maxRecDepth 100000

/-- Two results: a row in a cell, and a slot. -/
theorem results_rowtmp {P : Program} {fn : Func} {p r : Tmp} {ty : TypeId} (h : fn.results = #[.cell p ty, .tmp r]) (tmps : Array Value) (w : World) (g : Nat) (t : TypeId) (cs : Array Value) (fr : Nat × Nat) (d : TypeDesc)
    (hp : tmps.getD p undef = .pointer (some ⟨g, 0, none⟩)) (hg : w.heap[g]? = some (.cells cs t fr))
    (hu : P.underlying ty = some d) (hd : (match d with | .struct _ | .array _ _ => true | _ => false) = true) (hi : (P.info? ty).map (·.size) = some cs.size) :
    (results fn tmps).run P w = .ok (.tuple #[.agg cs, tmps.getD r undef]) w := by
  have hp' : tmps[p]?.getD undef = .pointer (some ⟨g, 0, none⟩) := by simpa using hp
  simp [results, h, hp', asAddr, run_loadVar_row w g t ty cs fr d hg hu hd hi]

section
variable {w w' : World} {B p bm last limit : Nat} {l : List F4}
theorem get_miss (h : Mem w B p bm l last limit) {k : Int} (hw : (Lit.int .i64 k).wf = true) (hk : look l k = none) :
    Calls Try.prog 16 #[.pointer (some ⟨p, 0, none⟩), .int .i64 k] w fun e w' => e = .returned (.tuple #[.agg #[.int .i64 0, .int .i64 0, .int .i64 0], .bool false]) ∧ Kept Nil w w' := by
  replace h := h.keptN ((Kept.refl Nil w).alloc (.cells #[.int .i64 0, .int .i64 0, .int .i64 0] 33))
  have c0 := h.cell0
  have hlook := h.miss hw hk _ rfl
  unfold arr zeroT at hlook
  clear h hk
  go_enter Try.func16, Try.ntmps16
  go_wp2
  refine bodyPost_ret (results_rowtmp Try.results16 _ _ _ _ _ _ _ rfl ((Below.heap_alloc _ _ _ (by simp)).trans (heap_alloc_new w _)) Try.underlying33 rfl (by kernel_rfl)) rfl ?_
  exact ⟨rfl, ((Kept.refl Nil w).alloc _).alloc _⟩
theorem get_hit (h : Mem w B p bm l last limit) {k : Int} (hw : (Lit.int .i64 k).wf = true) {t : T3} (hk : look l k = some t) :
    Calls Try.prog 16 #[.pointer (some ⟨p, 0, none⟩), .int .i64 k] w fun e w' => e = .returned (.tuple #[.agg #[.int .i64 t.1, .int .i64 t.2.1, .int .i64 t.2.2], .bool true]) ∧ Kept Nil w w' := by
  replace h := h.keptN ((Kept.refl Nil w).alloc (.cells #[.int .i64 0, .int .i64 0, .int .i64 0] 33))
  have c0 := h.cell0
  have hlook := h.hit hw hk _ rfl
  unfold arr at hlook
  clear h hk
  go_enter Try.func16, Try.ntmps16
  go_wp2
  refine bodyPost_ret (results_rowtmp Try.results16 _ _ _ _ _ _ _ rfl ((Below.heap_alloc _ _ _ (by simp)).trans (heap_alloc_new w _)) Try.underlying33 rfl (by kernel_rfl)) rfl ?_
  exact ⟨rfl, ((Kept.refl Nil w).alloc _).alloc _⟩
theorem remove_miss (h : Mem w B p bm l last limit) {k : Int} (hw : (Lit.int .i64 k).wf = true) (hk : look l k = none) :
    Calls Try.prog 10 #[.pointer (some ⟨p, 0, none⟩), .int .i64 k] w fun e w' => e = .returned (.tuple #[.agg #[.int .i64 0, .int .i64 0, .int .i64 0], .int .i64 10]) ∧ Kept Nil w w' := by
  replace h := h.keptN ((Kept.refl Nil w).alloc (.cells #[.int .i64 0, .int .i64 0, .int .i64 0] 33))
  have c0 := h.cell0
  have hlook := h.miss hw hk _ rfl
  unfold arr zeroT at hlook
  clear h hk
  go_enter Try.func10, Try.ntmps10
  go_wp2
  refine bodyPost_ret (results_rowtmp Try.results10 _ _ _ _ _ _ _ rfl ((Below.heap_alloc _ _ _ (by simp)).trans (heap_alloc_new w _)) Try.underlying33 rfl (by kernel_rfl)) rfl ?_
  exact ⟨rfl, ((Kept.refl Nil w).alloc _).alloc _⟩
theorem Blk.mapped {g : Nat} {t : TypeId} {cs : Array Value} (h : Blk w g t cs) (hg : w.grownBy w' (some bm)) (hne : g ≠ bm) : Blk w' g t cs := (hg.block g h.lt (by simpa using hne)).trans h
/-- Behind a call on the map: the memory's own cells stay. -/
theorem Mem.mapped (h : Mem w B p bm l last limit) (hg : w.grownBy w' (some bm)) {l' : List F4} {D : DataW Unit} (ho : w'.ownsMap (H := Unit) Try.prog 3 tripE bm last D) (hD : MapL D l')
    (hr : Rise l') (hi : ∀ x ∈ l', 1 ≤ x.1 ∧ x.1 ≤ last) : Mem w' B p bm l' last limit :=
  ⟨h.base, h.bmb, (hg.block p h.lt (fun e => h.ne (by simpa using e))).trans h.here, ⟨D, ho, hD⟩, hr, hi, h.few, h.lim⟩
set_option maxHeartbeats 1000000 in
theorem remove_hit (h : Mem w B p bm l last limit) {k : Int} (hw : (Lit.int .i64 k).wf = true) {t : T3} (hk : look l k = some t) :
    Calls Try.prog 10 #[.pointer (some ⟨p, 0, none⟩), .int .i64 k] w fun e w' => e = .returned (.tuple #[.agg #[.int .i64 t.1, .int .i64 t.2.1, .int .i64 t.2.2], .int .i64 0]) ∧ Mem w' B p bm (rid l k) last limit ∧ Kept (MFoot p bm) w w' := by
  have hbw : bm < w.heap.size := (h.foot (.inr rfl)).2
  have B4 : Blk (w.alloc (.cells #[.int .i64 0, .int .i64 0, .int .i64 0] 33)) w.heap.size 33 #[.int .i64 0, .int .i64 0, .int .i64 0] := Blk.new w _ _
  have h1 := h.keptN ((Kept.refl Nil w).alloc (.cells #[.int .i64 0, .int .i64 0, .int .i64 0] 33))
  have hk1 : Kept Nil w (w.alloc (.cells #[.int .i64 0, .int .i64 0, .int .i64 0] 33)) := (Kept.refl Nil w).alloc _
  have hs1 : (w.alloc (.cells #[.int .i64 0, .int .i64 0, .int .i64 0] 33)).heap.size = w.heap.size + 1 := by simp
  have c0 := h1.cell0
  have hlook := h1.hit hw hk _ rfl
  unfold arr at hlook
  have hkey := keyI hw
  have B6 : Blk ((w.alloc (.cells #[.int .i64 0, .int .i64 0, .int .i64 0] 33)).alloc (.cells #[.int .i64 t.1, .int .i64 t.2.1, .int .i64 t.2.2] 33)) (w.heap.size + 1) 33 #[.int .i64 t.1, .int .i64 t.2.1, .int .i64 t.2.2] := by
    have := Blk.new (w.alloc (.cells #[.int .i64 0, .int .i64 0, .int .i64 0] 33)) 33 #[.int .i64 t.1, .int .i64 t.2.1, .int .i64 t.2.2]
    rwa [hs1] at this
  have k2 : Kept Nil (w.alloc (.cells #[.int .i64 0, .int .i64 0, .int .i64 0] 33)) ((w.alloc (.cells #[.int .i64 0, .int .i64 0, .int .i64 0] 33)).alloc (.cells #[.int .i64 t.1, .int .i64 t.2.1, .int .i64 t.2.2] 33)) := (Kept.refl Nil _).alloc _
  have h2 := h1.keptN k2
  have c2 := h2.cell0
  have B42 := B4.kept k2 (fun e => e)
  obtain ⟨D, ho, hD⟩ := h2.mp
  obtain ⟨w3, hrun, ho3, ht3⟩ := ho.drop lawK Try.underlying58 hkey 0
  change (Builtin.delete_ #[58, 3] 0 #[.map (some bm), .int .i64 k]).run Try.prog ((w.alloc (.cells #[.int .i64 0, .int .i64 0, .int .i64 0] 33)).alloc (.cells #[.int .i64 t.1, .int .i64 t.2.1, .int .i64 t.2.2] 33)) = .ok (.tuple #[]) w3 at hrun
  have h3 := h2.mapped ht3.grown ho3 (hD.del h2.rise k) (rid_rise h2.rise k) (fun x hx => h2.ids x (rid_sub hx))
  have B43 := B42.mapped ht3.grown (by omega)
  have B63 := B6.mapped ht3.grown (by omega)
  have k3 : Kept (MFoot p bm) w w3 := ((hk1.trans k2 (fun _ _ e => e)).mono (fun _ _ e => e.elim)).grown ht3.grown (fun i e => .inl (.inr (by simpa using e.symm)))
  have q60 := B63.cell 0
  have q61 := B63.cell 1
  have q62 := B63.cell 2
  have q40 := B43.cell 0
  have q41 := B43.cell 1
  have q42 := B43.cell 2
  have f40 := B43.frozen 0
  have f41 := B43.frozen 1
  have f42 := B43.frozen 2
  have H3 := Lib.hid h3
  have K3 := Lib.hid k3
  have HB4 := Lib.hid B43
  clear h h1 h2 h3 hk B4 B42 B43 B6 B63 k2 k3 hk1 ho ho3 hD ht3 hs1
  go_enter Try.func10, Try.ntmps10
  go_wp2
  refine bodyPost_ret (results_rowtmp Try.results10 _ _ _ _ _ _ _ rfl (((HB4.out.set_ 0 _).set_ 1 _).set_ 2 _) Try.underlying33 rfl (by kernel_rfl)) rfl ?_
  have kk : Kept (fun k => k = w.heap.size) w3 (((w3.setCell ⟨w.heap.size, 0, none⟩ (.int .i64 t.1)).setCell ⟨w.heap.size, 1, none⟩ (.int .i64 t.2.1)).setCell ⟨w.heap.size, 2, none⟩ (.int .i64 t.2.2)) :=
    (((Kept.refl (fun k => k = w.heap.size) w3).setCell ⟨w.heap.size, 0, none⟩ (.inl rfl) _).setCell ⟨w.heap.size, 1, none⟩ (.inl rfl) _).setCell ⟨w.heap.size, 2, none⟩ (.inl rfl) _
  exact ⟨rfl, H3.out.kept kk (fun i hi e => H3.out.other (show Blk w3 i _ _ from e.symm ▸ HB4.out) (by decide) hi), K3.out.trans kk (fun i hi e => by omega)⟩
end
end Go.Proofs.Ytgnpclcoinndpaa
