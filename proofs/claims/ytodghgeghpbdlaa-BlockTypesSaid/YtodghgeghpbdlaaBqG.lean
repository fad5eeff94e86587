/- Blocks (block.Blocks[retiary/api.Triple,string]): what a pair more, or less, makes of memory; Block, Free, Count, Is, Len, Pairs. -/
import Derived.Test.YtodghgeghpbdlaaBqF
namespace Go.Proofs.Ytodghgeghpbdlaa
open Go.RowKit Go.Maps Go.WideMaps
set_option maxRecDepth 100000

section
variable {w w' : World} {B pb n : Nat} {R : List (Int × Int × Int)} {Ps : List ((Int × Int × Int) × ByteArray)} {s : SQ}
theorem BSQ.fo_ne (h : BSQ w B pb R Ps n s) {j : Nat} (hj : FoQ w B s.m j) : j ≠ pb ∧ j ≠ s.bh ∧ ∀ k ∈ R, j ≠ s.Mb k := by
  rcases hj.2 with e | ⟨cs, f, e⟩
  · refine ⟨fun e2 => ?_, fun e2 => h.am (by rw [e, e2]), fun k hk e2 => (h.amb k hk).1 (by rw [e, e2])⟩
    subst e2
    rcases h.lst.mp with ⟨e3, _⟩ | ⟨bm, D, e3, _, ⟨es, c, hbb, _⟩, _⟩
    · rw [e] at e3; cases e3
    · rw [e] at e3; cases e3
      have := h.here
      unfold Blk at this
      rw [hbb] at this; cases this
  · refine ⟨fun e2 => ?_, fun e2 => ?_, fun k hk e2 => ?_⟩
    · subst e2
      have := h.here
      unfold Blk at this
      rcases e with e | e <;> (rw [this] at e; simp at e)
    · subst e2
      rcases e with e | e <;> exact h.hd.isMap e
    · subst e2
      rcases e with e | e <;> exact (h.bl k hk).2.isMap e
theorem BSQ.pb_ne (h : BSQ w B pb R Ps n s) : pb ≠ s.bh ∧ ∀ k ∈ R, pb ≠ s.Mb k :=
  ⟨fun e => h.hd.isMap (e ▸ h.here), fun k hk e => (h.bl k hk).2.isMap (e ▸ h.here)⟩
theorem BSQ.fbMb (h : BSQ w B pb R Ps n s) {k : (Int × Int × Int)} (hk : k ∈ R) : FBQ w B (s.Mb k) := ⟨(h.bl k hk).1, .inl (h.bl k hk).2.blk⟩
theorem BSQ.fbPb (h : BSQ w B pb R Ps n s) : FBQ w B pb := ⟨h.baseB, .inr ⟨_, _, _, h.here, .inl rfl⟩⟩
theorem BSQ.fbBh (h : BSQ w B pb R Ps n s) : FBQ w B s.bh := ⟨h.baseH, .inl h.hd.blk⟩
/-- An owner's map has turned, and the count. -/
theorem BSQ.turn (h : BSQ w B pb R Ps n s) {k : (Int × Int × Int)} (hk : k ∈ R) {Ps' : List ((Int × Int × Int) × ByteArray)} {n' : Nat} (hb : ∀ k' ∈ R, k' ≠ k → bls Ps' k' = bls Ps k') (nd : Ps'.Nodup) (hs : ∀ x ∈ Ps', x.1 ∈ R) (hl : Ps'.length ≤ n') (hn : n ≤ n')
    {w2 : World} (hm : MapF KS (.bool false) w2 (s.Mb k) (bls Ps' k) (fun _ => .bool true)) (hg : w.grownBy w2 (some (s.Mb k))) {x : Int} (hx : x = (Ps'.length : Nat)) :
    BSQ (w2.setCell ⟨pb, 2, none⟩ (.int .i64 x)) B pb R Ps' n' s ∧ Kept (FBQ w B) w (w2.setCell ⟨pb, 2, none⟩ (.int .i64 x)) := by
  subst hx
  have hpb := h.pb_ne
  have k2 : Kept (fun b => b = s.Mb k) w w2 := (Kept.refl _ w).grown hg (fun j e => .inl (by cases e; rfl))
  have k3 : Kept (fun b => b = s.Mb k ∨ b = pb) w (w2.setCell ⟨pb, 2, none⟩ (.int .i64 (Ps'.length : Nat))) := (k2.mono (fun _ _ e => .inl e)).setCell _ (.inl (.inr rfl)) _
  have k23 : Kept (fun b => b = pb) w2 (w2.setCell ⟨pb, 2, none⟩ (.int .i64 (Ps'.length : Nat))) := Kept.setCell (F := fun b => b = pb) (Kept.refl _ w2) _ (.inl rfl) _
  have hp2 : Blk w2 pb _ _ := h.here.kept k2 (hpb.2 k hk)
  refine ⟨⟨h.baseB, h.baseH, by simpa using hp2.set_ 2 (.int .i64 (Ps'.length : Nat)), h.lst.kept k3 (fun j hj e => ?_), h.rowR, h.rise, h.hv, h.hd.kept k3 (fun e => ?_), fun k' hk' => ⟨(h.bl k' hk').1, ?_⟩, h.am, h.amb, h.inj, nd, hs, Nat.le_trans h.lv hn, hl⟩, k3.mono (fun b _ e => ?_)⟩
  · have := h.fo_ne hj
    rcases e with e | e
    · exact this.2.2 k hk e
    · exact this.1 e
  · rcases e with e | e
    · exact (h.amb k hk).2 e.symm
    · exact hpb.1 e.symm
  · by_cases e : k' = k
    · subst e
      exact hm.kept k23 (fun e => hpb.2 _ hk e.symm)
    · rw [hb k' hk' e]
      refine (h.bl k' hk').2.kept k3 (fun f => ?_)
      rcases f with f | f
      · exact e (h.inj k' hk' k hk f)
      · exact hpb.2 k' hk' f.symm
  · rcases e with e | e
    · rw [e]; exact h.fbMb hk
    · rw [e]; exact h.fbPb
theorem blockers_out_q (h : BSQ w B pb R Ps n s) {k : (Int × Int × Int)} (hok : K3.ok k) (hk : k ∉ R) :
    Calls Try.prog 85 #[.pointer (some ⟨pb, 0, none⟩), .agg #[.int .i64 k.1, .int .i64 k.2.1, .int .i64 k.2.2]] w fun e w' => e = .returned (.map none) ∧ Kept Nil w w' := by
  have HH := Lib.hid h
  have HX := Lib.hid hk
  have HO := Lib.hid hok
  clear h hk hok
  go_enter Try.func85, Try.ntmps85
  go_upto_region 1 with fail
  have HK := Lib.hid ((Kept.refl Nil w).alloc (.cells #[.int .i64 k.1, .int .i64 k.2.1, .int .i64 k.2.2] 38))
  have BK := Lib.hid (Blk.new w 38 #[.int .i64 k.1, .int .i64 k.2.1, .int .i64 k.2.2])
  have H0 := Lib.hid (HH.out.keptN HK.out)
  generalize w.alloc (.cells #[.int .i64 k.1, .int .i64 k.2.1, .int .i64 k.2.2] 38) = w0 at *
  generalize w.heap.size = b3 at *
  have q0 := BK.out.cell 0
  have q1 := BK.out.cell 1
  have q2 := BK.out.cell 2
  have c1 := H0.out.here.cell 1
  simp only [List.getElem?_toArray, List.getElem?_cons_zero, List.getElem?_cons_succ] at c1
  have CL := Lib.hid (fun W (kW : Kept Nil w0 W) => (H0.out.keptN kW).look_out HO.out HX.out)
  have O := Lib.hid (show Kept Nil w0 w0.drew from (Kept.refl Nil w0).drew)
  have hb0 := H0.out.here.lt
  have hb3 := BK.out.lt
  have c1n : ∀ n : CW (Kept Nil w0), n.w.cell? ⟨pb, 1, none⟩ = some (.map (some s.bh)) := fun n => (n.of.cell (p := ⟨pb, 1, none⟩) hb0 (fun e => e)).trans c1
  have q0n : ∀ n : CW (Kept Nil w0), n.w.cell? ⟨b3, 0, none⟩ = some (.int .i64 k.1) := fun n => (n.of.cell (p := ⟨b3, 0, none⟩) hb3 (fun e => e)).trans q0
  have q1n : ∀ n : CW (Kept Nil w0), n.w.cell? ⟨b3, 1, none⟩ = some (.int .i64 k.2.1) := fun n => (n.of.cell (p := ⟨b3, 1, none⟩) hb3 (fun e => e)).trans q1
  have q2n : ∀ n : CW (Kept Nil w0), n.w.cell? ⟨b3, 2, none⟩ = some (.int .i64 k.2.2) := fun n => (n.of.cell (p := ⟨b3, 2, none⟩) hb3 (fun e => e)).trans q2
  go_wp2_with fail
  refine wp_region_in (Kept Nil w0) (by kernel_rfl) (by kernel_rfl) O.out ?_
  have inst : Nonempty (CW (Kept Nil w0)) := ⟨⟨_, O.out⟩⟩
  repeat (go_big_quiet_step ((go_at_call 83; with_reducible exact call_in (fun _ _ h k => h.trans k (fun _ _ e => e)) (CL.out _ (CW.of _)))))
  refine wpQuiet_nil ?_
  rintro _ ⟨n, rfl⟩
  have k1 := n.of
  generalize n.w = w1 at *
  clear c1n q0n q1n q2n hb0 hb3
  go_wp2_with fail
  go_ret
  exact ⟨rfl, HK.out.trans k1 (fun _ _ e => e)⟩
theorem len_map_q (h : BSQ w B pb R Ps n s) {k : (Int × Int × Int)} (hk : k ∈ R) (ty : TypeId) : (Builtin.len_ #[151] ty #[.map (some (s.Mb k))]).run Try.prog w = .ok (.int .i64 (bls Ps k).length) w := (h.bl k hk).2.len Try.underlying151 ty
theorem len_q (h : BTQ w B pb R Ps n) :
    Calls Try.prog 48 #[.pointer (some ⟨pb, 0, none⟩)] w fun e w' => e = .returned (.int .i64 R.length) ∧ w = w' := by
  obtain ⟨s, h⟩ := h
  have c1 := h.here.cell 1
  simp only [List.getElem?_toArray, List.getElem?_cons_zero, List.getElem?_cons_succ] at c1
  have hl := fun ty => h.hd.len Try.underlying154 ty
  clear h
  go_enter Try.func48, Try.ntmps48
  go_wp2
  go_ret
  exact ⟨rfl, rfl⟩
theorem pairs_q (h : BTQ w B pb R Ps n) :
    Calls Try.prog 49 #[.pointer (some ⟨pb, 0, none⟩)] w fun e w' => e = .returned (.int .i64 Ps.length) ∧ w = w' := by
  obtain ⟨s, h⟩ := h
  have c2 := h.here.cell 2
  simp only [List.getElem?_toArray, List.getElem?_cons_zero, List.getElem?_cons_succ] at c2
  clear h
  go_enter Try.func49, Try.ntmps49
  go_wp2
  go_ret
  exact ⟨rfl, rfl⟩
end
end Go.Proofs.Ytodghgeghpbdlaa
