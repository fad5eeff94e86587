/- Blocks (block.Blocks[string,int]): what a pair more, or less, makes of memory; Block, Free, Count, Is, Len, Pairs. -/
import Derived.Test.YtodghgeghpbdlaaBpF
namespace Go.Proofs.Ytodghgeghpbdlaa
open Go.RowKit Go.Maps Go.WideMaps
set_option maxRecDepth 100000

section
variable {w w' : World} {B pb n : Nat} {R : List ByteArray} {Ps : List (ByteArray × Int)} {s : SP}
theorem BSP.fo_ne (h : BSP w B pb R Ps n s) {j : Nat} (hj : FoP w B s.m j) : j ≠ pb ∧ j ≠ s.bh ∧ ∀ k ∈ R, j ≠ s.Mb k := by
  rcases hj.2 with e | ⟨cs, f, e⟩
  · refine ⟨fun e2 => ?_, fun e2 => h.am (by rw [e, e2]), fun k hk e2 => (h.amb k hk).1 (by rw [e, e2])⟩
    subst e2
    rcases h.lst.mp with ⟨e3, _⟩ | ⟨bm, D, e3, _, ⟨es, c, hbb, _⟩, _⟩
    · rw [e] at e3; cases e3
    · rw [e] at e3; cases e3
      have := h.here
      unfold Blk at this
      rw [hbb] at this; cases this
  · refine ⟨fun e2 => ?_, fun e2 => ?_, fun k hk e2 => ?_⟩
    · subst e2
      have := h.here
      unfold Blk at this
      rcases e with e | e <;> (rw [this] at e; simp at e)
    · subst e2
      rcases e with e | e <;> exact h.hd.isMap e
    · subst e2
      rcases e with e | e <;> exact (h.bl k hk).2.isMap e
theorem BSP.pb_ne (h : BSP w B pb R Ps n s) : pb ≠ s.bh ∧ ∀ k ∈ R, pb ≠ s.Mb k :=
  ⟨fun e => h.hd.isMap (e ▸ h.here), fun k hk e => (h.bl k hk).2.isMap (e ▸ h.here)⟩
theorem BSP.fbMb (h : BSP w B pb R Ps n s) {k : ByteArray} (hk : k ∈ R) : FBP w B (s.Mb k) := ⟨(h.bl k hk).1, .inl (h.bl k hk).2.blk⟩
theorem BSP.fbPb (h : BSP w B pb R Ps n s) : FBP w B pb := ⟨h.baseB, .inr ⟨_, _, _, h.here, .inl rfl⟩⟩
theorem BSP.fbBh (h : BSP w B pb R Ps n s) : FBP w B s.bh := ⟨h.baseH, .inl h.hd.blk⟩
/-- An owner's map has turned, and the count. -/
theorem BSP.turn (h : BSP w B pb R Ps n s) {k : ByteArray} (hk : k ∈ R) {Ps' : List (ByteArray × Int)} {n' : Nat} (hb : ∀ k' ∈ R, k' ≠ k → bls Ps' k' = bls Ps k') (nd : Ps'.Nodup) (hs : ∀ x ∈ Ps', x.1 ∈ R) (hl : Ps'.length ≤ n') (hn : n ≤ n')
    {w2 : World} (hm : MapF KI (.bool false) w2 (s.Mb k) (bls Ps' k) (fun _ => .bool true)) (hg : w.grownBy w2 (some (s.Mb k))) {x : Int} (hx : x = (Ps'.length : Nat)) :
    BSP (w2.setCell ⟨pb, 2, none⟩ (.int .i64 x)) B pb R Ps' n' s ∧ Kept (FBP w B) w (w2.setCell ⟨pb, 2, none⟩ (.int .i64 x)) := by
  subst hx
  have hpb := h.pb_ne
  have k2 : Kept (fun b => b = s.Mb k) w w2 := (Kept.refl _ w).grown hg (fun j e => .inl (by cases e; rfl))
  have k3 : Kept (fun b => b = s.Mb k ∨ b = pb) w (w2.setCell ⟨pb, 2, none⟩ (.int .i64 (Ps'.length : Nat))) := (k2.mono (fun _ _ e => .inl e)).setCell _ (.inl (.inr rfl)) _
  have k23 : Kept (fun b => b = pb) w2 (w2.setCell ⟨pb, 2, none⟩ (.int .i64 (Ps'.length : Nat))) := Kept.setCell (F := fun b => b = pb) (Kept.refl _ w2) _ (.inl rfl) _
  have hp2 : Blk w2 pb _ _ := h.here.kept k2 (hpb.2 k hk)
  refine ⟨⟨h.baseB, h.baseH, by simpa using hp2.set_ 2 (.int .i64 (Ps'.length : Nat)), h.lst.kept k3 (fun j hj e => ?_), h.rowR, h.rise, h.hv, h.hd.kept k3 (fun e => ?_), fun k' hk' => ⟨(h.bl k' hk').1, ?_⟩, h.am, h.amb, h.inj, nd, hs, Nat.le_trans h.lv hn, hl⟩, k3.mono (fun b _ e => ?_)⟩
  · have := h.fo_ne hj
    rcases e with e | e
    · exact this.2.2 k hk e
    · exact this.1 e
  · rcases e with e | e
    · exact (h.amb k hk).2 e.symm
    · exact hpb.1 e.symm
  · by_cases e : k' = k
    · subst e
      exact hm.kept k23 (fun e => hpb.2 _ hk e.symm)
    · rw [hb k' hk' e]
      refine (h.bl k' hk').2.kept k3 (fun f => ?_)
      rcases f with f | f
      · exact e (h.inj k' hk' k hk f)
      · exact hpb.2 k' hk' f.symm
  · rcases e with e | e
    · rw [e]; exact h.fbMb hk
    · rw [e]; exact h.fbPb
theorem blockers_out_p (h : BSP w B pb R Ps n s) {k : ByteArray} (hok : KS.ok k) (hk : k ∉ R) :
    Calls Try.prog 77 #[.pointer (some ⟨pb, 0, none⟩), .string k] w fun e w' => e = .returned (.map none) ∧ Kept Nil w w' := by
  have HH := Lib.hid h
  have HX := Lib.hid hk
  have HO := Lib.hid hok
  clear h hk hok
  have HK := Lib.hid (Kept.refl Nil w)
  obtain ⟨w0, hw0⟩ : ∃ w0, w0 = w := ⟨_, rfl⟩
  rw [← hw0] at HK ⊢
  have H0 := Lib.hid (show BSP w0 B pb R Ps n s from hw0 ▸ HH.out)
  go_enter Try.func77, Try.ntmps77
  have c1 := H0.out.here.cell 1
  simp only [List.getElem?_toArray, List.getElem?_cons_zero, List.getElem?_cons_succ] at c1
  have CL := Lib.hid (fun W (kW : Kept Nil w0 W) => (H0.out.keptN kW).look_out HO.out HX.out)
  clear hw0
  go_wp2_with fail
  refine (CL.out w0 (Kept.refl _ _)).mono ?_
  rintro e w1 ⟨rfl, k1⟩
  go_wp2_with fail
  go_ret
  exact ⟨rfl, HK.out.trans k1 (fun _ _ e => e)⟩
theorem len_map_p (h : BSP w B pb R Ps n s) {k : ByteArray} (hk : k ∈ R) (ty : TypeId) : (Builtin.len_ #[134] ty #[.map (some (s.Mb k))]).run Try.prog w = .ok (.int .i64 (bls Ps k).length) w := (h.bl k hk).2.len Try.underlying134 ty
theorem count_in_p (h : BSP w B pb R Ps n s) (hn : n ≤ 5000) {k : ByteArray} (hk : k ∈ R) :
    Calls Try.prog 40 #[.pointer (some ⟨pb, 0, none⟩), .string k] w fun e w' => e = .returned (.int .i64 (bls Ps k).length) ∧ Kept Nil w w' := by
  have HH := Lib.hid h
  have HX := Lib.hid hk
  clear h hk
  go_enter Try.func40, Try.ntmps40
  go_wp2_with fail
  refine (blockers_in_p HH.out hn HX.out).mono ?_
  rintro e w1 ⟨rfl, k1⟩
  have hl := fun ty => len_map_p (HH.out.keptN k1) HX.out ty
  go_wp2_with fail
  go_ret
  exact ⟨rfl, k1⟩
theorem count_out_p (h : BSP w B pb R Ps n s) {k : ByteArray} (hok : KS.ok k) (hk : k ∉ R) :
    Calls Try.prog 40 #[.pointer (some ⟨pb, 0, none⟩), .string k] w fun e w' => e = .returned (.int .i64 0) ∧ Kept Nil w w' := by
  have HH := Lib.hid h
  have HX := Lib.hid hk
  have HO := Lib.hid hok
  clear h hk hok
  go_enter Try.func40, Try.ntmps40
  go_wp2_with fail
  refine (blockers_out_p HH.out HO.out HX.out).mono ?_
  rintro e w1 ⟨rfl, k1⟩
  have hl := fun ty => len_nil (P := Try.prog) (w := w1) Try.underlying134 ty
  go_wp2_with fail
  go_ret
  exact ⟨rfl, k1⟩
theorem count_p (h : BTP w B pb R Ps n) (hn : n ≤ 5000) {k : ByteArray} (hok : KS.ok k) :
    Calls Try.prog 40 #[.pointer (some ⟨pb, 0, none⟩), .string k] w fun e w' => e = .returned (.int .i64 (bls Ps k).length) ∧ Kept Nil w w' := by
  obtain ⟨s, h⟩ := h
  by_cases hk : k ∈ R
  · exact count_in_p h hn hk
  · rw [bls_none h.sub hk]
    exact count_out_p h hok hk
theorem is_p (h : BTP w B pb R Ps n) (hn : n ≤ 5000) {k : ByteArray} (hok : KS.ok k) :
    Calls Try.prog 39 #[.pointer (some ⟨pb, 0, none⟩), .string k] w fun e w' => e = .returned (.bool (isIn k R)) ∧ Kept Nil w w' := by
  obtain ⟨s, h⟩ := h
  by_cases hk : k ∈ R
  · rw [isIn_t hk]
    have HH := Lib.hid h
    have HX := Lib.hid hk
    have hnil := fun W : World => run_neq_map_nil (P := Try.prog) W _ _ _ (some (s.Mb k)) Try.underlying134
    clear h hk
    go_enter Try.func39, Try.ntmps39
    go_wp2_with fail
    refine (blockers_in_p HH.out hn HX.out).mono ?_
    rintro e w1 ⟨rfl, k1⟩
    go_wp2_with fail
    go_ret
    exact ⟨rfl, k1⟩
  · rw [isIn_f hk]
    have HH := Lib.hid h
    have HX := Lib.hid hk
    have HO := Lib.hid hok
    have hnil := fun W : World => run_neq_map_nil (P := Try.prog) W _ _ _ none Try.underlying134
    clear h hk hok
    go_enter Try.func39, Try.ntmps39
    go_wp2_with fail
    refine (blockers_out_p HH.out HO.out HX.out).mono ?_
    rintro e w1 ⟨rfl, k1⟩
    go_wp2_with fail
    go_ret
    exact ⟨rfl, k1⟩
theorem len_p (h : BTP w B pb R Ps n) :
    Calls Try.prog 37 #[.pointer (some ⟨pb, 0, none⟩)] w fun e w' => e = .returned (.int .i64 R.length) ∧ w = w' := by
  obtain ⟨s, h⟩ := h
  have c1 := h.here.cell 1
  simp only [List.getElem?_toArray, List.getElem?_cons_zero, List.getElem?_cons_succ] at c1
  have hl := fun ty => h.hd.len Try.underlying137 ty
  clear h
  go_enter Try.func37, Try.ntmps37
  go_wp2
  go_ret
  exact ⟨rfl, rfl⟩
theorem pairs_p (h : BTP w B pb R Ps n) :
    Calls Try.prog 38 #[.pointer (some ⟨pb, 0, none⟩)] w fun e w' => e = .returned (.int .i64 Ps.length) ∧ w = w' := by
  obtain ⟨s, h⟩ := h
  have c2 := h.here.cell 2
  simp only [List.getElem?_toArray, List.getElem?_cons_zero, List.getElem?_cons_succ] at c2
  clear h
  go_enter Try.func38, Try.ntmps38
  go_wp2
  go_ret
  exact ⟨rfl, rfl⟩
end
end Go.Proofs.Ytodghgeghpbdlaa
