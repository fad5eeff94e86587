/- Blocks (block.Blocks[string,int]): what lies in memory; look, blockers, Len, Pairs. -/
import Derived.Test.YtodghgeghpbdlaaBpD
import Derived.Test.YtodghgeghpbdlaaBpE
import Derived.Test.YtodghgeghpbdlaaBMath
import Derived.Test.YtodghgeghpbdlaaBKeys
namespace Go.Proofs.Ytodghgeghpbdlaa
open Go.RowKit Go.Maps Go.WideMaps
set_option maxRecDepth 100000

/-- What isn't seen of Blocks. -/
structure SP where
  p : Nat
  bh : Nat
  m : Value
  g : Nat → Nat
  row : List Nat
  vals : List (ByteArray × Option Nat)
  H : ByteArray → Nat
  Mb : ByteArray → Nat
/-- The blocks that a call on Blocks may turn. -/
def FBP (w : World) (B k : Nat) : Prop := B ≤ k ∧ ((∃ es c, w.heap[k]? = some (.map es c)) ∨ ∃ cs t f, w.heap[k]? = some (.cells cs t f) ∧ (t = 139 ∨ t = 185 ∨ t = 188))
/-- Block pb is Blocks of the owners R and the pairs Ps; all of it lies from B on. -/
structure BSP (w : World) (B pb : Nat) (R : List ByteArray) (Ps : List (ByteArray × Int)) (n : Nat) (s : SP) : Prop where
  baseB : B ≤ pb
  baseH : B ≤ s.bh
  here : Blk w pb 139 #[.pointer (some ⟨s.p, 0, none⟩), .map (some s.bh), .int .i64 Ps.length]
  lst : LstP w B s.p s.m s.g s.row s.vals
  rowR : s.row = R.map s.H
  rise : s.row.Pairwise (fun a b => a < b)
  hv : ∀ k ∈ R, s.vals[s.H k - 1]? = some (k, some (s.Mb k))
  hd : MapF KS (.int .i64 0) w s.bh R (fun k => .int .i64 (s.H k : Nat))
  bl : ∀ k ∈ R, B ≤ s.Mb k ∧ MapF KI (.bool false) w (s.Mb k) (bls Ps k) (fun _ => .bool true)
  am : s.m ≠ .map (some s.bh)
  amb : ∀ k ∈ R, s.m ≠ .map (some (s.Mb k)) ∧ s.Mb k ≠ s.bh
  inj : ∀ k ∈ R, ∀ k' ∈ R, s.Mb k = s.Mb k' → k = k'
  ndP : Ps.Nodup
  sub : ∀ x ∈ Ps, x.1 ∈ R
  lv : s.vals.length ≤ n
  lp : Ps.length ≤ n
def BTP (w : World) (B pb : Nat) (R : List ByteArray) (Ps : List (ByteArray × Int)) (n : Nat) : Prop := ∃ s, BSP w B pb R Ps n s
section
variable {w w' : World} {B pb n : Nat} {R : List ByteArray} {Ps : List (ByteArray × Int)} {s : SP}
theorem BSP.nodup (h : BSP w B pb R Ps n s) : R.Nodup := h.hd.nodup
theorem FBP.of_fo (h : BSP w B pb R Ps n s) {k : Nat} (hk : FoP w B s.m k) : FBP w B k := by
  refine ⟨hk.1, ?_⟩
  rcases hk.2 with e | ⟨cs, f, e⟩
  · rcases h.lst.mp with ⟨e2, _⟩ | ⟨bm, D, e2, _, ⟨es, c, hbb, _⟩, _⟩
    · rw [e] at e2; cases e2
    · rw [e] at e2; cases e2; exact .inl ⟨es, c, hbb⟩
  · rcases e with e | e
    · exact .inr ⟨cs, _, f, e, .inr (.inl rfl)⟩
    · exact .inr ⟨cs, _, f, e, .inr (.inr rfl)⟩
theorem BSP.kept {F : Nat → Prop} (h : BSP w B pb R Ps n s) (hk : Kept F w w') (hF : ∀ k, FBP w B k → ¬ F k) : BSP w' B pb R Ps n s := by
  refine ⟨h.baseB, h.baseH, h.here.kept hk (hF _ ⟨h.baseB, .inr ⟨_, _, _, h.here, .inl rfl⟩⟩), h.lst.kept hk (fun k hf => hF k (.of_fo h hf)), h.rowR, h.rise, h.hv, h.hd.kept hk (hF _ ⟨h.baseH, .inl h.hd.blk⟩), fun k hkR => ?_, h.am, h.amb, h.inj, h.ndP, h.sub, h.lv, h.lp⟩
  obtain ⟨h1, h2⟩ := h.bl k hkR
  exact ⟨h1, h2.kept hk (hF _ ⟨h1, .inl h2.blk⟩)⟩
theorem BSP.keptN (h : BSP w B pb R Ps n s) (hk : Kept Nil w w') : BSP w' B pb R Ps n s := h.kept hk (fun _ _ e => e)
theorem BSP.more {n' : Nat} (h : BSP w B pb R Ps n s) (hn : n ≤ n') : BSP w B pb R Ps n' s := { h with lv := Nat.le_trans h.lv hn, lp := Nat.le_trans h.lp hn }
theorem BTP.kept {F : Nat → Prop} (h : BTP w B pb R Ps n) (hk : Kept F w w') (hF : ∀ k, FBP w B k → ¬ F k) : BTP w' B pb R Ps n := by obtain ⟨s, h⟩ := h; exact ⟨s, h.kept hk hF⟩
theorem BTP.keptN (h : BTP w B pb R Ps n) (hk : Kept Nil w w') : BTP w' B pb R Ps n := h.kept hk (fun _ _ e => e)
theorem BTP.more {n' : Nat} (h : BTP w B pb R Ps n) (hn : n ≤ n') : BTP w B pb R Ps n' := by obtain ⟨s, h⟩ := h; exact ⟨s, h.more hn⟩
theorem FBP.trans {a b c : World} (h : Kept (FBP a B) a b) (k : Kept (FBP b B) b c) : Kept (FBP a B) a c := by
  refine h.trans k (fun i hi hf => ?_)
  by_cases hF : FBP a B i
  · exact hF
  · have e := h.block i hi hF
    unfold FBP at hf ⊢
    rw [e] at hf
    exact hf
theorem FBP.after {a b c : World} (h : Kept Nil a b) (k : Kept (FBP b B) b c) : Kept (FBP a B) a c := FBP.trans (h.mono (fun _ _ e => e.elim)) k
/-- A block of another type. -/
theorem FBP.other {k : Nat} {cs : Array Value} {t : TypeId} {f : Nat × Nat} (hb : w.heap[k]? = some (.cells cs t f)) (h1 : t ≠ 139) (h2 : t ≠ 185) (h3 : t ≠ 188) : ¬ FBP w B k := by
  rintro ⟨_, ⟨es, c, e⟩ | ⟨cs', t', f', e, ht⟩⟩
  · rw [hb] at e; cases e
  · rw [hb] at e; cases e
    rcases ht with e | e | e
    · exact h1 e
    · exact h2 e
    · exact h3 e
theorem BSP.okK (h : BSP w B pb R Ps n s) {k : ByteArray} (hk : k ∈ R) : KS.ok k := h.hd.ok k hk
theorem BSP.Hmem (h : BSP w B pb R Ps n s) {k : ByteArray} (hk : k ∈ R) : s.H k ∈ s.row := by rw [h.rowR]; exact List.mem_map_of_mem hk
theorem BSP.Hpos (h : BSP w B pb R Ps n s) {k : ByteArray} (hk : k ∈ R) : 0 < s.H k ∧ s.H k ≤ s.vals.length := h.lst.range _ (h.Hmem hk)
end

theorem lookKD_p (w : World) :
    CallsD Try.prog 109 #[] .returning w fun e u' w' => e = .returned (.tuple #[]) ∧ u' = .returning ∧ w' = w := by
  refine callsD_of_wpS Try.func109 rfl fun c₀ cs hu => ?_
  apply wpS_region
  simp [wpOpsS, go_sem, recoverD, hu, Try.ntmps109]
  cases c₀
  simp_all [bodyPostS, results, Try.results109]
theorem lookK_p {w : World} {m : Value} {x : Int} {k : ByteArray} (hlk : ∀ W, Kept Nil w W → (Instr.lookup 137 m (.string k) false).run Try.prog W = .ok (.int .i64 x) W) :
    Calls Try.prog 74 #[m, .string k] w fun e w' => e = .returned (.tuple #[.int .i64 x, .bool true]) ∧ Kept Nil w w' := by
  have hl := hlk w (Kept.refl _ _)
  have HK := Lib.hid (Kept.refl Nil w)
  clear hlk
  go_enter_defers Try.func74, Try.ntmps74
  go_wp2
  refine leaves_cons (f := 109) (args := #[]) (by simp) (by simp [go_sem]) ?_
  refine (lookKD_p _).mono ?_
  rintro e u' w'' ⟨rfl, rfl, rfl⟩
  simp [Leaves, settle, results, Try.results74, go_sem]
  exact HK.out
theorem lookVD_p (w : World) :
    CallsD Try.prog 113 #[] .returning w fun e u' w' => e = .returned (.tuple #[]) ∧ u' = .returning ∧ w' = w := by
  refine callsD_of_wpS Try.func113 rfl fun c₀ cs hu => ?_
  apply wpS_region
  simp [wpOpsS, go_sem, recoverD, hu, Try.ntmps113]
  cases c₀
  simp_all [bodyPostS, results, Try.results113]
theorem lookV_p {w : World} {m : Value} {x : Bool} {v : Int} (hl : (Instr.lookup 134 m (.int .i64 v) false).run Try.prog w = .ok (.bool x) w) :
    Calls Try.prog 78 #[m, .int .i64 v] w fun e w' => e = .returned (.tuple #[.bool x, .bool true]) ∧ w' = w := by
  go_enter_defers Try.func78, Try.ntmps78
  go_wp2
  refine leaves_cons (f := 113) (args := #[]) (by simp) (by simp [go_sem]) ?_
  refine (lookVD_p _).mono ?_
  rintro e u' w'' ⟨rfl, rfl, rfl⟩
  simp [Leaves, settle, results, Try.results78, go_sem]
theorem zeroB_p (w : World) : (zeroValue 4).run Try.prog w = .ok (.bool false) w := by kernel_rfl
section
variable {w w' : World} {B pb n : Nat} {R : List ByteArray} {Ps : List (ByteArray × Int)} {s : SP}
theorem BSP.look_in (h : BSP w B pb R Ps n s) {k : ByteArray} (hk : k ∈ R) :
    Calls Try.prog 74 #[.map (some s.bh), .string k] w fun e w' => e = .returned (.tuple #[.int .i64 (s.H k : Nat), .bool true]) ∧ Kept Nil w w' :=
  lookK_p (fun _ kW => (h.keptN kW).hd.lookI_in Try.underlying137 (zeroI _) hk)
theorem BSP.look_out (h : BSP w B pb R Ps n s) {k : ByteArray} (hk : KS.ok k) (hn : k ∉ R) :
    Calls Try.prog 74 #[.map (some s.bh), .string k] w fun e w' => e = .returned (.tuple #[.int .i64 0, .bool true]) ∧ Kept Nil w w' :=
  lookK_p (fun _ kW => (h.keptN kW).hd.lookI_out Try.underlying137 (zeroI _) hk hn)
theorem BSP.has_in (h : BSP w B pb R Ps n s) {k : ByteArray} {v : Int} (hk : k ∈ R) (hv : (k, v) ∈ Ps) :
    Calls Try.prog 78 #[.map (some (s.Mb k)), .int .i64 v] w fun e w' => e = .returned (.tuple #[.bool true, .bool true]) ∧ w' = w :=
  lookV_p ((h.bl k hk).2.lookB_in Try.underlying134 (zeroB_p _) (mem_bls.2 hv))
theorem BSP.has_out (h : BSP w B pb R Ps n s) {k : ByteArray} {v : Int} (hk : k ∈ R) (ho : KI.ok v) (hv : (k, v) ∉ Ps) :
    Calls Try.prog 78 #[.map (some (s.Mb k)), .int .i64 v] w fun e w' => e = .returned (.tuple #[.bool false, .bool true]) ∧ w' = w :=
  lookV_p ((h.bl k hk).2.lookB_out Try.underlying134 (zeroB_p _) ho (fun hm => hv (mem_bls.1 hm)))
theorem has_nil_p {v : Int} (ho : KI.ok v) :
    Calls Try.prog 78 #[.map none, .int .i64 v] w fun e w' => e = .returned (.tuple #[.bool false, .bool true]) ∧ w' = w :=
  lookV_p (look_nil (w := w) false KI.keyed Try.underlying134 (zeroB_p _) (KI.key v ho))
/-- Who blocks an owner: its map. -/
theorem blockers_in_p (h : BSP w B pb R Ps n s) (hn : n ≤ 5000) {k : ByteArray} (hk : k ∈ R) :
    Calls Try.prog 77 #[.pointer (some ⟨pb, 0, none⟩), .string k] w fun e w' => e = .returned (.map (some (s.Mb k))) ∧ Kept Nil w w' := by
  have HH := Lib.hid h
  have HX := Lib.hid hk
  have hlv := h.lv
  have hpos := h.Hpos hk
  have hne : (((s.H k : Nat) : Int) == 0) = false := by simp; omega
  have HP := Lib.hid hpos
  clear h hk hpos
  have HK := Lib.hid (Kept.refl Nil w)
  obtain ⟨w0, hw0⟩ : ∃ w0, w0 = w := ⟨_, rfl⟩
  rw [← hw0] at HK ⊢
  have H0 := Lib.hid (show BSP w0 B pb R Ps n s from hw0 ▸ HH.out)
  go_enter Try.func77, Try.ntmps77
  have c0 := H0.out.here.cell 0
  have c1 := H0.out.here.cell 1
  simp only [List.getElem?_toArray, List.getElem?_cons_zero, List.getElem?_cons_succ] at c0 c1
  have CL := Lib.hid (fun W (kW : Kept Nil w0 W) => (H0.out.keptN kW).look_in HX.out)
  have CG := Lib.hid (fun W (kW : Kept Nil w0 W) => getH_p (H0.out.keptN kW).lst (by omega) (H0.out.Hmem HX.out) (H0.out.hv k HX.out))
  obtain ⟨x, hx⟩ : ∃ x, s.H k = x := ⟨_, rfl⟩
  simp only [hx] at CL CG hne
  clear hx
  clear hw0
  go_wp2_with fail
  refine (CL.out w0 (Kept.refl _ _)).mono ?_
  rintro e w1 ⟨rfl, k1⟩
  have K1 := Lib.hid k1
  have H1 := H0.out.keptN k1
  have d0 := H1.here.cell 0
  simp only [List.getElem?_toArray, List.getElem?_cons_zero] at d0
  clear k1 c0 c1 H1
  go_wp2_with fail
  refine (CG.out w1 K1.out).mono ?_
  rintro e w2 ⟨rfl, k2⟩
  have K2 := Lib.hid ((HK.out.trans K1.out (fun _ _ e => e)).trans k2 (fun _ _ e => e))
  clear k2
  go_wp2_with fail
  go_ret
  exact ⟨rfl, K2.out.alloc _⟩
end
end Go.Proofs.Ytodghgeghpbdlaa
