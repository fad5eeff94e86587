/- Blocks (block.Blocks[retiary/api.Triple,string]): what lies in memory; look, blockers, Len, Pairs. -/
import Derived.Test.YtodghgeghpbdlaaBqD
import Derived.Test.YtodghgeghpbdlaaBMath
import Derived.Test.YtodghgeghpbdlaaBKeys
namespace Go.Proofs.Ytodghgeghpbdlaa
open Go.RowKit Go.Maps Go.WideMaps
set_option maxRecDepth 100000

/-- What isn't seen of Blocks. -/
structure SQ where
  p : Nat
  bh : Nat
  m : Value
  g : Nat → Nat
  row : List Nat
  vals : List ((Int × Int × Int) × Option Nat)
  H : (Int × Int × Int) → Nat
  Mb : (Int × Int × Int) → Nat
/-- The blocks that a call on Blocks may turn. -/
def FBQ (w : World) (B k : Nat) : Prop := B ≤ k ∧ ((∃ es c, w.heap[k]? = some (.map es c)) ∨ ∃ cs t f, w.heap[k]? = some (.cells cs t f) ∧ (t = 156 ∨ t = 197 ∨ t = 219))
/-- Block pb is Blocks of the owners R and the pairs Ps; all of it lies from B on. -/
structure BSQ (w : World) (B pb : Nat) (R : List (Int × Int × Int)) (Ps : List ((Int × Int × Int) × ByteArray)) (n : Nat) (s : SQ) : Prop where
  baseB : B ≤ pb
  baseH : B ≤ s.bh
  here : Blk w pb 156 #[.pointer (some ⟨s.p, 0, none⟩), .map (some s.bh), .int .i64 Ps.length]
  lst : LstQ w B s.p s.m s.g s.row s.vals
  rowR : s.row = R.map s.H
  rise : s.row.Pairwise (fun a b => a < b)
  hv : ∀ k ∈ R, s.vals[s.H k - 1]? = some (k, some (s.Mb k))
  hd : MapF K3 (.int .i64 0) w s.bh R (fun k => .int .i64 (s.H k : Nat))
  bl : ∀ k ∈ R, B ≤ s.Mb k ∧ MapF KS (.bool false) w (s.Mb k) (bls Ps k) (fun _ => .bool true)
  am : s.m ≠ .map (some s.bh)
  amb : ∀ k ∈ R, s.m ≠ .map (some (s.Mb k)) ∧ s.Mb k ≠ s.bh
  inj : ∀ k ∈ R, ∀ k' ∈ R, s.Mb k = s.Mb k' → k = k'
  ndP : Ps.Nodup
  sub : ∀ x ∈ Ps, x.1 ∈ R
  lv : s.vals.length ≤ n
  lp : Ps.length ≤ n
def BTQ (w : World) (B pb : Nat) (R : List (Int × Int × Int)) (Ps : List ((Int × Int × Int) × ByteArray)) (n : Nat) : Prop := ∃ s, BSQ w B pb R Ps n s
section
variable {w w' : World} {B pb n : Nat} {R : List (Int × Int × Int)} {Ps : List ((Int × Int × Int) × ByteArray)} {s : SQ}
theorem BSQ.nodup (h : BSQ w B pb R Ps n s) : R.Nodup := h.hd.nodup
theorem FBQ.of_fo (h : BSQ w B pb R Ps n s) {k : Nat} (hk : FoQ w B s.m k) : FBQ w B k := by
  refine ⟨hk.1, ?_⟩
  rcases hk.2 with e | ⟨cs, f, e⟩
  · rcases h.lst.mp with ⟨e2, _⟩ | ⟨bm, D, e2, _, ⟨es, c, hbb, _⟩, _⟩
    · rw [e] at e2; cases e2
    · rw [e] at e2; cases e2; exact .inl ⟨es, c, hbb⟩
  · rcases e with e | e
    · exact .inr ⟨cs, _, f, e, .inr (.inl rfl)⟩
    · exact .inr ⟨cs, _, f, e, .inr (.inr rfl)⟩
theorem BSQ.kept {F : Nat → Prop} (h : BSQ w B pb R Ps n s) (hk : Kept F w w') (hF : ∀ k, FBQ w B k → ¬ F k) : BSQ w' B pb R Ps n s := by
  refine ⟨h.baseB, h.baseH, h.here.kept hk (hF _ ⟨h.baseB, .inr ⟨_, _, _, h.here, .inl rfl⟩⟩), h.lst.kept hk (fun k hf => hF k (.of_fo h hf)), h.rowR, h.rise, h.hv, h.hd.kept hk (hF _ ⟨h.baseH, .inl h.hd.blk⟩), fun k hkR => ?_, h.am, h.amb, h.inj, h.ndP, h.sub, h.lv, h.lp⟩
  obtain ⟨h1, h2⟩ := h.bl k hkR
  exact ⟨h1, h2.kept hk (hF _ ⟨h1, .inl h2.blk⟩)⟩
theorem BSQ.keptN (h : BSQ w B pb R Ps n s) (hk : Kept Nil w w') : BSQ w' B pb R Ps n s := h.kept hk (fun _ _ e => e)
theorem BSQ.more {n' : Nat} (h : BSQ w B pb R Ps n s) (hn : n ≤ n') : BSQ w B pb R Ps n' s := { h with lv := Nat.le_trans h.lv hn, lp := Nat.le_trans h.lp hn }
theorem BTQ.kept {F : Nat → Prop} (h : BTQ w B pb R Ps n) (hk : Kept F w w') (hF : ∀ k, FBQ w B k → ¬ F k) : BTQ w' B pb R Ps n := by obtain ⟨s, h⟩ := h; exact ⟨s, h.kept hk hF⟩
theorem BTQ.keptN (h : BTQ w B pb R Ps n) (hk : Kept Nil w w') : BTQ w' B pb R Ps n := h.kept hk (fun _ _ e => e)
theorem BTQ.more {n' : Nat} (h : BTQ w B pb R Ps n) (hn : n ≤ n') : BTQ w B pb R Ps n' := by obtain ⟨s, h⟩ := h; exact ⟨s, h.more hn⟩
theorem FBQ.trans {a b c : World} (h : Kept (FBQ a B) a b) (k : Kept (FBQ b B) b c) : Kept (FBQ a B) a c := by
  refine h.trans k (fun i hi hf => ?_)
  by_cases hF : FBQ a B i
  · exact hF
  · have e := h.block i hi hF
    unfold FBQ at hf ⊢
    rw [e] at hf
    exact hf
theorem FBQ.after {a b c : World} (h : Kept Nil a b) (k : Kept (FBQ b B) b c) : Kept (FBQ a B) a c := FBQ.trans (h.mono (fun _ _ e => e.elim)) k
/-- A block of another type. -/
theorem FBQ.other {k : Nat} {cs : Array Value} {t : TypeId} {f : Nat × Nat} (hb : w.heap[k]? = some (.cells cs t f)) (h1 : t ≠ 156) (h2 : t ≠ 197) (h3 : t ≠ 219) : ¬ FBQ w B k := by
  rintro ⟨_, ⟨es, c, e⟩ | ⟨cs', t', f', e, ht⟩⟩
  · rw [hb] at e; cases e
  · rw [hb] at e; cases e
    rcases ht with e | e | e
    · exact h1 e
    · exact h2 e
    · exact h3 e
theorem BSQ.okK (h : BSQ w B pb R Ps n s) {k : (Int × Int × Int)} (hk : k ∈ R) : K3.ok k := h.hd.ok k hk
theorem BSQ.Hmem (h : BSQ w B pb R Ps n s) {k : (Int × Int × Int)} (hk : k ∈ R) : s.H k ∈ s.row := by rw [h.rowR]; exact List.mem_map_of_mem hk
theorem BSQ.Hpos (h : BSQ w B pb R Ps n s) {k : (Int × Int × Int)} (hk : k ∈ R) : 0 < s.H k ∧ s.H k ≤ s.vals.length := h.lst.range _ (h.Hmem hk)
end

theorem lookKD_q (w : World) :
    CallsD Try.prog 115 #[] .returning w fun e u' w' => e = .returned (.tuple #[]) ∧ u' = .returning ∧ w' = w := by
  refine callsD_of_wpS Try.func115 rfl fun c₀ cs hu => ?_
  apply wpS_region
  simp [wpOpsS, go_sem, recoverD, hu, Try.ntmps115]
  cases c₀
  simp_all [bodyPostS, results, Try.results115]
theorem lookK_q {w : World} {m : Value} {x : Int} {k : (Int × Int × Int)} (hlk : ∀ W, Kept Nil w W → (Instr.lookup 154 m (.agg #[.int .i64 k.1, .int .i64 k.2.1, .int .i64 k.2.2]) false).run Try.prog W = .ok (.int .i64 x) W) :
    Calls Try.prog 83 #[m, .agg #[.int .i64 k.1, .int .i64 k.2.1, .int .i64 k.2.2]] w fun e w' => e = .returned (.tuple #[.int .i64 x, .bool true]) ∧ Kept Nil w w' := by
  have hl := hlk _ ((Kept.refl Nil w).alloc (.cells #[.int .i64 k.1, .int .i64 k.2.1, .int .i64 k.2.2] 38))
  have HK := Lib.hid ((Kept.refl Nil w).alloc (.cells #[.int .i64 k.1, .int .i64 k.2.1, .int .i64 k.2.2] 38))
  clear hlk
  go_enter_defers Try.func83, Try.ntmps83
  go_wp2
  refine leaves_cons (f := 115) (args := #[]) (by simp) (by simp [go_sem]) ?_
  refine (lookKD_q _).mono ?_
  rintro e u' w'' ⟨rfl, rfl, rfl⟩
  simp [Leaves, settle, results, Try.results83, go_sem]
  exact HK.out
theorem lookVD_q (w : World) :
    CallsD Try.prog 118 #[] .returning w fun e u' w' => e = .returned (.tuple #[]) ∧ u' = .returning ∧ w' = w := by
  refine callsD_of_wpS Try.func118 rfl fun c₀ cs hu => ?_
  apply wpS_region
  simp [wpOpsS, go_sem, recoverD, hu, Try.ntmps118]
  cases c₀
  simp_all [bodyPostS, results, Try.results118]
theorem lookV_q {w : World} {m : Value} {x : Bool} {v : ByteArray} (hl : (Instr.lookup 151 m (.string v) false).run Try.prog w = .ok (.bool x) w) :
    Calls Try.prog 86 #[m, .string v] w fun e w' => e = .returned (.tuple #[.bool x, .bool true]) ∧ w' = w := by
  go_enter_defers Try.func86, Try.ntmps86
  go_wp2
  refine leaves_cons (f := 118) (args := #[]) (by simp) (by simp [go_sem]) ?_
  refine (lookVD_q _).mono ?_
  rintro e u' w'' ⟨rfl, rfl, rfl⟩
  simp [Leaves, settle, results, Try.results86, go_sem]
theorem zeroB_q (w : World) : (zeroValue 4).run Try.prog w = .ok (.bool false) w := by kernel_rfl
section
variable {w w' : World} {B pb n : Nat} {R : List (Int × Int × Int)} {Ps : List ((Int × Int × Int) × ByteArray)} {s : SQ}
theorem BSQ.look_in (h : BSQ w B pb R Ps n s) {k : (Int × Int × Int)} (hk : k ∈ R) :
    Calls Try.prog 83 #[.map (some s.bh), .agg #[.int .i64 k.1, .int .i64 k.2.1, .int .i64 k.2.2]] w fun e w' => e = .returned (.tuple #[.int .i64 (s.H k : Nat), .bool true]) ∧ Kept Nil w w' :=
  lookK_q (fun _ kW => (h.keptN kW).hd.lookI_in Try.underlying154 (zeroI _) hk)
theorem BSQ.look_out (h : BSQ w B pb R Ps n s) {k : (Int × Int × Int)} (hk : K3.ok k) (hn : k ∉ R) :
    Calls Try.prog 83 #[.map (some s.bh), .agg #[.int .i64 k.1, .int .i64 k.2.1, .int .i64 k.2.2]] w fun e w' => e = .returned (.tuple #[.int .i64 0, .bool true]) ∧ Kept Nil w w' :=
  lookK_q (fun _ kW => (h.keptN kW).hd.lookI_out Try.underlying154 (zeroI _) hk hn)
theorem BSQ.has_in (h : BSQ w B pb R Ps n s) {k : (Int × Int × Int)} {v : ByteArray} (hk : k ∈ R) (hv : (k, v) ∈ Ps) :
    Calls Try.prog 86 #[.map (some (s.Mb k)), .string v] w fun e w' => e = .returned (.tuple #[.bool true, .bool true]) ∧ w' = w :=
  lookV_q ((h.bl k hk).2.lookB_in Try.underlying151 (zeroB_q _) (mem_bls.2 hv))
theorem BSQ.has_out (h : BSQ w B pb R Ps n s) {k : (Int × Int × Int)} {v : ByteArray} (hk : k ∈ R) (ho : KS.ok v) (hv : (k, v) ∉ Ps) :
    Calls Try.prog 86 #[.map (some (s.Mb k)), .string v] w fun e w' => e = .returned (.tuple #[.bool false, .bool true]) ∧ w' = w :=
  lookV_q ((h.bl k hk).2.lookB_out Try.underlying151 (zeroB_q _) ho (fun hm => hv (mem_bls.1 hm)))
theorem has_nil_q {v : ByteArray} (ho : KS.ok v) :
    Calls Try.prog 86 #[.map none, .string v] w fun e w' => e = .returned (.tuple #[.bool false, .bool true]) ∧ w' = w :=
  lookV_q (look_nil (w := w) false KS.keyed Try.underlying151 (zeroB_q _) (KS.key v ho))
/-- Who blocks an owner: its map. -/
theorem blockers_in_q (h : BSQ w B pb R Ps n s) (hn : n ≤ 5000) {k : (Int × Int × Int)} (hk : k ∈ R) :
    Calls Try.prog 85 #[.pointer (some ⟨pb, 0, none⟩), .agg #[.int .i64 k.1, .int .i64 k.2.1, .int .i64 k.2.2]] w fun e w' => e = .returned (.map (some (s.Mb k))) ∧ Kept Nil w w' := by
  have HH := Lib.hid h
  have HX := Lib.hid hk
  have hlv := h.lv
  have hpos := h.Hpos hk
  have hne : (((s.H k : Nat) : Int) == 0) = false := by simp; omega
  have HP := Lib.hid hpos
  clear h hk hpos
  go_enter Try.func85, Try.ntmps85
  go_upto_region 1 with fail
  have HK := Lib.hid ((Kept.refl Nil w).alloc (.cells #[.int .i64 k.1, .int .i64 k.2.1, .int .i64 k.2.2] 38))
  have BK := Lib.hid (Blk.new w 38 #[.int .i64 k.1, .int .i64 k.2.1, .int .i64 k.2.2])
  have H0 := Lib.hid (HH.out.keptN HK.out)
  generalize w.alloc (.cells #[.int .i64 k.1, .int .i64 k.2.1, .int .i64 k.2.2] 38) = w0 at *
  generalize w.heap.size = b3 at *
  have q0 := BK.out.cell 0
  have q1 := BK.out.cell 1
  have q2 := BK.out.cell 2
  have c0 := H0.out.here.cell 0
  have c1 := H0.out.here.cell 1
  simp only [List.getElem?_toArray, List.getElem?_cons_zero, List.getElem?_cons_succ] at c0 c1
  have CL := Lib.hid (fun W (kW : Kept Nil w0 W) => (H0.out.keptN kW).look_in HX.out)
  have CG := Lib.hid (fun W (kW : Kept Nil w0 W) => getH_q (H0.out.keptN kW).lst (by omega) (H0.out.Hmem HX.out) (H0.out.hv k HX.out))
  obtain ⟨x, hx⟩ : ∃ x, s.H k = x := ⟨_, rfl⟩
  simp only [hx] at CL CG hne
  clear hx
  have O := Lib.hid (show Kept Nil w0 w0.drew from (Kept.refl Nil w0).drew)
  have hb0 := H0.out.here.lt
  have hb3 := BK.out.lt
  have c1n : ∀ n : CW (Kept Nil w0), n.w.cell? ⟨pb, 1, none⟩ = some (.map (some s.bh)) := fun n => (n.of.cell (p := ⟨pb, 1, none⟩) hb0 (fun e => e)).trans c1
  have q0n : ∀ n : CW (Kept Nil w0), n.w.cell? ⟨b3, 0, none⟩ = some (.int .i64 k.1) := fun n => (n.of.cell (p := ⟨b3, 0, none⟩) hb3 (fun e => e)).trans q0
  have q1n : ∀ n : CW (Kept Nil w0), n.w.cell? ⟨b3, 1, none⟩ = some (.int .i64 k.2.1) := fun n => (n.of.cell (p := ⟨b3, 1, none⟩) hb3 (fun e => e)).trans q1
  have q2n : ∀ n : CW (Kept Nil w0), n.w.cell? ⟨b3, 2, none⟩ = some (.int .i64 k.2.2) := fun n => (n.of.cell (p := ⟨b3, 2, none⟩) hb3 (fun e => e)).trans q2
  go_wp2_with fail
  refine wp_region_in (Kept Nil w0) (by kernel_rfl) (by kernel_rfl) O.out ?_
  have inst : Nonempty (CW (Kept Nil w0)) := ⟨⟨_, O.out⟩⟩
  repeat (go_big_quiet_step ((go_at_call 83; with_reducible exact call_in (fun _ _ h k => h.trans k (fun _ _ e => e)) (CL.out _ (CW.of _)))))
  refine wpQuiet_nil ?_
  rintro _ ⟨n, rfl⟩
  have k1 := n.of
  generalize n.w = w1 at *
  clear c1n q0n q1n q2n hb0 hb3
  have K1 := Lib.hid k1
  have H1 := H0.out.keptN k1
  have d0 := H1.here.cell 0
  simp only [List.getElem?_toArray, List.getElem?_cons_zero] at d0
  clear k1 c0 c1 H1
  go_wp2_with fail
  refine (CG.out w1 K1.out).mono ?_
  rintro e w2 ⟨rfl, k2⟩
  have K2 := Lib.hid ((HK.out.trans K1.out (fun _ _ e => e)).trans k2 (fun _ _ e => e))
  clear k2
  go_wp2_with fail
  go_ret
  exact ⟨rfl, K2.out.alloc _⟩
end
end Go.Proofs.Ytodghgeghpbdlaa
