/- Trees at int: New, Add, Parent, Place, Fact, Len, At, With, Kids. -/
import Derived.Test.YtbaplplaokbnnaaMiD
namespace Go.Proofs.Ytbaplplaokbnnaa
open Go.RowKit Go.Maps Go.WideMaps
set_option maxRecDepth 100000

def locI_i (L : List (Tok Int)) (id : Int) : Int := ((tok L id).map (·.loc)).getD 0
theorem zT_i (L : List (Tok Int)) (id : Int) : zT KI 0 (tok L id) = .agg #[.int .i64 (parI L id), .int .i64 (locI_i L id), .int .i64 (factI L id)] := by
  unfold parI locI_i factI
  cases tok L id <;> rfl
section
variable {w : World} {c : Nat → Nat} {p : Nat} {L : List (Tok Int)}
theorem field0_i (a : Int) (k : Int) (f : Int) (W : World) : (Instr.field 92 (.agg #[.int .i64 a, .int .i64 k, .int .i64 f]) 0).run Try.prog W = .ok (.int .i64 a) W := by
  simp [Instr.field, run_underlying Try.underlying92, part, isAgg, run_underlying Try.underlying3, asAgg]
theorem new_i (w : World) {k : Int} (hk : KI.ok k) :
    Calls Try.prog 17 #[.int .i64 k] w fun e w' => ∃ p c, e = .returned (.pointer (some ⟨p, 0, none⟩)) ∧ Trei w' c p [⟨0, k, 0, false⟩] ∧ (∀ b, c b ≠ 0 → w.heap.size ≤ b) ∧ Kept Nil w w' := by
  have hmm := @run_makeMap Try.prog
  have kA : Kept Nil w ((w.alloc (.map #[] 0)).alloc (.cells #[.map (some w.heap.size), .map none, .map none, .map none, .int .i64 0] 89)) := ((Kept.refl Nil w).alloc _).alloc _
  have hT : Trei ((w.alloc (.map #[] 0)).alloc (.cells #[.map (some w.heap.size), .map none, .map none, .map none, .int .i64 0] 89)) (fun b => if b = w.heap.size then 2 else if b = w.heap.size + 1 then 1 else 0) (w.heap.size + 1) [] := by
    have hs : ((w.alloc (.map #[] 0)).alloc (.cells #[.map (some w.heap.size), .map none, .map none, .map none, .int .i64 0] 89)).heap.size = w.heap.size + 1 + 1 := by simp
    have no : ∀ (i b : Nat), 3 ≤ i → (if b = w.heap.size then 2 else if b = w.heap.size + 1 then 1 else 0) = i → False := fun i b hi e => by
      split at e
      · omega
      · split at e <;> omega
    refine ⟨fun x hx => (by cases hx), 0, w.heap.size, .map none, .map none, .map none, fun _ => none, fun _ => none, fun _ => none, Nat.le_refl _, ⟨fun b e => ?_, by simp, by simp, ?_, ⟨.map [], ?_, TokD.nil⟩, ?_, ?_, ?_⟩⟩
    · rw [hs]
      split at e
      · omega
      · split at e <;> omega
    · have := Blk.new (w.alloc (.map #[] 0)) 89 #[.map (some w.heap.size), .map none, .map none, .map none, .int .i64 0]
      rwa [show (w.alloc (.map #[] 0)).heap.size = w.heap.size + 1 from Array.size_push _] at this
    · exact (World.ownsMap_made (H := Unit) w Try.prog 3 (tokE KI)).alloc _
    · exact (Not.start _).wider (fun _ e => e.elim) (fun b e => (no 3 b (by decide) e).elim)
    · exact (Not.start _).wider (fun _ e => e.elim) (fun b e => (no 4 b (by decide) e).elim)
    · exact (Not.start _).wider (fun _ e => e.elim) (fun b e => (no 5 b (by decide) e).elim)
  have HC := Lib.hid (put_i hT (by simp) 0 k 0 hk (by decide) (by decide))
  have KA := Lib.hid kA
  clear hT kA
  go_enter Try.func17, Try.ntmps17
  go_wp2_with fail
  refine HC.out.mono ?_
  rintro e w2 ⟨rfl, hG⟩
  have HG := Lib.hid hG
  clear hG HC
  go_wp2_with fail
  go_ret
  obtain ⟨c', a, b, d⟩ := HG.out
  have lo : ∀ b, c' b ≠ 0 → w.heap.size ≤ b := fun x hx => by
    rcases b x hx with e | e
    · dsimp only at e
      split at e
      · omega
      · split at e
        · omega
        · exact absurd rfl e
    · exact Nat.le_trans KA.out.size e
  refine ⟨_, c', rfl, a, lo, KA.out.trans d (fun i hi e => ?_)⟩
  dsimp only at e
  split at e
  · omega
  · split at e
    · omega
    · exact absurd rfl e
theorem parent_i (h : Trei w c p L) {id : Int} (hw : (Lit.int .i64 id).wf = true) :
    Calls Try.prog 45 #[.pointer (some ⟨p, 0, none⟩), .int .i64 id] w fun e w' => e = .returned (.int .i64 (parI L id)) ∧ w' = w := by
  obtain ⟨hok, n, bt, x1, x2, x3, g1, g2, g3, hn, t0⟩ := h
  have hlk := look_i t0 hok hw
  rw [zT_i] at hlk
  have c0 := t0.here.cell 0
  simp at c0
  have hf := field0_i (parI L id) (locI_i L id) (factI L id)
  clear t0 hok hn
  go_enter Try.func45, Try.ntmps45
  go_wp2
  go_ret
  exact ⟨rfl, rfl⟩
theorem kids_i (h : Trei w c p L) (hl : L.length ≤ 5000) {k : Int} (hk : (Lit.int .i64 k).wf = true) :
    Calls Try.prog 23 #[.pointer (some ⟨p, 0, none⟩), .int .i64 k] w fun e w' => ∃ a cap, e = .returned (.slice a (kids L k).length cap) ∧ Row cN 3 1 w' w.heap.size (.slice a (kids L k).length cap) (kids L k) ∧ Kept Nil w w' := by
  obtain ⟨hok, n, bt, x1, x2, x3, g1, g2, g3, hn, t0⟩ := h
  have c1 := t0.here.cell 3
  simp at c1
  have C := Lib.hid (noted_i c1 t0.n3 hk (Nat.le_trans (ids_length _ _) hl))
  generalize kids L k = l at *
  clear t0 hok hn
  go_enter Try.func23, Try.ntmps23
  go_wp2_with fail
  refine C.out.mono ?_
  rintro e w3 ⟨a, cap, rfl, r3, k3⟩
  have H3 := Lib.hid (And.intro r3 k3)
  clear r3 k3 C
  go_wp2_with fail
  go_ret
  exact ⟨a, cap, rfl, H3.out.1, H3.out.2⟩
theorem len_i (h : Trei w c p L) :
    Calls Try.prog 21 #[.pointer (some ⟨p, 0, none⟩)] w fun e w' => e = .returned (.int .i64 (liveN L)) ∧ w' = w := by
  obtain ⟨hok, n, bt, x1, x2, x3, g1, g2, g3, hn, t0⟩ := h
  have hln := t0.len Try.underlying87 3
  have c0 := t0.here.cell 0
  simp at c0
  clear t0 hok hn
  go_enter Try.func21, Try.ntmps21
  go_wp2
  go_ret
  exact ⟨rfl, rfl⟩
theorem place_i (h : Trei w c p L) {id : Int} (hw : (Lit.int .i64 id).wf = true) :
    Calls Try.prog 20 #[.pointer (some ⟨p, 0, none⟩), .int .i64 id] w fun e w' => e = .returned (.tuple #[.int .i64 (locI_i L id), .bool (tok L id).isSome]) ∧ Kept Nil w w' := by
  obtain ⟨hok, n, bt, x1, x2, x3, g1, g2, g3, hn, t0⟩ := h
  have hlk := look2_i t0 hok hw
  rw [zT_i] at hlk
  have c0 := t0.here.cell 0
  simp at c0
  have K := Lib.hid ((Kept.refl Nil w).alloc (.cells #[.int .i64 (parI L id), .int .i64 (locI_i L id), .int .i64 (factI L id)] 92))
  generalize locI_i L id = k at *
  generalize parI L id = a at *
  generalize factI L id = f at *
  generalize (tok L id).isSome = b at *
  clear t0 hok hn
  go_enter Try.func20, Try.ntmps20
  go_wp2
  go_ret2
  exact ⟨rfl, K.out⟩
theorem add_no_i (h : Trei w c p L) {pa : Int} (hw : (Lit.int .i64 pa).wf = true) (hno : tok L pa = none) (k : Int) (f : Int) :
    Calls Try.prog 18 #[.pointer (some ⟨p, 0, none⟩), .int .i64 pa, .int .i64 k, .int .i64 f] w fun e w' => e = .returned (.tuple #[.int .i64 0, .int .i64 16]) ∧ Kept Nil w w' := by
  obtain ⟨hok, n, bt, x1, x2, x3, g1, g2, g3, hn, t0⟩ := h
  have hlk := look2_i t0 hok hw
  rw [zT_i, hno] at hlk
  have c0 := t0.here.cell 0
  simp at c0 hlk
  have K := Lib.hid ((Kept.refl Nil w).alloc (.cells #[.int .i64 (parI L pa), .int .i64 (locI_i L pa), .int .i64 (factI L pa)] 92))
  generalize locI_i L pa = k' at *
  generalize parI L pa = a' at *
  generalize factI L pa = f' at *
  clear t0 hok hn
  go_enter Try.func18, Try.ntmps18
  go_wp2
  go_ret2
  exact ⟨rfl, K.out⟩
theorem add_yes_i (h : Trei w c p L) (hl : L.length ≤ 1000) {pa : Int} (hw : (Lit.int .i64 pa).wf = true) (hyes : tok L pa ≠ none) {k : Int} (hk : KI.ok k) {f : Int} (hf : (Lit.int .i64 f).wf = true) :
    Calls Try.prog 18 #[.pointer (some ⟨p, 0, none⟩), .int .i64 pa, .int .i64 k, .int .i64 f] w fun e w' => e = .returned (.tuple #[.int .i64 ((L.length : Int) + 1), .int .i64 0]) ∧ TreGi w w' c p (L ++ [⟨pa, k, f, false⟩]) := by
  have H := Lib.hid h
  obtain ⟨hok, n, bt, x1, x2, x3, g1, g2, g3, hn, t0⟩ := h
  have hlk := look2_i t0 hok hw
  have hs : (tok L pa).isSome = true := Option.isSome_iff_ne_none.2 hyes
  rw [zT_i, hs] at hlk
  have c0 := t0.here.cell 0
  simp at c0
  have K := Lib.hid ((Kept.refl Nil w).alloc (.cells #[.int .i64 (parI L pa), .int .i64 (locI_i L pa), .int .i64 (factI L pa)] 92))
  have C := Lib.hid (put_i (H.out.keptN K.out) hl pa k f hk hw hf)
  generalize locI_i L pa = k' at *
  generalize parI L pa = a' at *
  generalize factI L pa = f' at *
  clear t0 hok hn H hyes hs
  go_enter Try.func18, Try.ntmps18
  go_wp2_with fail
  refine C.out.mono ?_
  rintro e w3 ⟨rfl, h3⟩
  have H3 := Lib.hid h3
  clear h3 C
  go_wp2_with fail
  go_ret2
  exact ⟨rfl, TreG.from_ K.out H3.out⟩
end
end Go.Proofs.Ytbaplplaokbnnaa
