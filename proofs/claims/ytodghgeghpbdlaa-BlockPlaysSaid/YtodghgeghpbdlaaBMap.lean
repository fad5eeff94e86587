/- A map in memory as a finite function: its keys in a list, and what stands by each; of whatever key type. No program. -/
import Derived.Test.YtodghgeghpbdlaaBNM
namespace Go.Proofs.Ytodghgeghpbdlaa
open Go.RowKit Go.Maps

/-- How a number or a truth value reads. -/
def vE : Value → Option (DataW Unit × List MemPlace)
  | .int .i64 k => some (.lit (.int .i64 k), [])
  | .bool b => some (.lit (.bool b), [])
  | _ => none
theorem vE_int (k : Int) : vE (.int .i64 k) = some (.lit (.int .i64 k), []) := rfl
theorem vE_bool (b : Bool) : vE (.bool b) = some (.lit (.bool b), []) := rfl
theorem vE_int_inv {v : Value} {k : Int} {ps : List MemPlace} (h : vE v = some (.lit (.int .i64 k), ps)) : v = .int .i64 k := by
  unfold vE at h
  split at h
  · simp at h; rw [h.1]
  · simp at h
  · cases h
theorem vE_bool_inv {v : Value} {b : Bool} {ps : List MemPlace} (h : vE v = some (.lit (.bool b), ps)) : v = .bool b := by
  unfold vE at h
  split at h
  · simp at h
  · simp at h; rw [h.1]
  · cases h

section
variable {P : Program} {κ : Type} [DecidableEq κ] {K : KT P κ}
/-- A datum that has just these keys. -/
structure MF (K : KT P κ) (z : Lit) (D : DataW Unit) (ks : List κ) (f : κ → Lit) : Prop where
  tidy : Tidy D
  size : Maps.size D = ks.length
  has : ∀ k, K.ok k → Maps.has D (K.lit k) = decide (k ∈ ks)
  get : ∀ k, K.ok k → D.atKey (K.lit k) (.lit z) = .lit (if k ∈ ks then f k else z)
theorem MF.nil (K : KT P κ) (z : Lit) (f : κ → Lit) : MF K z (.map []) [] f := ⟨tidy_empty, rfl, fun _ _ => by simp [Maps.has], fun _ _ => by simp [DataW.atKey]⟩
theorem MF.put {z : Lit} {D : DataW Unit} {ks : List κ} {f f' : κ → Lit} (h : MF K z D ks f) {k : κ} (hk : K.ok k) (hn : k ∉ ks) (hf : ∀ x ∈ ks, f' x = f x) : MF K z (D.put (K.lit k) (.lit (f' k))) (ks ++ [k]) f' := by
  refine ⟨h.tidy.put (K.isKey hk) _, ?_, fun x hx => ?_, fun x hx => ?_⟩
  · rw [size_put h.tidy, h.has k hk]; simp [hn, h.size]
  · by_cases e : x = k
    · subst e; rw [has_put_same h.tidy.isMap (K.isKey hk)]; simp
    · rw [has_put_other (K.ne hx hk e), h.has x hx]; simp [e]
  · by_cases e : x = k
    · subst e; rw [atKey_put_same h.tidy.isMap (K.isKey hk)]; simp
    · rw [atKey_put_other (K.ne hx hk e), h.get x hx]
      by_cases hm : x ∈ ks
      · simp [hm, hf x hm]
      · simp [hm, e]
theorem MF.same {z : Lit} {D : DataW Unit} {ks : List κ} {f f' : κ → Lit} (h : MF K z D ks f) (hf : ∀ x ∈ ks, f' x = f x) : MF K z D ks f' := by
  refine ⟨h.tidy, h.size, h.has, fun x hx => ?_⟩
  rw [h.get x hx]
  by_cases hm : x ∈ ks
  · simp [hm, hf x hm]
  · simp [hm]
/-- A list without a thing. -/
def wo (k : κ) (l : List κ) : List κ := l.filter (fun x => decide (x ≠ k))
theorem mem_wo {k x : κ} {l : List κ} : x ∈ wo k l ↔ x ∈ l ∧ x ≠ k := by simp [wo]
theorem wo_out {k : κ} {l : List κ} (h : k ∉ l) : wo k l = l := by
  unfold wo
  rw [List.filter_eq_self]
  exact fun y hy => decide_eq_true (fun e => h (e ▸ hy))
theorem wo_nodup {k : κ} {l : List κ} (h : l.Nodup) : (wo k l).Nodup := h.filter _
theorem wo_length {k : κ} : ∀ {l : List κ}, l.Nodup → k ∈ l → (wo k l).length + 1 = l.length
  | [], _, h => by simp at h
  | z :: r, hr, h => by
    obtain ⟨a, b⟩ := List.nodup_cons.1 hr
    by_cases e : z = k
    · subst e
      have := wo_out a
      unfold wo at this ⊢
      rw [List.filter_cons_of_neg (by simp), this]; rfl
    · have := wo_length b ((List.mem_cons.1 h).resolve_left (fun e' => e e'.symm))
      unfold wo at this ⊢
      rw [List.filter_cons_of_pos (by simpa using e), List.length_cons, List.length_cons]
      omega
theorem MF.del {z : Lit} {D : DataW Unit} {ks : List κ} {f : κ → Lit} (h : MF K z D ks f) (hd : ks.Nodup) {k : κ} (hk : K.ok k) : MF K z (D.del (K.lit k)) (wo k ks) f := by
  refine ⟨h.tidy.del _, ?_, fun x hx => ?_, fun x hx => ?_⟩
  · have hs := size_del h.tidy (k := K.lit k)
    rw [h.has k hk, h.size] at hs
    by_cases hm : k ∈ ks
    · have := wo_length hd hm
      rw [decide_eq_true hm, if_pos rfl] at hs
      omega
    · rw [wo_out hm]
      simpa [hm] using hs
  · by_cases e : x = k
    · subst e; rw [has_del_same]; simp [mem_wo]
    · rw [has_del_other (K.ne hx hk e), h.has x hx]; simp [mem_wo, e]
  · by_cases e : x = k
    · subst e; rw [atKey_del_same]; simp [mem_wo]
    · rw [atKey_del_other (K.ne hx hk e), h.get x hx]; simp [mem_wo, e]

/-- A map in memory that has just these keys. -/
structure MapF (K : KT P κ) (z : Lit) (w : World) (b : Nat) (ks : List κ) (f : κ → Lit) : Prop where
  nodup : ks.Nodup
  ok : ∀ k ∈ ks, K.ok k
  own : ∃ D, w.ownsMap (H := Unit) P K.t vE b ks.length D ∧ MF K z D ks f
variable {z : Lit} {w w' : World} {b : Nat} {ks : List κ} {f f' : κ → Lit}
theorem MapF.lt (h : MapF K z w b ks f) : b < w.heap.size := by obtain ⟨D, ho, _⟩ := h.own; exact ho.lt
theorem MapF.kept {F : Nat → Prop} (h : MapF K z w b ks f) (k : Kept F w w') (hF : ¬ F b) : MapF K z w' b ks f := by
  obtain ⟨D, ho, hd⟩ := h.own
  exact ⟨h.nodup, h.ok, D, k.map ho hF, hd⟩
theorem MapF.keptN (h : MapF K z w b ks f) (k : Kept Nil w w') : MapF K z w' b ks f := h.kept k (fun e => e)
theorem MapF.alloc (h : MapF K z w b ks f) (o : Obj) : MapF K z (w.alloc o) b ks f := h.keptN ((Kept.refl _ _).alloc o)
theorem MapF.drew (h : MapF K z w b ks f) : MapF K z w.drew b ks f := h.keptN (Kept.refl _ _).drew
theorem MapF.same (h : MapF K z w b ks f) (hf : ∀ x ∈ ks, f' x = f x) : MapF K z w b ks f' := by
  obtain ⟨D, ho, hd⟩ := h.own
  exact ⟨h.nodup, h.ok, D, ho, hd.same hf⟩
/-- No block of cells. -/
theorem MapF.isMap (h : MapF K z w b ks f) {cs : Array Value} {t : TypeId} {fr : Nat × Nat} (hb : w.heap[b]? = some (.cells cs t fr)) : False := by
  obtain ⟨D, ⟨es, c, hbb, _⟩, _⟩ := h.own
  rw [hbb] at hb; cases hb
theorem MapF.blk (h : MapF K z w b ks f) : ∃ es c, w.heap[b]? = some (.map es c) := by
  obtain ⟨D, ⟨es, c, hbb, _⟩, _⟩ := h.own
  exact ⟨es, c, hbb⟩
theorem MapF.made (K : KT P κ) (z : Lit) (f : κ → Lit) (w : World) : MapF K z (w.alloc (.map #[] 0)) w.heap.size [] f := ⟨List.nodup_nil, by simp, _, World.ownsMap_made (H := Unit) w P K.t vE, MF.nil K z f⟩
theorem MapF.lookI {e tM : TypeId} {hh : κ → Int} (h : MapF K (.int .i64 0) w b ks (fun k => .int .i64 (hh k))) (hM : P.underlying tM = some (.map K.t e)) (hz : (zeroValue e).run P w = .ok (.int .i64 0) w) {k : κ} (hk : K.ok k) :
    (Instr.lookup tM (.map (some b)) (K.enc k) false).run P w = .ok (.int .i64 (if k ∈ ks then hh k else 0)) w := by
  obtain ⟨D, ho, hd⟩ := h.own
  obtain ⟨v, ps, hrun, hv⟩ := ho.lookup K.keyed hM hz (vE_int 0) (K.key k hk)
  rw [hd.get k hk] at hv
  rw [hrun]
  by_cases hm : k ∈ ks
  · simp only [hm, if_true] at hv ⊢
    rw [vE_int_inv hv]
  · simp only [hm, if_false] at hv ⊢
    rw [vE_int_inv hv]
theorem MapF.lookB {e tM : TypeId} (h : MapF K (.bool false) w b ks (fun _ => .bool true)) (hM : P.underlying tM = some (.map K.t e)) (hz : (zeroValue e).run P w = .ok (.bool false) w) {k : κ} (hk : K.ok k) :
    (Instr.lookup tM (.map (some b)) (K.enc k) false).run P w = .ok (.bool (decide (k ∈ ks))) w := by
  obtain ⟨D, ho, hd⟩ := h.own
  obtain ⟨v, ps, hrun, hv⟩ := ho.lookup K.keyed hM hz (vE_bool false) (K.key k hk)
  rw [hd.get k hk] at hv
  rw [hrun]
  by_cases hm : k ∈ ks
  · simp only [hm, if_true] at hv
    rw [vE_bool_inv hv]; simp [hm]
  · simp only [hm, if_false] at hv
    rw [vE_bool_inv hv]; simp [hm]
theorem MapF.lookI_in {e tM : TypeId} {hh : κ → Int} (h : MapF K (.int .i64 0) w b ks (fun k => .int .i64 (hh k))) (hM : P.underlying tM = some (.map K.t e)) (hz : (zeroValue e).run P w = .ok (.int .i64 0) w) {k : κ} (hk : k ∈ ks) :
    (Instr.lookup tM (.map (some b)) (K.enc k) false).run P w = .ok (.int .i64 (hh k)) w := by
  rw [h.lookI hM hz (h.ok k hk), if_pos hk]
theorem MapF.lookI_out {e tM : TypeId} {hh : κ → Int} (h : MapF K (.int .i64 0) w b ks (fun k => .int .i64 (hh k))) (hM : P.underlying tM = some (.map K.t e)) (hz : (zeroValue e).run P w = .ok (.int .i64 0) w) {k : κ} (hk : K.ok k) (hn : k ∉ ks) :
    (Instr.lookup tM (.map (some b)) (K.enc k) false).run P w = .ok (.int .i64 0) w := by
  rw [h.lookI hM hz hk, if_neg hn]
theorem MapF.lookB_in {e tM : TypeId} (h : MapF K (.bool false) w b ks (fun _ => .bool true)) (hM : P.underlying tM = some (.map K.t e)) (hz : (zeroValue e).run P w = .ok (.bool false) w) {k : κ} (hk : k ∈ ks) :
    (Instr.lookup tM (.map (some b)) (K.enc k) false).run P w = .ok (.bool true) w := by
  rw [h.lookB hM hz (h.ok k hk), decide_eq_true hk]
theorem MapF.lookB_out {e tM : TypeId} (h : MapF K (.bool false) w b ks (fun _ => .bool true)) (hM : P.underlying tM = some (.map K.t e)) (hz : (zeroValue e).run P w = .ok (.bool false) w) {k : κ} (hk : K.ok k) (hn : k ∉ ks) :
    (Instr.lookup tM (.map (some b)) (K.enc k) false).run P w = .ok (.bool false) w := by
  rw [h.lookB hM hz hk, decide_eq_false hn]
theorem MapF.len {e tM : TypeId} (h : MapF K z w b ks f) (hM : P.underlying tM = some (.map K.t e)) (ty : TypeId) : (Builtin.len_ #[tM] ty #[.map (some b)]).run P w = .ok (.int .i64 ks.length) w := by
  obtain ⟨D, ho, hd⟩ := h.own
  rw [ho.len hM ty, hd.size]
theorem MapF.add {e tM : TypeId} (h : MapF K z w b ks f) (hM : P.underlying tM = some (.map K.t e)) (hl : ks.length ≤ 100000) {k : κ} (hk : K.ok k) (hn : k ∉ ks) (hf : ∀ x ∈ ks, f' x = f x) {val : Value} (hv : vE val = some (.lit (f' k), [])) :
    ∃ w', (Instr.mapUpdate tM (.map (some b)) (K.enc k) val).run P w = .ok () w' ∧ MapF K z w' b (ks ++ [k]) f' ∧ w.grownBy w' (some b) := by
  obtain ⟨D, ho, hd⟩ := h.own
  obtain ⟨w', hrun, ho', hg⟩ := ho.update (val := val) K.keyed hM (by unfold maxLen; omega) (K.key k hk) hv
  refine ⟨w', hrun, ⟨?_, fun x hx => ?_, _, ownsMap_tight ho' ?_, hd.put hk hn hf⟩, hg⟩
  · rw [List.nodup_append]
    exact ⟨h.nodup, by simp, fun a ha b hb e => hn (by rw [← List.mem_singleton.1 hb, ← e]; exact ha)⟩
  · rcases List.mem_append.1 hx with hx | hx
    · exact h.ok x hx
    · rw [List.mem_singleton.1 hx]; exact hk
  · exact Nat.le_of_eq (hd.put hk hn hf).size
theorem MapF.del {e tM : TypeId} (h : MapF K z w b ks f) (hM : P.underlying tM = some (.map K.t e)) {k : κ} (hk : K.ok k) (ty : TypeId) :
    ∃ w', (Builtin.delete_ #[tM, K.t] ty #[.map (some b), K.enc k]).run P w = .ok (.tuple #[]) w' ∧ MapF K z w' b (wo k ks) f ∧ w.grownBy w' (some b) := by
  obtain ⟨D, ho, hd⟩ := h.own
  obtain ⟨w', hrun, ho', ht⟩ := ho.drop K.keyed hM (K.key k hk) ty
  exact ⟨w', hrun, ⟨wo_nodup h.nodup, fun x hx => h.ok x (mem_wo.1 hx).1, _, ownsMap_tight ho' (Nat.le_of_eq (hd.del h.nodup hk).size), hd.del h.nodup hk⟩, ht.grown⟩
end
end Go.Proofs.Ytodghgeghpbdlaa
