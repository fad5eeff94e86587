/- TreeBelow: the law's own map; who has whom above itself. -/
import Derived.Test.YtbaplplaokbnnaaMStep
namespace Go.Proofs.Ytbaplplaokbnnaa
open Go.RowKit Go.Maps Go.WideMaps
set_option maxRecDepth 100000

theorem emptyS_ok : KS.ok (⟨#[]⟩ : ByteArray) := by show (⟨#[]⟩ : ByteArray).size ≤ maxLen; unfold maxLen; decide
/-! ### The law's own map: numbers that are marked -/
noncomputable abbrev intE : Value → Option (DataW Unit × List MemPlace) := plainElem (H := Unit) Try.prog 3
structure MarkM (w : World) (b : Nat) (l : List Int) : Prop where
  wf : ∀ x ∈ l, (Lit.int .i64 x).wf = true
  mp : ∃ D n, n ≤ 1000 + l.length ∧ w.ownsMap (H := Unit) Try.prog 3 intE b n D ∧ Cnt KI D l
section
variable {w w' : World} {b : Nat} {l : List Int}
theorem MarkM.new (w : World) : MarkM (w.alloc (.map #[] 0)) w.heap.size [] := ⟨by simp, .map [], 0, Nat.zero_le _, World.ownsMap_made (H := Unit) w Try.prog 3 intE, Cnt.nil KI⟩
theorem MarkM.kept (h : MarkM w b l) {F : Nat → Prop} (hk : Kept F w w') (hF : ¬ F b) : MarkM w' b l := by
  obtain ⟨D, n, hn, ho, hD⟩ := h.mp
  exact ⟨h.wf, D, n, hn, hk.map ho hF, hD⟩
theorem MarkM.put (h : MarkM w b l) (hl : l.length ≤ 1000) {x : Int} (hx : (Lit.int .i64 x).wf = true) (hno : x ∉ l) :
    ∃ w', (Instr.mapUpdate 65 (.map (some b)) (.int .i64 x) (.int .i64 1)).run Try.prog w = .ok () w' ∧ MarkM w' b (l ++ [x]) ∧ Kept (fun i => i = b) w w' := by
  obtain ⟨D, n, hn, ho, hD⟩ := h.mp
  obtain ⟨w', hrun, ho', hg⟩ := ho.update (val := .int .i64 1) lawI Try.underlying65 (by unfold maxLen; omega) (keyI hx) (plainElem_int Try.underlying3 (by decide))
  have hD' := hD.put (k := x) hx
  rw [cnt_zero.2 hno] at hD'
  refine ⟨w', hrun, ⟨fun y hy => ?_, _, n + 1, by rw [List.length_append]; simp; omega, ho', hD'⟩, (Kept.refl _ _).grown hg (fun i e => .inl (by simpa using e.symm))⟩
  rcases List.mem_append.1 hy with hy | hy
  · exact h.wf y hy
  · rw [List.mem_singleton.1 hy]; exact hx
theorem MarkM.look (h : MarkM w b l) (hn : l.Nodup) {x : Int} (hx : x ∈ l) : (Instr.lookup 65 (.map (some b)) (.int .i64 x) false).run Try.prog w = .ok (.int .i64 1) w := by
  obtain ⟨D, n, _, ho, hD⟩ := h.mp
  have hw := h.wf x hx
  obtain ⟨c, hrun, hat, _⟩ := ho.lookup_int lawI Try.underlying65 Try.underlying3 (zeroI w) (keyI hw)
  have h1 : cnt x l = 1 := by
    have c1 : ∀ {ks : List Int}, ks.Nodup → cnt x ks ≤ 1 := by
      intro ks
      induction ks with
      | nil => intro _; simp [cnt]
      | cons y r ih =>
        intro hn
        obtain ⟨a, b⟩ := List.nodup_cons.1 hn
        rw [cnt]
        split
        · rename_i e; subst e; rw [cnt_zero.2 a]; exact Nat.le_refl _
        · exact ih b
    have := c1 hn
    have := cnt_pos.2 hx
    omega
  have hg := hD.get x hw
  rw [h1] at hg
  change D.atKey (.int .i64 x) (.lit (.int .i64 0)) = _ at hg
  rw [hg] at hat
  simp at hat
  rw [hrun, ← hat]
theorem MarkM.len (h : MarkM w b l) (hn : l.Nodup) (ty : TypeId) : (Builtin.len_ #[65] ty #[.map (some b)]).run Try.prog w = .ok (.int .i64 l.length) w := by
  obtain ⟨D, n, _, ho, hD⟩ := h.mp
  have e := ho.len Try.underlying65 ty
  obtain ⟨ks, k1, k2, k3⟩ := hD.keys
  have : ks.length = l.length := Nat.le_antisymm (nodup_le k1 (fun x hx => (k2 x).1 hx)) (nodup_le hn (fun x hx => (k2 x).2 hx))
  rw [k3, this] at e
  exact e
end
/-! ### Who has it above itself -/
def marks {κ : Type} (L : List (Tok κ)) (id : Int) (m : Nat) : List Int := ((List.range m).map (fun j : Nat => (j : Int) + 2)).filter (fun k => decide (id ∈ line L k))
section
variable {κ : Type} {L : List (Tok κ)} {id : Int}
theorem marks_succ (m : Nat) : marks L id (m + 1) = marks L id m ++ (if id ∈ line L ((m : Int) + 2) then [(m : Int) + 2] else []) := by
  unfold marks
  rw [List.range_succ, List.map_append, List.filter_append]
  congr 1
  show ([(m : Int) + 2]).filter _ = _
  rw [List.filter_cons]
  by_cases e : id ∈ line L ((m : Int) + 2)
  · rw [if_pos (decide_eq_true e), if_pos e]; rfl
  · rw [if_neg (by simpa using e), if_neg e]; rfl
theorem mem_marks {m : Nat} {k : Int} : k ∈ marks L id m ↔ (2 ≤ k ∧ k < (m : Int) + 2) ∧ id ∈ line L k := by
  unfold marks
  rw [List.mem_filter, List.mem_map, decide_eq_true_eq]
  refine and_congr ⟨?_, ?_⟩ Iff.rfl
  · rintro ⟨j, hj, rfl⟩
    have := List.mem_range.1 hj
    omega
  · rintro ⟨h1, h2⟩
    exact ⟨(k - 2).toNat, List.mem_range.2 (by omega), by omega⟩
theorem marks_nodup (m : Nat) : (marks L id m).Nodup := by
  unfold marks
  refine List.Pairwise.filter _ ?_
  refine List.pairwise_map.2 (List.nodup_range.imp (fun {a b} h e => h (by omega)))
theorem marks_le (m : Nat) : (marks L id m).length ≤ m := by
  unfold marks
  refine Nat.le_trans (List.length_filter_le _ _) ?_
  simp
theorem marks_below (h : WF L) (hid : tok L id ≠ none) (h2 : 2 ≤ id) : (marks L id (L.length - 1)).length = (below L id).length ∧ ∀ x, x ∈ below L id → x ∈ marks L id (L.length - 1) := by
  have hm : ∀ x, x ∈ below L id → x ∈ marks L id (L.length - 1) := fun x hx => by
    have h1 := (mem_below h id hid x).1 hx
    have h3 := below_ge h hid hx
    refine mem_marks.2 ⟨⟨by omega, ?_⟩, h1⟩
    cases e : tok L x with
    | none => exact absurd e (below_there h hid hx)
    | some z => have := tok_bound e; omega
  refine ⟨Nat.le_antisymm (nodup_le (marks_nodup _) (fun x hx => ?_)) (nodup_le (below_nodup h id hid) hm), hm⟩
  exact (mem_below h id hid x).2 (mem_marks.1 hx).2
theorem live_kills : ∀ {l : List Int} {L : List (Tok κ)}, l.Nodup → (∀ x ∈ l, tok L x ≠ none) → liveN (kills L l) + l.length = liveN L
  | [], _, _, _ => rfl
  | x :: r, L, hn, h => by
    obtain ⟨a, b⟩ := List.nodup_cons.1 hn
    have h1 := liveN_kill (h x (List.mem_cons_self ..))
    have h2 := live_kills (l := r) (L := kill L x) b (fun y hy => by
      rw [tok_kill_other L (fun e => a (by rw [← e]; exact hy))]
      exact h y (List.mem_cons_of_mem _ hy))
    rw [kills_cons, List.length_cons]
    omega
end
end Go.Proofs.Ytbaplplaokbnnaa
