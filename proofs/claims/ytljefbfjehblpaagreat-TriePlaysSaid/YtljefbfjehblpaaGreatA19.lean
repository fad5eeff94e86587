/- Layer trie: the reference's rows: one more in each; who owns what then. – Layer trie: the reference's Add. – Layer trie: the reference's Add. – Layer trie: which numbers go with a list, by the document and by the program. No program. – Layer trie: the reference's Remove. -/
import Derived.Test.YtljefbfjehblpaaGreatA18
import Derived.Test.YtljefbfjehblpaaGreatA16
import Derived.Laws.OwnMore
namespace Go.Proofs.YtljefbfjehblpaaGreat
section
open Go.RowKit Go.Maps Go.WideMaps
set_option maxRecDepth 100000

/-- The reference's trie, whatever its rows say. -/
structure RM (w : World) (c : Nat → Nat) (q : Nat) (aL : Option Addr) (nL cL : Nat) (aC : Option Addr) (nC cC : Nat) (aO : Option Addr) (nO cO : Nat) (vL vC : List SlV) (vO : List Nat) : Prop where
  low : ∀ b, c b ≠ 0 → b < w.heap.size
  cq : c q = 1
  blk : Blk w q 30 #[.slice aL nL cL, .slice aC nC cC, .slice aO nO cO]
  rL : Row cV 35 1 w 0 (.slice aL nL cL) vL
  rC : Row cV 35 1 w 0 (.slice aC nC cC) vC
  rO : Row cNt 3 1 w 0 (.slice aO nO cO) vO
  oL : ∀ b, (Value.slice aL nL cL).ownBlock = some b → c b = 2
  oC : ∀ b, (Value.slice aC nC cC).ownBlock = some b → c b = 3
  oO : ∀ b, (Value.slice aO nO cO).ownBlock = some b → c b = 4
/-- What one of its calls may turn; who owns what behind it. -/
def RF (c : Nat → Nat) (b : Nat) : Prop := c b ≠ 0 ∧ c b ≤ 4
section
variable {w w' : World} {c : Nat → Nat} {q : Nat} {ls : List (List St)} {es : En} {aL aC aO : Option Addr} {nL cL nC cC nO cO : Nat} {vL vC : List SlV} {vO : List Nat}
theorem RTx.rm (h : RTx w c q ls es aL nL cL aC nC cC aO nO cO vL vC vO) : RM w c q aL nL cL aC nC cC aO nO cO vL vC vO := ⟨h.low, h.cq, h.blk, h.rL, h.rC, h.rO, h.oL, h.oC, h.oO⟩
theorem RM.kept {F : Nat → Prop} (h : RM w c q aL nL cL aC nC cC aO nO cO vL vC vO) (k : Kept F w w') (hF : ∀ b, F b → c b = 0) : RM w' c q aL nL cL aC nC cC aO nO cO vL vC vO :=
  ⟨fun b e => Nat.lt_of_lt_of_le (h.low b e) k.size, h.cq, h.blk.kept k (fun e => by have := hF _ e; rw [h.cq] at this; cases this), h.rL.keptF k (fun b e f => by have := hF _ f; rw [h.oL b e] at this; cases this), h.rC.keptF k (fun b e f => by have := hF _ f; rw [h.oC b e] at this; cases this), h.rO.keptF k (fun b e f => by have := hF _ f; rw [h.oO b e] at this; cases this), h.oL, h.oC, h.oO⟩
theorem Row.ownLt {α : Type} {cells : α → List Value} {e : TypeId} {size B : Nat} {v : Value} {l : List α} (h : Row cells e size w B v l) {b : Nat} (hb : v.ownBlock = some b) : b < w.heap.size := by
  obtain ⟨cs, e2⟩ := h.block hb
  exact (Array.getElem?_eq_some_iff.1 e2).1
/-- A chain more. -/
theorem RM.pushC (h : RM w c q aL nL cL aC nC cC aO nO cO vL vC vO) (hl : vC.length ≤ 5000) (v : SlV) : ∃ a9 c9 w9, (Builtin.append_ #[27, 27] 27 #[.slice aC nC cC, .slice (some ⟨w.heap.size, 0, none⟩) 1 1]).run Tryz.prog (w.alloc (.cells #[.slice v.1 v.2.1 v.2.2] 35)) = .ok (.slice a9 (nC + 1) c9) w9 ∧
    q < w9.heap.size ∧ w9.cell? ⟨q, 1, none⟩ = some (.slice aC nC cC) ∧ w9.frozen? ⟨q, 1, none⟩ = false ∧ ∃ c', RM (w9.setCell ⟨q, 1, none⟩ (.slice a9 (nC + 1) c9)) c' q aL nL cL a9 (nC + 1) c9 aO nO cO vL (vC ++ [v]) vO ∧ Kept (RF c) w (w9.setCell ⟨q, 1, none⟩ (.slice a9 (nC + 1) c9)) ∧ ∀ b, b < w.heap.size → c' b = c b := by
  obtain ⟨a9, c9, w9, hrun, hR9, k9, ho9⟩ := h.rC.push2 elsLQ cV_len cV_one 27 (Nat.zero_le _) hl v #[.slice v.1 v.2.1 v.2.2] rfl
  have hq9 := h.blk.kept k9 (fun e => by have := h.oC _ e; rw [h.cq] at this; cases this)
  have k4 : Kept (fun z => z = q) w9 (w9.setCell ⟨q, 1, none⟩ (.slice a9 (nC + 1) c9)) := Kept.setCell (F := fun z => z = q) (Kept.refl _ _) _ (.inl rfl) _
  have kk : Kept (fun z => (Value.slice aC nC cC).ownBlock = some z ∨ z = q) w (w9.setCell ⟨q, 1, none⟩ (.slice a9 (nC + 1) c9)) := (k9.mono (fun _ _ e => .inl e)).trans k4 (fun _ _ e => .inr e)
  have hql := h.blk.lt
  have d1 := hq9.cell 1
  simp only [List.getElem?_toArray, List.getElem?_cons_zero, List.getElem?_cons_succ] at d1
  obtain ⟨c', hc'⟩ : ∃ c' : Nat → Nat, c' = fun b => if (Value.slice a9 (nC + 1) c9).ownBlock = some b then 3 else c b := ⟨_, rfl⟩
  have hold : ∀ b, b < w.heap.size → c' b = c b := fun b hb => by
    rw [hc']
    dsimp only
    split
    · rename_i e
      rcases ho9 b e with e2 | e2
      · exact (h.oC b e2).symm
      · omega
    · rfl
  have hsz : (w9.setCell ⟨q, 1, none⟩ (.slice a9 (nC + 1) c9)).heap.size = w9.heap.size := by simp [World.setCell]
  refine ⟨a9, c9, w9, hrun, hq9.lt, d1, hq9.frozen _, c', ⟨fun b e => ?_, ?_, ?_, ?_, ?_, ?_, fun b e => ?_, fun b e => ?_, fun b e => ?_⟩, kk.mono (fun z hz e => ?_), hold⟩
  · rw [hsz]
    by_cases e2 : (Value.slice a9 (nC + 1) c9).ownBlock = some b
    · exact hR9.ownLt e2
    · rw [hc'] at e
      dsimp only at e
      rw [if_neg e2] at e
      exact Nat.lt_of_lt_of_le (h.low b e) k9.size
  · rw [hold q hql]; exact h.cq
  · simpa using hq9.set_ 1 (.slice a9 (nC + 1) c9)
  · exact h.rL.keptF kk (fun b e f => by
      have h2 := h.oL b e
      rcases f with f | f
      · have := h.oC b f; omega
      · rw [f, h.cq] at h2; cases h2)
  · exact hR9.keptF k4 (fun b e f => by
      rcases ho9 b e with e2 | e2
      · have := h.oC b e2; rw [f, h.cq] at this; cases this
      · omega)
  · exact h.rO.keptF kk (fun b e f => by
      have h2 := h.oO b e
      rcases f with f | f
      · have := h.oC b f; omega
      · rw [f, h.cq] at h2; cases h2)
  · rw [hold b (h.rL.ownLt e)]; exact h.oL b e
  · rw [hc']; exact if_pos e
  · rw [hold b (h.rO.ownLt e)]; exact h.oO b e
  · rcases e with e | e
    · have := h.oC z e; exact ⟨by omega, by omega⟩
    · rw [e]; exact ⟨by rw [h.cq]; omega, by rw [h.cq]; omega⟩
/-- A list more. -/
theorem RM.pushL (h : RM w c q aL nL cL aC nC cC aO nO cO vL vC vO) (hl : vL.length ≤ 5000) (v : SlV) : ∃ a9 c9 w9, (Builtin.append_ #[27, 27] 27 #[.slice aL nL cL, .slice (some ⟨w.heap.size, 0, none⟩) 1 1]).run Tryz.prog (w.alloc (.cells #[.slice v.1 v.2.1 v.2.2] 35)) = .ok (.slice a9 (nL + 1) c9) w9 ∧
    q < w9.heap.size ∧ w9.cell? ⟨q, 0, none⟩ = some (.slice aL nL cL) ∧ w9.frozen? ⟨q, 0, none⟩ = false ∧ ∃ c', RM (w9.setCell ⟨q, 0, none⟩ (.slice a9 (nL + 1) c9)) c' q a9 (nL + 1) c9 aC nC cC aO nO cO (vL ++ [v]) vC vO ∧ Kept (RF c) w (w9.setCell ⟨q, 0, none⟩ (.slice a9 (nL + 1) c9)) ∧ ∀ b, b < w.heap.size → c' b = c b := by
  obtain ⟨a9, c9, w9, hrun, hR9, k9, ho9⟩ := h.rL.push2 elsLQ cV_len cV_one 27 (Nat.zero_le _) hl v #[.slice v.1 v.2.1 v.2.2] rfl
  have hq9 := h.blk.kept k9 (fun e => by have := h.oL _ e; rw [h.cq] at this; cases this)
  have k4 : Kept (fun z => z = q) w9 (w9.setCell ⟨q, 0, none⟩ (.slice a9 (nL + 1) c9)) := Kept.setCell (F := fun z => z = q) (Kept.refl _ _) _ (.inl rfl) _
  have kk : Kept (fun z => (Value.slice aL nL cL).ownBlock = some z ∨ z = q) w (w9.setCell ⟨q, 0, none⟩ (.slice a9 (nL + 1) c9)) := (k9.mono (fun _ _ e => .inl e)).trans k4 (fun _ _ e => .inr e)
  have hql := h.blk.lt
  have d1 := hq9.cell 0
  simp only [List.getElem?_toArray, List.getElem?_cons_zero] at d1
  obtain ⟨c', hc'⟩ : ∃ c' : Nat → Nat, c' = fun b => if (Value.slice a9 (nL + 1) c9).ownBlock = some b then 2 else c b := ⟨_, rfl⟩
  have hold : ∀ b, b < w.heap.size → c' b = c b := fun b hb => by
    rw [hc']
    dsimp only
    split
    · rename_i e
      rcases ho9 b e with e2 | e2
      · exact (h.oL b e2).symm
      · omega
    · rfl
  have hsz : (w9.setCell ⟨q, 0, none⟩ (.slice a9 (nL + 1) c9)).heap.size = w9.heap.size := by simp [World.setCell]
  refine ⟨a9, c9, w9, hrun, hq9.lt, d1, hq9.frozen _, c', ⟨fun b e => ?_, ?_, ?_, ?_, ?_, ?_, fun b e => ?_, fun b e => ?_, fun b e => ?_⟩, kk.mono (fun z hz e => ?_), hold⟩
  · rw [hsz]
    by_cases e2 : (Value.slice a9 (nL + 1) c9).ownBlock = some b
    · exact hR9.ownLt e2
    · rw [hc'] at e
      dsimp only at e
      rw [if_neg e2] at e
      exact Nat.lt_of_lt_of_le (h.low b e) k9.size
  · rw [hold q hql]; exact h.cq
  · simpa using hq9.set_ 0 (.slice a9 (nL + 1) c9)
  · exact hR9.keptF k4 (fun b e f => by
      rcases ho9 b e with e2 | e2
      · have := h.oL b e2; rw [f, h.cq] at this; cases this
      · omega)
  · exact h.rC.keptF kk (fun b e f => by
      have h2 := h.oC b e
      rcases f with f | f
      · have := h.oL b f; omega
      · rw [f, h.cq] at h2; cases h2)
  · exact h.rO.keptF kk (fun b e f => by
      have h2 := h.oO b e
      rcases f with f | f
      · have := h.oL b f; omega
      · rw [f, h.cq] at h2; cases h2)
  · rw [hc']; exact if_pos e
  · rw [hold b (h.rC.ownLt e)]; exact h.oC b e
  · rw [hold b (h.rO.ownLt e)]; exact h.oO b e
  · rcases e with e | e
    · have := h.oL z e; exact ⟨by omega, by omega⟩
    · rw [e]; exact ⟨by rw [h.cq]; omega, by rw [h.cq]; omega⟩
/-- A number more. -/
theorem RM.pushO (h : RM w c q aL nL cL aC nC cC aO nO cO vL vC vO) (hl : vO.length ≤ 5000) (v : Nat) : ∃ a9 c9 w9, (Builtin.append_ #[28, 28] 28 #[.slice aO nO cO, .slice (some ⟨w.heap.size, 0, none⟩) 1 1]).run Tryz.prog (w.alloc (.cells #[.int .i64 (v : Nat)] 3)) = .ok (.slice a9 (nO + 1) c9) w9 ∧
    q < w9.heap.size ∧ w9.cell? ⟨q, 2, none⟩ = some (.slice aO nO cO) ∧ w9.frozen? ⟨q, 2, none⟩ = false ∧ ∃ c', RM (w9.setCell ⟨q, 2, none⟩ (.slice a9 (nO + 1) c9)) c' q aL nL cL aC nC cC a9 (nO + 1) c9 vL vC (vO ++ [v]) ∧ Kept (RF c) w (w9.setCell ⟨q, 2, none⟩ (.slice a9 (nO + 1) c9)) ∧ ∀ b, b < w.heap.size → c' b = c b := by
  obtain ⟨a9, c9, w9, hrun, hR9, k9, ho9⟩ := h.rO.push2 elsNt cNt_len (fun x => cNt_one x) 28 (Nat.zero_le _) hl v #[.int .i64 (v : Nat)] rfl
  have hq9 := h.blk.kept k9 (fun e => by have := h.oO _ e; rw [h.cq] at this; cases this)
  have k4 : Kept (fun z => z = q) w9 (w9.setCell ⟨q, 2, none⟩ (.slice a9 (nO + 1) c9)) := Kept.setCell (F := fun z => z = q) (Kept.refl _ _) _ (.inl rfl) _
  have kk : Kept (fun z => (Value.slice aO nO cO).ownBlock = some z ∨ z = q) w (w9.setCell ⟨q, 2, none⟩ (.slice a9 (nO + 1) c9)) := (k9.mono (fun _ _ e => .inl e)).trans k4 (fun _ _ e => .inr e)
  have hql := h.blk.lt
  have d1 := hq9.cell 2
  simp only [List.getElem?_toArray, List.getElem?_cons_zero, List.getElem?_cons_succ] at d1
  obtain ⟨c', hc'⟩ : ∃ c' : Nat → Nat, c' = fun b => if (Value.slice a9 (nO + 1) c9).ownBlock = some b then 4 else c b := ⟨_, rfl⟩
  have hold : ∀ b, b < w.heap.size → c' b = c b := fun b hb => by
    rw [hc']
    dsimp only
    split
    · rename_i e
      rcases ho9 b e with e2 | e2
      · exact (h.oO b e2).symm
      · omega
    · rfl
  have hsz : (w9.setCell ⟨q, 2, none⟩ (.slice a9 (nO + 1) c9)).heap.size = w9.heap.size := by simp [World.setCell]
  refine ⟨a9, c9, w9, hrun, hq9.lt, d1, hq9.frozen _, c', ⟨fun b e => ?_, ?_, ?_, ?_, ?_, ?_, fun b e => ?_, fun b e => ?_, fun b e => ?_⟩, kk.mono (fun z hz e => ?_), hold⟩
  · rw [hsz]
    by_cases e2 : (Value.slice a9 (nO + 1) c9).ownBlock = some b
    · exact hR9.ownLt e2
    · rw [hc'] at e
      dsimp only at e
      rw [if_neg e2] at e
      exact Nat.lt_of_lt_of_le (h.low b e) k9.size
  · rw [hold q hql]; exact h.cq
  · simpa using hq9.set_ 2 (.slice a9 (nO + 1) c9)
  · exact h.rL.keptF kk (fun b e f => by
      have h2 := h.oL b e
      rcases f with f | f
      · have := h.oO b f; omega
      · rw [f, h.cq] at h2; cases h2)
  · exact h.rC.keptF kk (fun b e f => by
      have h2 := h.oC b e
      rcases f with f | f
      · have := h.oO b f; omega
      · rw [f, h.cq] at h2; cases h2)
  · exact hR9.keptF k4 (fun b e f => by
      rcases ho9 b e with e2 | e2
      · have := h.oO b e2; rw [f, h.cq] at this; cases this
      · omega)
  · rw [hold b (h.rL.ownLt e)]; exact h.oL b e
  · rw [hold b (h.rC.ownLt e)]; exact h.oC b e
  · rw [hc']; exact if_pos e
  · rcases e with e | e
    · have := h.oO z e; exact ⟨by omega, by omega⟩
    · rw [e]; exact ⟨by rw [h.cq]; omega, by rw [h.cq]; omega⟩
end
end
section
open Go.RowKit Go.Maps Go.WideMaps
set_option maxRecDepth 100000

theorem ent_moreR (es : En) (x : List St) (i : Nat) : ent (es ++ [(x, true)]) (i + 2) = if i = es.length then some x else ent es (i + 2) := by
  have a1 : (i + 2 = 0) = False := by simp
  have a2 : (i + 2 = 1) = False := by simp
  have a3 : i + 2 - 2 = i := by omega
  unfold ent
  simp only [a1, a2, a3, if_false]
  by_cases h : i = es.length
  · subst h; simp
  · rw [if_neg h]
    by_cases h2 : i < es.length
    · rw [List.getElem?_append_left h2]
    · rw [List.getElem?_eq_none (show (es ++ [(x, true)]).length ≤ i by simp; omega), List.getElem?_eq_none (show es.length ≤ i by omega)]
theorem Sm.addAll {es : En} (h : Sm es) {l : List St} (hl : Rl l) (D r : List (List St)) (hD : chSL l [] = D ++ r) : Sm (addAll es D) := by
  have ok := addAll_ok h.ok hl.gd D r hD
  refine ⟨ok, fun n x hx => ?_⟩
  have h1 := (ent_fnd ok).1 hx
  rcases (addAll_fnd D es).1 (show fnd (Go.Proofs.YtljefbfjehblpaaGreat.addAll es D) x ≠ 0 by omega) with h2 | h2
  · exact h.ms _ x ((ent_fnd h.ok).2 ⟨h2, rfl⟩)
  · have := (hl.chain (show x ∈ chSL l [] by rw [hD]; exact List.mem_append_left _ h2)).mass
    omega
section
variable {w w' : World} {c c' : Nat → Nat} {q : Nat} {ls : List (List St)} {es : En} {aL aC aO aL' aC' aO' : Option Addr} {nL cL nC cC nO cO nL' cL' nC' cC' nO' cO' : Nat} {vL vC vL' : List SlV} {vO : List Nat}
theorem RTx.up9 (h : RTx w c q ls es aL nL cL aC nC cC aO nO cO vL vC vO) (k : Kept (RF c) w w') (he : ∀ b, b < w.heap.size → c' b = c b) {v : Value} {x : List St} (hh : SHolds w (fun b _ => c b = 9) v x) : SHolds w' (fun b _ => c' b = 9) v x :=
  (hh.kept k (fun b o e f => by have := f.2; omega)).mono (fun b o e => by rw [he b (h.low b (by omega))]; exact e)
theorem RTx.grow (h : RTx w c q ls es aL nL cL aC nC cC aO nO cO vL vC vO) {x : List St} {b : Option Addr} {cp : Nat} (hv : SHolds w (fun b _ => c b = 9) (.slice b x.length cp) x)
    (m : RM w' c' q aL' nL' cL' aC' nC' cC' aO' nO' cO' vL (vC ++ [(b, x.length, cp)]) (vO ++ [0])) (k : Kept (RF c) w w') (he : ∀ b, b < w.heap.size → c' b = c b) :
    RTx w' c' q ls (es ++ [(x, true)]) aL' nL' cL' aC' nC' cC' aO' nO' cO' vL (vC ++ [(b, x.length, cp)]) (vO ++ [0]) := by
  refine ⟨m.low, m.cq, m.blk, m.rL, m.rC, m.rO, m.oL, m.oC, m.oO, ⟨h.sL.1, fun i y hy => ?_⟩, by simp [h.lC], by simp [h.lO], fun i y hy => ?_, fun i hi hn => ?_⟩
  · obtain ⟨b2, cp2, h1, h2⟩ := h.sL.2 i y hy
    exact ⟨b2, cp2, h1, h.up9 k he h2⟩
  · rw [ent_moreR] at hy
    by_cases hi : i = es.length
    · rw [if_pos hi] at hy
      cases hy
      subst hi
      refine ⟨by rw [← h.lO]; simp, b, cp, by rw [← h.lC]; simp, h.up9 k he hv⟩
    · rw [if_neg hi] at hy
      obtain ⟨h1, b2, cp2, h2, h3⟩ := h.on i y hy
      have l1 := (List.getElem?_eq_some_iff.1 h1).1
      have l2 := (List.getElem?_eq_some_iff.1 h2).1
      exact ⟨by rw [List.getElem?_append_left l1]; exact h1, b2, cp2, by rw [List.getElem?_append_left l2]; exact h2, h.up9 k he h3⟩
  · rw [ent_moreR] at hn
    by_cases hi2 : i = es.length
    · rw [if_pos hi2] at hn; cases hn
    · rw [if_neg hi2] at hn
      have hil : i < es.length := by simp at hi; omega
      rw [List.getElem?_append_left (by rw [h.lO]; exact hil)]
      exact h.off i hil hn
theorem RTx.list (h : RTx w c q ls es aL nL cL aC nC cC aO nO cO vL vC vO) {x : List St} {b : Option Addr} {cp : Nat} (hv : SHolds w (fun b _ => c b = 9) (.slice b x.length cp) x)
    (m : RM w' c' q aL' nL' cL' aC' nC' cC' aO' nO' cO' (vL ++ [(b, x.length, cp)]) vC vO) (k : Kept (RF c) w w') (he : ∀ b, b < w.heap.size → c' b = c b) :
    RTx w' c' q (ls ++ [x]) es aL' nL' cL' aC' nC' cC' aO' nO' cO' (vL ++ [(b, x.length, cp)]) vC vO := by
  refine ⟨m.low, m.cq, m.blk, m.rL, m.rC, m.rO, m.oL, m.oC, m.oO, ?_, h.lC, h.lO, fun i y hy => ?_, h.off⟩
  · have h1 : Sls w' (fun b _ => c' b = 9) vL ls := ⟨h.sL.1, fun i y hy => by
      obtain ⟨b2, cp2, h1, h2⟩ := h.sL.2 i y hy
      exact ⟨b2, cp2, h1, h.up9 k he h2⟩⟩
    exact h1.snoc (h.up9 k he hv)
  · obtain ⟨h1, b2, cp2, h2, h3⟩ := h.on i y hy
    exact ⟨h1, b2, cp2, h2, h.up9 k he h3⟩
theorem RTx.recolor (h : RTx w c q ls es aL nL cL aC nC cC aO nO cO vL vC vO) (h1 : ∀ b, c b ≠ 0 → c' b = c b) (h2 : ∀ b, c' b ≠ 0 → b < w.heap.size) : RTx w c' q ls es aL nL cL aC nC cC aO nO cO vL vC vO := by
  have e9 : ∀ b, c b = 9 → c' b = 9 := fun b e => by rw [h1 b (by omega)]; exact e
  refine ⟨h2, by rw [h1 q (by rw [h.cq]; omega)]; exact h.cq, h.blk, h.rL, h.rC, h.rO, fun b e => by rw [h1 b (by rw [h.oL b e]; omega)]; exact h.oL b e, fun b e => by rw [h1 b (by rw [h.oC b e]; omega)]; exact h.oC b e, fun b e => by rw [h1 b (by rw [h.oO b e]; omega)]; exact h.oO b e, ⟨h.sL.1, fun i y hy => ?_⟩, h.lC, h.lO, fun i y hy => ?_, h.off⟩
  · obtain ⟨b2, cp2, h3, h4⟩ := h.sL.2 i y hy
    exact ⟨b2, cp2, h3, h4.mono (fun b o e => e9 b e)⟩
  · obtain ⟨h3, b2, cp2, h4, h5⟩ := h.on i y hy
    exact ⟨h3, b2, cp2, h4, h5.mono (fun b o e => e9 b e)⟩
end
end
section
open Go.RowKit Go.Maps Go.WideMaps
set_option maxRecDepth 100000

section
variable {w : World} {c : Nat → Nat} {q : Nat} {ls : List (List St)} {es : En}
/-- The reference's chains, in rows of the call's own. -/
theorem refChainsO (l : List St) (ok : Nat → Nat → Prop) (a : Option Addr) (cap : Nat) (w : World) (h : SHolds w ok (.slice a l.length cap) l) (hok : ∀ b o, ok b o → b < w.heap.size) (hc : cntL l ≤ 5000) :
    Calls Tryz.prog 34 #[.slice none 0 0, .slice a l.length cap] w fun e w' => ∃ a2 c2 vals, e = .returned (.slice a2 (chSL l []).length c2) ∧ In cV 1 w' a2 (chSL l []).length vals ∧ Sls w' (fun b o => ok b o ∨ (w.heap.size ≤ b ∧ b < w'.heap.size)) vals (chSL l []) ∧ Kept Nil w w' ∧ ∀ b, (Value.slice a2 (chSL l []).length c2).ownBlock = some b → w.heap.size ≤ b ∧ b < w'.heap.size := by
  refine (refSCh_tree (.mk ⟨0, 0, 0, 0, []⟩ l) ok (.slice none 0 0) [] a cap w ⟨none, 0, rfl, .inl rfl⟩ KidsD.nil h hok (by simpa [St.subs] using hc)).mono ?_
  rintro e w' ⟨r, ws, rfl, h1, h2, k⟩
  have h1' : ws.map trS = chSL l [] := h1
  have hL := h2.listsS (ok' := fun b o => ok b o ∨ (w.heap.size ≤ b ∧ b < w'.heap.size)) (fun b o hb => .inl hb) (fun g hp hg => .inr ⟨hp, hg⟩)
  rw [h1'] at hL
  obtain ⟨a2, c2, vals, rfl, h3, h4⟩ := hL.toIn
  exact ⟨a2, c2, vals, rfl, h3, h4, k, fun b e => ⟨(h2.own b e).1, (h2.own b e).2.1⟩⟩
theorem addAll_map (es : En) {D : List (List St)} {j : Nat} {x : List St} (hx : D[j]? = some x) : (D.take (j + 1)).map (fnd (addAll es (D.take (j + 1)))) = (D.take j).map (fnd (addAll es (D.take j))) ++ [fnd (addAll es (D.take (j + 1))) x] := by
  have ht : D.take (j + 1) = D.take j ++ [x] := by rw [List.take_add_one, hx]; rfl
  rw [ht, List.map_append, List.map_singleton]
  congr 1
  refine List.map_congr_left (fun y hy => ?_)
  rw [addAll_append, addAll_old _ (addAll_has hy)]
set_option maxHeartbeats 16000000 in
theorem radd_any (h : RT w c q ls es) (hs : Sm es) (hes : es.length ≤ 2000) (hls : ls.length ≤ 1000) (l : List St) (hl : Rl l) (ok : Nat → Nat → Prop) (hok : ∀ b o, ok b o → b < w.heap.size ∧ (c b = 0 ∨ c b = 9)) (a : Option Addr) (cap : Nat) (hH : SHolds w ok (.slice a l.length cap) l) {m : Nat} (hm : (chSL l []).length = m) :
    Calls Tryz.prog 13 #[.pointer (some ⟨q, 0, none⟩), .slice a l.length cap] w fun e w' => ∃ a6 cp6 c', e = .returned (.slice a6 m cp6) ∧ In cNt 1 w' a6 m ((chSL l []).map (fnd (addAll es (chSL l [])))) ∧ (∀ b, (Value.slice a6 m cp6).ownBlock = some b → c' b = 0 ∧ w.heap.size ≤ b ∧ b < w'.heap.size) ∧ RT w' c' q (ls ++ [l]) (addAll es (chSL l [])) ∧ Kept (RF c) w w' ∧ (∀ b, b < w.heap.size → c b ≠ 0 → c' b = c b) ∧ ∀ b, c' b ≠ 0 → c b ≠ 0 ∨ w.heap.size ≤ b ∨ ∃ o, ok b o := by
  have HH := Lib.hid h
  have HS := Lib.hid hs
  have HRL := Lib.hid hl
  have HOK := Lib.hid hok
  have hch := hl.chs
  rw [hm] at hch
  have CC := Lib.hid (refChainsO l ok a cap w hH (fun b o e => (hok b o e).1) (by have := hl.cnt; omega))
  simp only [hm] at CC
  have HSH := Lib.hid hH
  have HM := Lib.hid hm
  obtain ⟨len, hlen⟩ : ∃ len, l.length = len := ⟨_, rfl⟩
  have HLEN := Lib.hid hlen
  simp only [hlen] at CC HSH ⊢
  have hqp : q < w.heap.size := by obtain ⟨aL, nL, cL, aC, nC, cC, aO, nO, cO, vL, vC, vO, h⟩ := h; exact h.blk.lt
  clear h hs hl hok hm hlen hH
  go_enter Tryz.func13, Tryz.ntmps13
  go_wp2_with fail
  refine CC.out.mono ?_
  rintro e w1 ⟨aD, cD, vals, rfl, hI, hS, k1, hoD⟩
  have HOD := Lib.hid hoD
  have HI := Lib.hid hI
  have K1 := Lib.hid k1
  obtain ⟨c0, hc0⟩ : ∃ c0 : Nat → Nat, ∀ b, (c b ≠ 0 → c0 b = c b) ∧ (c b = 0 → ((∃ o, ok b o) ∨ (w.heap.size ≤ b ∧ b < w1.heap.size)) → c0 b = 9) ∧ (c0 b ≠ 0 → c b ≠ 0 ∨ (∃ o, ok b o) ∨ (w.heap.size ≤ b ∧ b < w1.heap.size)) := by
    classical
    refine ⟨fun b => if c b ≠ 0 then c b else if (∃ o, ok b o) ∨ (w.heap.size ≤ b ∧ b < w1.heap.size) then 9 else 0, fun b => ⟨fun e => if_pos e, fun e1 e2 => ?_, fun e => ?_⟩⟩
    · dsimp only
      rw [if_neg (fun f => f e1), if_pos e2]
    · by_cases e1 : c b = 0
      · right
        dsimp only at e
        rw [if_neg (fun f => f e1)] at e
        by_cases e2 : (∃ o, ok b o) ∨ (w.heap.size ≤ b ∧ b < w1.heap.size)
        · exact e2
        · rw [if_neg e2] at e; exact absurd rfl e
      · exact .inl e1
  have HC0 := Lib.hid hc0
  have hlow := HH.out.low
  have hnew9 : ∀ b, w.heap.size ≤ b → b < w1.heap.size → c0 b = 9 := fun b h1 h2 => (hc0 b).2.1 (by
    by_cases e : c b = 0
    · exact e
    · have := hlow b e; omega) (.inr ⟨h1, h2⟩)
  have HN9 := Lib.hid hnew9
  have hok9 : ∀ b o, ok b o → c0 b = 9 := fun b o e => by
    rcases (HOK.out b o e).2 with e1 | e1
    · exact (hc0 b).2.1 e1 (.inl ⟨o, e⟩)
    · rw [(hc0 b).1 (by omega)]; exact e1
  have HOK9 := Lib.hid hok9
  have HRT0 : Hid (RT w1 c0 q ls es) := Lib.hid (by
    obtain ⟨aL, nL, cL, aC, nC, cC, aO, nO, cO, vL, vC, vO, h⟩ := HH.out
    refine ⟨aL, nL, cL, aC, nC, cC, aO, nO, cO, vL, vC, vO, (h.kept k1 (fun _ e => e.elim)).recolor (fun b e => (hc0 b).1 e) (fun b e => ?_)⟩
    have s1 := k1.size
    rcases (hc0 b).2.2 e with g | ⟨o, g⟩ | g
    · have := hlow b g; omega
    · have := (HOK.out b o g).1; omega
    · exact g.2)
  have HSL := Lib.hid (show Sls w1 (fun b _ => c0 b = 9) vals (chSL l []) from ⟨hS.1, fun i x hi => by
    obtain ⟨b, cp, h1, h2⟩ := hS.2 i x hi
    exact ⟨b, cp, h1, h2.mono (fun b o e => by
      rcases e with e | e
      · exact hok9 b o e
      · exact hnew9 b e.1 e.2)⟩⟩)
  clear hI hS k1 CC hc0 hnew9 hok9 hlow hoD
  go_wp2_with fail
  go_loopw [5, 7, 11] (fun v _ i wr => ∃ (j : Nat) (a2 : Option Addr) (n2 c2 : Nat) (c2' : Nat → Nat), j ≤ m ∧ i = .int .i64 j ∧ v = .slice a2 n2 c2 ∧ RT wr c2' q ls (addAll es ((chSL l []).take j)) ∧ Row cNt 3 1 wr w1.heap.size (.slice a2 n2 c2) (((chSL l []).take j).map (fnd (addAll es ((chSL l []).take j)))) ∧ (∀ b, (Value.slice a2 n2 c2).ownBlock = some b → c2' b = 0 ∧ w1.heap.size ≤ b) ∧ Kept (RF c0) w1 wr ∧ ∀ b, b < w1.heap.size → c2' b = c0 b) (fun _ _ i _ => m - (intOf i).toNat)
  case atStart => exact ⟨0, none, 0, 0, c0, Nat.zero_le _, rfl, rfl, HRT0.out, Row.nil _ _, (fun b e => by cases e), Kept.refl _ _, fun _ _ => rfl⟩
  case round =>
    obtain ⟨j, a2, n2, c2, cj, hj, rfl, rfl, hRT, hrow, hown, hK, hex⟩ := hrel
    have HRT := Lib.hid hRT
    have HROW := Lib.hid hrow
    have HOWN := Lib.hid hown
    have HKK := Lib.hid hK
    have HEX := Lib.hid hex
    have hlj := addAll_len ((chSL l []).take j) es
    rw [List.length_take] at hlj
    have HLJ := Lib.hid (show (addAll es ((chSL l []).take j)).length ≤ 2016 by omega)
    clear hRT hrow hown hK hex hlj
    by_cases hlt : j < m
    · obtain ⟨x, hx⟩ : ∃ x, (chSL l [])[j]? = some x := ⟨_, List.getElem?_eq_getElem (by have := HM.out; omega)⟩
      obtain ⟨bx, cx, hvx, hhx⟩ := HSL.out.2 j x hx
      have hinR : In cV 1 wr aD m vals := HI.out.keptF (cap := cD) HKK.out (fun b e f => by
        have h1 := HOD.out b e
        have h2 := HN9.out b h1.1 h1.2
        have := f.2
        omega)
      obtain ⟨b0, o0, rfl, hb0, hq0⟩ := hinR.at_ hvx
      have q0 := hq0 0 _ rfl
      rw [Nat.mul_one, Nat.add_zero] at q0
      have HHX := Lib.hid ((hhx.kept HKK.out (fun b o e f => by have := f.2; omega)).mono (ok' := fun b _ => cj b = 9) (fun b o e => by rw [HEX.out b (HRT0.out.low b (by omega))]; exact e))
      have hxm := List.mem_of_getElem? hx
      have hxr := HRL.out.chain hxm
      have HMX := Lib.hid hxr.mass
      have HXNE := Lib.hid (chain_ne hxm)
      have HTK := Lib.hid (show (chSL l []).take (j + 1) = (chSL l []).take j ++ [x] by rw [List.take_add_one, hx]; rfl)
      have HMAP := Lib.hid (addAll_map es hx)
      have HSMj := Lib.hid (HS.out.addAll HRL.out ((chSL l []).take j) ((chSL l []).drop j) (List.take_append_drop _ _).symm)
      have HSM2 := Lib.hid (HS.out.addAll HRL.out ((chSL l []).take (j + 1)) ((chSL l []).drop (j + 1)) (List.take_append_drop _ _).symm)
      have hl2 := addAll_len ((chSL l []).take (j + 1)) es
      rw [List.length_take] at hl2
      have HL2 := Lib.hid (show (addAll es ((chSL l []).take (j + 1))).length ≤ 2016 by omega)
      obtain ⟨xl, hxl⟩ : ∃ xl, x.length = xl := ⟨_, rfl⟩
      have HXL := Lib.hid hxl
      have CF := Lib.hid (rfind_any HRT.out HSMj.out (by have := HLJ.out; omega) x (by have := HMX.out; omega) _ bx cx HHX.out)
      simp only [hxl] at CF q0
      have hjI : (j : Int) < (m : Int) := by omega
      clear hx hvx hhx hinR hq0 hxm hxr hl2 hxl
      go_wp2_with fail
      refine CF.out.mono ?_
      rintro e w5 ⟨rfl, k5⟩
      have K5 := Lib.hid k5
      have HFJ := Lib.hid (fnd_lt (es := addAll es ((chSL l []).take j)) (c := x))
      clear k5 CF
      by_cases hz : fnd (addAll es ((chSL l []).take j)) x = 0
      · rw [hz]
        obtain ⟨aL, nL, cL, aC, nC, cC, aO, nO, cO, vL, vC, vO, hx5⟩ := HRT.out.keptN K5.out
        have HX5 := Lib.hid hx5
        have hvC : vC.length ≤ 5000 := by have := hx5.lC; have := HLJ.out; omega
        have hvO : vO.length ≤ 5000 := by have := hx5.lO; have := HLJ.out; omega
        obtain ⟨a6, c6, w6, hrun6, hq6, d6, f6, c6', m6, k6, e6⟩ := hx5.rm.pushC hvC (bx, xl, cx)
        obtain ⟨a7, c7, w7, hrun7, hq7, d7, f7, c7', m7, k7, e7⟩ := m6.pushO hvO 0
        rw [show (w6.setCell ⟨q, 1, none⟩ (.slice a6 (nC + 1) c6)).heap.size = w6.heap.size by simp [World.setCell], show (((0 : Nat) : Int)) = 0 from rfl] at hrun7
        have dC := hx5.blk.cell 1
        have dO := m6.blk.cell 2
        have hq5 := hx5.blk.lt
        have hq6b := m6.blk.lt
        simp only [List.getElem?_toArray, List.getElem?_cons_zero, List.getElem?_cons_succ] at dC dO
        have kk : Kept (RF cj) w5 (w7.setCell ⟨q, 2, none⟩ (.slice a7 (nO + 1) c7)) := k6.trans k7 (fun i hi e => by
          have := e6 i hi
          exact ⟨by rw [← this]; exact e.1, by rw [← this]; exact e.2⟩)
        have ee : ∀ b, b < w5.heap.size → c7' b = cj b := fun b hb => (e7 b (Nat.lt_of_lt_of_le hb k6.size)).trans (e6 b hb)
        have hes2 : addAll es ((chSL l []).take (j + 1)) = addAll es ((chSL l []).take j) ++ [(x, true)] := by
          rw [HTK.out, addAll_snoc]; unfold addC; rw [if_pos hz]
        have HHX5 := HHX.out.keptN K5.out
        have hgr := hx5.grow (b := bx) (cp := cx) HHX5 (by rw [HXL.out]; exact m7) kk ee
        rw [← hes2] at hgr
        have HRT2' := Lib.hid (show RT (w7.setCell ⟨q, 2, none⟩ (.slice a7 (nO + 1) c7)) c7' q ls (addAll es ((chSL l []).take (j + 1))) from ⟨_, _, _, _, _, _, _, _, _, _, _, _, hgr⟩)
        have HROW2' := Lib.hid ((HROW.out.keptN K5.out).keptF kk (fun b e f => f.1 (HOWN.out b e).1))
        have HB2' := Lib.hid (show w1.heap.size ≤ (w7.setCell ⟨q, 2, none⟩ (.slice a7 (nO + 1) c7)).heap.size from Nat.le_trans HKK.out.size (Nat.le_trans K5.out.size kk.size))
        have HOWN2' := Lib.hid (show ∀ b, (Value.slice a2 n2 c2).ownBlock = some b → c7' b = 0 ∧ w1.heap.size ≤ b from fun b e => ⟨(ee b ((HROW.out.keptN K5.out).ownLt e)).trans (HOWN.out b e).1, (HOWN.out b e).2⟩)
        have HKK2' := Lib.hid (show Kept (RF c0) w1 (w7.setCell ⟨q, 2, none⟩ (.slice a7 (nO + 1) c7)) from (HKK.out.trans K5.out (fun _ _ e => e.elim)).trans kk (fun i hi e => by
          have := HEX.out i hi
          exact ⟨by rw [← this]; exact e.1, by rw [← this]; exact e.2⟩))
        have HEX2' := Lib.hid (show ∀ b, b < w1.heap.size → c7' b = c0 b from fun b hb => (ee b (Nat.lt_of_lt_of_le hb (Nat.le_trans HKK.out.size K5.out.size))).trans (HEX.out b hb))
        have HHX2' := Lib.hid (hx5.up9 kk ee HHX5)
        rw [HXL.out] at HHX2'
        clear hx5 m6 m7 k6 k7 e6 e7 kk ee hes2 HHX5 hgr hvC hvO hz
        go_wp2_with (first
          | (refine wpList_append_run rfl (.tmp 23) (.tmp 25) 27 rfl (.slice aC nC cC) (.slice (some ⟨w5.heap.size, 0, none⟩) 1 1) rfl rfl (v' := .slice a6 (nC + 1) c6) (w' := w6) (by with_reducible exact hrun6) ?_)
          | (refine wpList_append_run rfl (.tmp 33) (.tmp 34) 28 rfl (.slice aO nO cO) (.slice (some ⟨w6.heap.size, 0, none⟩) 1 1) rfl rfl (v' := .slice a7 (nO + 1) c7) (w' := w7) (by with_reducible exact hrun7) ?_))
        have CG := Lib.hid (rfind_any HRT2'.out HSM2.out (by have := HL2.out; omega) x (by have := HMX.out; omega) _ bx cx (by rw [HXL.out]; exact HHX2'.out))
        simp only [HXL.out] at CG
        go_wp2_with fail
        refine CG.out.mono ?_
        rintro e w8 ⟨rfl, k8⟩
        obtain ⟨f, hf⟩ : ∃ f, fnd (addAll es ((chSL l []).take (j + 1))) x = f := ⟨_, rfl⟩
        rw [hf]
        have hfb : f ≤ 4000 := by rw [← hf]; have := fnd_lt (es := addAll es ((chSL l []).take (j + 1))) (c := x); have := HL2.out; omega
        have HFE := Lib.hid hf
        obtain ⟨a9, c9, w9, hrun9, hR9, k9, ho9⟩ := (HROW2'.out.keptN k8).push2 elsNt cNt_len (fun y => cNt_one y) 28 (Nat.le_trans HB2'.out k8.size) (by rw [List.length_map, List.length_take]; omega) f #[.int .i64 (f : Nat)] rfl
        have HR9 := Lib.hid hR9
        have HK8 := Lib.hid k8
        have HK9 := Lib.hid k9
        have HO9 := Lib.hid ho9
        clear hR9 k8 k9 ho9 hf CG
        go_wp2_with (refine wpList_append_run rfl (.tmp 38) (.tmp 42) 28 rfl (.slice a2 n2 c2) (.slice (some ⟨w8.heap.size, 0, none⟩) 1 1) rfl rfl (v' := .slice a9 (n2 + 1) c9) (w' := w9) (by with_reducible exact hrun9) ?_)
        go_roundw
        case rel =>
          have z2 : ∀ b, (Value.slice a2 n2 c2).ownBlock = some b → c7' b = 0 ∧ w1.heap.size ≤ b := HOWN2'.out
          refine ⟨j + 1, a9, n2 + 1, c9, c7', hlt, by go_num, rfl, (HRT2'.out.keptN HK8.out).kept HK9.out (fun b e => (z2 b e).1), ?_, fun b e => ?_, (HKK2'.out.trans HK8.out (fun _ _ e => e.elim)).trans HK9.out (fun i hi e => by have := (z2 i e).2; omega), HEX2'.out⟩
          · rw [← HFE.out] at HR9
            rw [HMAP.out]
            exact HR9.out
          · rcases HO9.out b e with g | g
            · exact z2 b g
            · refine ⟨?_, by have := HKK2'.out.size; have := HK8.out.size; omega⟩
              by_cases e2 : c7' b = 0
              · exact e2
              · have := HRT2'.out.low b e2; have := HK8.out.size; omega
        case measure => simp [intOf]; omega
      · have hes2 : addAll es ((chSL l []).take (j + 1)) = addAll es ((chSL l []).take j) := by
          rw [HTK.out, addAll_snoc]; unfold addC; rw [if_neg hz]
        have HRT2 := Lib.hid (show RT w5 cj q ls (addAll es ((chSL l []).take (j + 1))) by rw [hes2]; exact HRT.out.keptN K5.out)
        have HROW2 := Lib.hid (HROW.out.keptN K5.out)
        have HB2 := Lib.hid (Nat.le_trans HKK.out.size K5.out.size)
        have HOWN2 := HOWN
        have HKK2 := Lib.hid (show Kept (RF c0) w1 w5 from HKK.out.trans K5.out (fun _ _ e => e.elim))
        have HEX2 := HEX
        have HHX2 := Lib.hid (HHX.out.keptN K5.out)
        simp only [HXL.out] at HHX2
        have hzn : (((fnd (addAll es ((chSL l []).take j)) x : Nat) : Int) == 0) = false := by simp; exact hz
        generalize fnd (addAll es ((chSL l []).take j)) x = f0 at *
        clear hes2 hz
        have CG := Lib.hid (rfind_any HRT2.out HSM2.out (by have := HL2.out; omega) x (by have := HMX.out; omega) _ bx cx (by rw [HXL.out]; exact HHX2.out))
        simp only [HXL.out] at CG
        go_wp2_with fail
        refine CG.out.mono ?_
        rintro e w8 ⟨rfl, k8⟩
        obtain ⟨f, hf⟩ : ∃ f, fnd (addAll es ((chSL l []).take (j + 1))) x = f := ⟨_, rfl⟩
        rw [hf]
        have hfb : f ≤ 4000 := by rw [← hf]; have := fnd_lt (es := addAll es ((chSL l []).take (j + 1))) (c := x); have := HL2.out; omega
        have HFE := Lib.hid hf
        obtain ⟨a9, c9, w9, hrun9, hR9, k9, ho9⟩ := (HROW2.out.keptN k8).push2 elsNt cNt_len (fun y => cNt_one y) 28 (Nat.le_trans HB2.out k8.size) (by rw [List.length_map, List.length_take]; omega) f #[.int .i64 (f : Nat)] rfl
        have HR9 := Lib.hid hR9
        have HK8 := Lib.hid k8
        have HK9 := Lib.hid k9
        have HO9 := Lib.hid ho9
        clear hR9 k8 k9 ho9 hf CG
        go_wp2_with (refine wpList_append_run rfl (.tmp 38) (.tmp 42) 28 rfl (.slice a2 n2 c2) (.slice (some ⟨w8.heap.size, 0, none⟩) 1 1) rfl rfl (v' := .slice a9 (n2 + 1) c9) (w' := w9) (by with_reducible exact hrun9) ?_)
        go_roundw
        case rel =>
          have z2 : ∀ b, (Value.slice a2 n2 c2).ownBlock = some b → cj b = 0 ∧ w1.heap.size ≤ b := HOWN2.out
          refine ⟨j + 1, a9, n2 + 1, c9, cj, hlt, by go_num, rfl, (HRT2.out.keptN HK8.out).kept HK9.out (fun b e => (z2 b e).1), ?_, fun b e => ?_, (HKK2.out.trans HK8.out (fun _ _ e => e.elim)).trans HK9.out (fun i hi e => by have := (z2 i e).2; omega), HEX2.out⟩
          · rw [← HFE.out] at HR9
            rw [HMAP.out]
            exact HR9.out
          · rcases HO9.out b e with g | g
            · exact z2 b g
            · refine ⟨?_, by have := HKK2.out.size; have := HK8.out.size; omega⟩
              by_cases e2 : cj b = 0
              · exact e2
              · have := HRT2.out.low b e2; have := HK8.out.size; omega
        case measure => simp [intOf]; omega
    · obtain rfl : j = m := by omega
      have et : (chSL l []).take j = chSL l [] := List.take_of_length_le (by have := HM.out; omega)
      have hRT := HRT.out
      have hrow := HROW.out
      rw [et] at hRT hrow
      have hn2 : n2 = j := by have := hrow.caps.1; rw [List.length_map] at this; have := HM.out; omega
      subst hn2
      obtain ⟨aL, nL, cL, aC, nC, cC, aO, nO, cO, vL, vC, vO, hx5⟩ := hRT
      have hvL : vL.length ≤ 5000 := by have := hx5.sL.1; omega
      obtain ⟨a6, c6, w6, hrun6, hq6, d6, f6, c6', m6, k6, e6⟩ := hx5.rm.pushL hvL (a, len, cap)
      have dL := hx5.blk.cell 0
      have hq5 := hx5.blk.lt
      simp only [List.getElem?_toArray, List.getElem?_cons_zero] at dL
      have hS9 : SHolds wr (fun b _ => cj b = 9) (.slice a l.length cap) l := by
        rw [HLEN.out]
        exact (((HSH.out.keptN K1.out).mono (ok' := fun b _ => c0 b = 9) (fun b o e => HOK9.out b o e)).kept HKK.out (fun b o e f => by have := f.2; omega)).mono (fun b o e => by rw [HEX.out b (HRT0.out.low b (by omega))]; exact e)
      have hgr := hx5.list (b := a) (cp := cap) hS9 (by rw [HLEN.out]; exact m6) k6 e6
      have HGR := Lib.hid hgr
      have HE6 := Lib.hid e6
      have HROWF := Lib.hid (hrow.keptF k6 (fun b e f => f.1 (HOWN.out b e).1))
      have HK6 := Lib.hid k6
      have HROWL := Lib.hid hrow
      clear hx5 hgr m6 k6 e6 hS9 hrow et hvL
      go_wp2_with (refine wpList_append_run rfl (.tmp 49) (.tmp 51) 27 rfl (.slice aL nL cL) (.slice (some ⟨wr.heap.size, 0, none⟩) 1 1) rfl rfl (v' := .slice a6 (nL + 1) c6) (w' := w6) (by with_reducible exact hrun6) ?_)
      go_ret
      have hcc : ∀ b, b < w.heap.size → c6' b = c0 b := fun b hb => (HE6.out b (Nat.lt_of_lt_of_le hb (Nat.le_trans K1.out.size HKK.out.size))).trans (HEX.out b (Nat.lt_of_lt_of_le hb K1.out.size))
      have hrf : ∀ b, b < w.heap.size → RF c0 b → RF c b := fun b hb e => by
        rcases (HC0.out b).2.2 e.1 with g | ⟨o, g⟩ | g
        · have := (HC0.out b).1 g
          exact ⟨g, by rw [← this]; exact e.2⟩
        · have := HOK9.out b o g; have := e.2; omega
        · omega
      refine ⟨a2, c2, rfl, HROWF.out.toIn cNt_len (by decide), c6', fun b e => ?_, ⟨_, _, _, _, _, _, _, _, _, _, _, _, HGR.out⟩, ?_, fun b hb e => (hcc b hb).trans ((HC0.out b).1 e), fun b e => ?_⟩
      · refine ⟨(HE6.out b (HROWL.out.ownLt e)).trans (HOWN.out b e).1, by have := (HOWN.out b e).2; have := K1.out.size; omega, Nat.lt_of_lt_of_le (HROWL.out.ownLt e) HK6.out.size⟩
      · refine (((K1.out.mono (fun _ _ e => e.elim)).trans HKK.out (fun b hb e => hrf b hb e)).trans HK6.out (fun b hb e => hrf b hb ?_))
        have := HEX.out b (Nat.lt_of_lt_of_le hb K1.out.size)
        exact ⟨by rw [← this]; exact e.1, by rw [← this]; exact e.2⟩
      · by_cases hb : b < w.heap.size
        · rw [hcc b hb] at e
          rcases (HC0.out b).2.2 e with g | g | g
          · exact .inl g
          · exact .inr (.inr g)
          · exact .inr (.inl g.1)
        · exact .inr (.inl (by omega))
end
end
section
section
open Go.RowKit
set_option maxRecDepth 100000

/-- Does a number's chain go with the list? -/
def gonE (ls : List (List St)) (l : List St) (es : En) (n : Nat) : Bool := match ent es n with
  | none => false
  | some x => goes ls l x
section
variable {ls : List (List St)} {es es2 : En} {U E U1 U2 : Nat → Int} {l : List St} {out : List Nat}
theorem gonE_iff {n : Nat} : gonE ls l es n = true ↔ ∃ x, ent es n = some x ∧ goes ls l x = true := by
  unfold gonE
  cases ent es n <;> simp
/-- A chain that goes is one of the list's. -/
theorem goes_mem (h : TLS ls es U E) (hm : l ∈ ls) {x : List St} (hx : fnd es x ≠ 0) (hg : goes ls l x = true) : x ∈ chSL l [] := by
  unfold goes at hg
  have hg := of_decide_eq_true hg
  have h1 := (h.tl.all x hg.1).1 hx
  rw [usesL_erase hm, hg.2] at h1
  by_cases e : x ∈ [] :: chSL l []
  · rcases List.mem_cons.1 e with e | e
    · exact absurd e hg.1
    · exact e
  · rw [if_neg e] at h1; omega
theorem rem_ent (h : TLS ls es U E) (hm : l ∈ ls) (r : RemI ls l es U1 ([] :: chSL l []) es2 U2 out) (n : Nat) : ent es2 n = if gonE ls l es n = true then none else ent es n := by
  have back : ∀ y, ent es2 n = some y → ent es n = some y ∧ ¬ (y ∈ [] :: chSL l [] ∧ goes ls l y = true) := fun y hy => by
    have h1 := (ent_fnd r.ok).1 hy
    have h2 := r.fn y
    split at h2
    · omega
    · rename_i hn
      exact ⟨(ent_fnd h.tl.ok).2 ⟨h1.1, by omega⟩, hn⟩
  by_cases hg : gonE ls l es n = true
  · rw [if_pos hg]
    obtain ⟨x, hx, hgx⟩ := gonE_iff.1 hg
    cases e : ent es2 n with
    | none => rfl
    | some y =>
      obtain ⟨h1, h2⟩ := back y e
      rw [hx] at h1
      cases h1
      have h3 := (ent_fnd h.tl.ok).1 hx
      exact absurd ⟨List.mem_cons_of_mem _ (goes_mem h hm (by omega) hgx), hgx⟩ h2
  · rw [if_neg hg]
    cases e : ent es n with
    | none =>
      cases e2 : ent es2 n with
      | none => rfl
      | some y => have := (back y e2).1; rw [e] at this; cases this
    | some x =>
      have h1 := (ent_fnd h.tl.ok).1 e
      have h2 := r.fn x
      rw [if_neg (fun f => hg (gonE_iff.2 ⟨x, e, f.2⟩))] at h2
      exact (ent_fnd r.ok).2 ⟨h1.1, by omega⟩
/-- Numbers of the last d chains of n that go, falling. -/
def gonL (g : Nat → Bool) (n : Nat) : Nat → List Nat
  | 0 => []
  | d + 1 => gonL g n d ++ if g (n - (d + 1) + 2) = true then [n - (d + 1) + 2] else []
theorem gonL_mem {g : Nat → Bool} {n : Nat} : ∀ {d x : Nat}, d ≤ n → (x ∈ gonL g n d ↔ n - d + 2 ≤ x ∧ x < n + 2 ∧ g x = true)
  | 0, x, _ => by simp [gonL]; omega
  | d + 1, x, hd => by
    unfold gonL
    rw [List.mem_append, gonL_mem (by omega)]
    constructor
    · rintro (⟨h1, h2, h3⟩ | h)
      · exact ⟨by omega, h2, h3⟩
      · split at h
        · rename_i hg
          rw [List.mem_singleton] at h
          subst h
          exact ⟨Nat.le_refl _, by omega, hg⟩
        · cases h
    · rintro ⟨h1, h2, h3⟩
      by_cases e : x = n - (d + 1) + 2
      · right
        rw [← e, h3]; simp
      · exact .inl ⟨by omega, h2, h3⟩
theorem gonL_fall {g : Nat → Bool} {n : Nat} : ∀ {d : Nat}, d ≤ n → (gonL g n d).Pairwise (· > ·)
  | 0, _ => List.Pairwise.nil
  | d + 1, hd => by
    unfold gonL
    rw [List.pairwise_append]
    refine ⟨gonL_fall (by omega), by split <;> simp, fun x hx y hy => ?_⟩
    have h1 := (gonL_mem (by omega)).1 hx
    split at hy
    · rw [List.mem_singleton] at hy; omega
    · cases hy
theorem gonL_len {g : Nat → Bool} {n : Nat} : ∀ {d : Nat}, (gonL g n d).length ≤ d
  | 0 => Nat.le_refl _
  | d + 1 => by
    unfold gonL
    rw [List.length_append]
    have := gonL_len (g := g) (n := n) (d := d)
    split <;> simp <;> omega
theorem fall_eqN {a b : List Nat} (ha : a.Pairwise (· > ·)) (hb : b.Pairwise (· > ·)) (h : ∀ x, x ∈ a ↔ x ∈ b) : a = b := by
  have := rise_eqN (List.pairwise_reverse.2 ha) (List.pairwise_reverse.2 hb) (fun x => by rw [List.mem_reverse, List.mem_reverse]; exact h x)
  have e2 := congrArg List.reverse this
  rwa [List.reverse_reverse, List.reverse_reverse] at e2
/-- The program tells the document's numbers. -/
theorem rem_out (h : TLS ls es U E) (hm : l ∈ ls) (r : RemI ls l es U1 ([] :: chSL l []) es2 U2 out) : out = gonL (gonE ls l es) es.length es.length := by
  have halive : ∀ y ∈ chSL l [], fnd es y ≠ 0 := fun y hy => (h.tl.all y (chain_ne hy)).2 ((usesL_pos (chain_ne hy)).2 ⟨l, hm, hy⟩)
  have hup : (chSL l []).Pairwise (fun x y => fnd es x < fnd es y) := by
    rw [List.pairwise_iff_getElem]
    intro i j hi hj hij
    have hsp : chSL l [] = (chSL l []).take j ++ (chSL l [])[j] :: (chSL l []).drop (j + 1) := by
      rw [← List.drop_eq_getElem_cons hj, List.take_append_drop]
    have hmem : (chSL l [])[i] ∈ (chSL l []).take j := List.mem_take_iff_getElem.2 ⟨i, by omega, rfl⟩
    have hy := halive _ (List.getElem_mem hj)
    have hne : (chSL l [])[i] ≠ (chSL l [])[j] := fun e => by
      have := (List.getElem_inj (chSL_nodup l [])).1 e
      omega
    exact (fnd_low h.tl.ok hy (by rw [chain_ahead hsp]; exact List.mem_append_left _ hmem)).2.2 hne
  refine fall_eqN ?_ (gonL_fall (Nat.le_refl _)) (fun n => ?_)
  · rw [r.out, List.pairwise_map]
    have h1 : ([] :: chSL l []).Pairwise (fun x y => goes ls l x = true → fnd es x < fnd es y) :=
      List.pairwise_cons.2 ⟨fun y _ hg => by unfold goes at hg; exact absurd rfl (of_decide_eq_true hg).1, hup.imp (S := fun x y => goes ls l x = true → fnd es x < fnd es y) (fun {a b} q _ => q)⟩
    have h2 := List.pairwise_reverse.2 (h1.imp (S := fun y x => goes ls l y = true → fnd es y < fnd es x) (fun {a b} q => q))
    refine (List.Pairwise.filter _ h2).imp_of_mem (fun {a b} ha hb q => ?_)
    exact q (List.mem_filter.1 hb).2
  · rw [gonL_mem (Nat.le_refl _), r.out, List.mem_map]
    constructor
    · rintro ⟨x, hx, rfl⟩
      obtain ⟨h1, h2⟩ := List.mem_filter.1 hx
      have hx0 : x ≠ [] := by unfold goes at h2; exact (of_decide_eq_true h2).1
      have hxm : x ∈ chSL l [] := by
        rcases List.mem_cons.1 (List.mem_reverse.1 h1) with e | e
        · exact absurd e hx0
        · exact e
      have hz := halive x hxm
      have hlt := fnd_lt (es := es) (c := x)
      have h1' : fnd es x ≠ 1 := fun e => hx0 (fnd_one.1 e)
      exact ⟨by omega, by omega, gonE_iff.2 ⟨x, (ent_fnd h.tl.ok).2 ⟨hz, rfl⟩, h2⟩⟩
    · rintro ⟨_, _, h3⟩
      obtain ⟨x, hx, hg⟩ := gonE_iff.1 h3
      have h4 := (ent_fnd h.tl.ok).1 hx
      exact ⟨x, List.mem_filter.2 ⟨List.mem_reverse.2 (List.mem_cons_of_mem _ (goes_mem h hm (by omega) hg)), hg⟩, h4.2⟩
end
end
end
section
open Go.RowKit Go.Maps Go.WideMaps
set_option maxRecDepth 100000

theorem flat_set (l : List Nat) (k x : Nat) : (l.set k x).flatMap cNt = (l.flatMap cNt).set k (.int .i64 x) := by
  have e : ∀ m : List Nat, m.flatMap cNt = m.map fun x : Nat => (Value.int .i64 x) := fun m => by
    induction m with
    | nil => rfl
    | cons y r ih => rw [List.flatMap_cons, ih]; rfl
  rw [e, e, List.map_set]
/-- The last d of n gone, where g says so. -/
def esD (es : En) (g : Nat → Bool) (n d : Nat) : En := es.mapIdx fun i x => (x.1, x.2 && !(decide (n - d ≤ i) && g (i + 2)))
theorem esD_len (es : En) (g : Nat → Bool) (n d : Nat) : (esD es g n d).length = es.length := by unfold esD; simp
theorem ent_two' (es : En) (i : Nat) : ent es (i + 2) = match es[i]? with
  | some (c, true) => some c
  | _ => none := by
  have a1 : (i + 2 = 0) = False := by simp
  have a2 : (i + 2 = 1) = False := by simp
  have a3 : i + 2 - 2 = i := by omega
  unfold ent
  simp only [a1, a2, a3, if_false]
  rcases es[i]? with _ | ⟨c, _ | _⟩ <;> rfl
theorem esD_ent (es : En) (g : Nat → Bool) (n d i : Nat) : ent (esD es g n d) (i + 2) = if n - d ≤ i ∧ g (i + 2) = true then none else ent es (i + 2) := by
  rw [ent_two', ent_two']
  unfold esD
  rw [List.getElem?_mapIdx]
  cases es[i]? with
  | none => simp
  | some x =>
    obtain ⟨c, b⟩ := x
    by_cases h : n - d ≤ i ∧ g (i + 2) = true
    · rw [if_pos h]
      simp [h.1, h.2]
    · rw [if_neg h]
      by_cases h1 : n - d ≤ i
      · have h2 : g (i + 2) = false := by
          cases e : g (i + 2) with
          | false => rfl
          | true => exact absurd ⟨h1, e⟩ h
        simp [h2]
      · simp [h1]
section
variable {w w' : World} {c c' : Nat → Nat} {q : Nat} {ls : List (List St)} {es es' : En} {aL aC aO aL' : Option Addr} {nL cL nC cC nO cO nL' cL' : Nat} {vL vC vL' : List SlV} {vO : List Nat} {b0 : Nat}
theorem RTx.cong (h : RTx w c q ls es aL nL cL aC nC cC aO nO cO vL vC vO) (hl : es'.length = es.length) (he : ∀ i, ent es' (i + 2) = ent es (i + 2)) : RTx w c q ls es' aL nL cL aC nC cC aO nO cO vL vC vO :=
  ⟨h.low, h.cq, h.blk, h.rL, h.rC, h.rO, h.oL, h.oC, h.oO, h.sL, h.lC.trans hl.symm, h.lO.trans hl.symm, fun i x e => h.on i x ((he i).symm.trans e), fun i hi e => h.off i (by omega) ((he i).symm.trans e)⟩
/-- Other lists. -/
theorem RTx.setL (h : RTx w c q ls es aL nL cL aC nC cC aO nO cO vL vC vO) {ls' : List (List St)} (hr : Row cV 35 1 w 0 (.slice aL' nL' cL') vL') (h0 : ∀ b, (Value.slice aL' nL' cL').ownBlock = some b → c b = 0) (hs : Sls w (fun b _ => c b = 9) vL' ls') :
    ∃ c', RTx (w.setCell ⟨q, 0, none⟩ (.slice aL' nL' cL')) c' q ls' es aL' nL' cL' aC nC cC aO nO cO vL' vC vO ∧ Kept (RF c) w (w.setCell ⟨q, 0, none⟩ (.slice aL' nL' cL')) ∧ (∀ b, c b ≠ 0 → c' b = c b) ∧ ∀ b, c' b ≠ 0 → c b ≠ 0 ∨ (Value.slice aL' nL' cL').ownBlock = some b := by
  have k4 : Kept (fun z => z = q) w (w.setCell ⟨q, 0, none⟩ (.slice aL' nL' cL')) := Kept.setCell (F := fun z => z = q) (Kept.refl _ _) _ (.inl rfl) _
  obtain ⟨c', hc'⟩ : ∃ c' : Nat → Nat, c' = fun b => if (Value.slice aL' nL' cL').ownBlock = some b then 2 else c b := ⟨_, rfl⟩
  have hold : ∀ b, c b ≠ 0 → c' b = c b := fun b hb => by
    rw [hc']
    exact if_neg (fun e => hb (h0 b e))
  have hsz : (w.setCell ⟨q, 0, none⟩ (.slice aL' nL' cL')).heap.size = w.heap.size := by simp [World.setCell]
  have e9 : ∀ b, c b = 9 → c' b = 9 := fun b e => by rw [hold b (by omega)]; exact e
  have nq : ∀ b, c b = 9 → b ≠ q := fun b e f => by rw [f, h.cq] at e; cases e
  refine ⟨c', ⟨fun b e => ?_, ?_, ?_, ?_, ?_, ?_, fun b e => ?_, fun b e => ?_, fun b e => ?_, ⟨hs.1, fun i y hy => ?_⟩, h.lC, h.lO, fun i y hy => ?_, h.off⟩, k4.mono (fun z _ e => by rw [e]; exact ⟨by rw [h.cq]; omega, by rw [h.cq]; omega⟩), hold, fun b e => ?_⟩
  · rw [hsz]
    by_cases e2 : (Value.slice aL' nL' cL').ownBlock = some b
    · exact hr.ownLt e2
    · rw [hc'] at e
      dsimp only at e
      rw [if_neg e2] at e
      exact h.low b e
  · rw [hold q (by rw [h.cq]; omega)]; exact h.cq
  · simpa using h.blk.set_ 0 (.slice aL' nL' cL')
  · exact hr.keptF k4 (fun b e f => by have := h0 b e; rw [f, h.cq] at this; cases this)
  · exact h.rC.keptF k4 (fun b e f => by have := h.oC b e; rw [f, h.cq] at this; cases this)
  · exact h.rO.keptF k4 (fun b e f => by have := h.oO b e; rw [f, h.cq] at this; cases this)
  · rw [hc']; exact if_pos e
  · rw [hold b (by rw [h.oC b e]; omega)]; exact h.oC b e
  · rw [hold b (by rw [h.oO b e]; omega)]; exact h.oO b e
  · obtain ⟨b2, cp2, h3, h4⟩ := hs.2 i y hy
    exact ⟨b2, cp2, h3, (h4.kept k4 (fun b o e => nq b e)).mono (fun b o e => e9 b e)⟩
  · obtain ⟨h3, b2, cp2, h4, h5⟩ := h.on i y hy
    exact ⟨h3, b2, cp2, h4, (h5.kept k4 (fun b o e => nq b e)).mono (fun b o e => e9 b e)⟩
  · by_cases e2 : (Value.slice aL' nL' cL').ownBlock = some b
    · exact .inr e2
    · rw [hc'] at e
      dsimp only at e
      rw [if_neg e2] at e
      exact .inl e
/-- One is out. -/
theorem RTx.setO (h : RTx w c q ls es aL nL cL aC nC cC (some ⟨b0, 0, none⟩) nO cO vL vC vO) {k : Nat} (hk : k < es.length) (hl : es'.length = es.length) (he : ∀ i, ent es' (i + 2) = if i = k then none else ent es (i + 2)) :
    RTx (w.setCell ⟨b0, k, none⟩ (.int .i64 1)) c q ls es' aL nL cL aC nC cC (some ⟨b0, 0, none⟩) nO cO vL vC (vO.set k 1) ∧ Kept (RF c) w (w.setCell ⟨b0, k, none⟩ (.int .i64 1)) := by
  have c4 : c b0 = 4 := h.oO b0 rfl
  have k4 : Kept (fun z => z = b0) w (w.setCell ⟨b0, k, none⟩ (.int .i64 1)) := Kept.setCell (F := fun z => z = b0) (Kept.refl _ _) _ (.inl rfl) _
  have hsz : (w.setCell ⟨b0, k, none⟩ (.int .i64 1)).heap.size = w.heap.size := by simp [World.setCell]
  have n9 : ∀ b, c b = 9 → b ≠ b0 := fun b e f => by rw [f, c4] at e; cases e
  have hrO : Row cNt 3 1 (w.setCell ⟨b0, k, none⟩ (.int .i64 1)) 0 (.slice (some ⟨b0, 0, none⟩) nO cO) (vO.set k 1) := by
    have h1 := h.rO
    have hn := h.rO.caps.1
    subst hn
    have h2 := (World.ownsRow.stored (h := h1) k (.int .i64 1)).1
    unfold Row
    rw [flat_set, List.length_set]
    exact h2
  refine ⟨⟨fun b e => by rw [hsz]; exact h.low b e, h.cq, h.blk.kept k4 (fun e => by have := h.cq; rw [e, c4] at this; cases this), h.rL.keptF k4 (fun b e f => by have := h.oL b e; rw [f, c4] at this; cases this), h.rC.keptF k4 (fun b e f => by have := h.oC b e; rw [f, c4] at this; cases this), hrO, h.oL, h.oC, h.oO, h.sL.keptF k4 (fun b o e => n9 b e), h.lC.trans hl.symm, by rw [List.length_set]; exact h.lO.trans hl.symm, fun i y hy => ?_, fun i hi hn => ?_⟩, k4.mono (fun z _ e => by rw [e]; exact ⟨by omega, by omega⟩)⟩
  · rw [he] at hy
    by_cases hik : i = k
    · rw [if_pos hik] at hy; cases hy
    · rw [if_neg hik] at hy
      obtain ⟨h3, b2, cp2, h4, h5⟩ := h.on i y hy
      exact ⟨by rw [List.getElem?_set_ne (fun e => hik e.symm)]; exact h3, b2, cp2, h4, h5.kept k4 (fun b o e => n9 b e)⟩
  · rw [he] at hn
    by_cases hik : i = k
    · subst hik
      rw [List.getElem?_set_self (by rw [h.lO]; exact hk)]
    · rw [if_neg hik] at hn
      rw [List.getElem?_set_ne (fun e => hik e.symm)]
      exact h.off i (by omega) hn
end
end
end Go.Proofs.YtljefbfjehblpaaGreat
