/- A tree in memory: sets of numbers, notes of such sets by a thing, tokens by their numbers. -/
import Derived.Test.YtbaplplaokbnnaaMKeys
import Derived.Test.YtbaplplaokbnnaaMMath
namespace Go.Proofs.Ytbaplplaokbnnaa
open Go.RowKit Go.Maps Go.WideMaps
set_option maxRecDepth 100000

theorem lawI : Keyed Try.prog 3 := int_keyed Try.underlying3
theorem keyI {x : Int} (h : (Lit.int .i64 x).wf = true) : keyOf Try.prog 3 (.int .i64 x) = some (.int .i64 x) := keyOf_int_mk Try.underlying3 h
noncomputable abbrev boolE : Value → Option (DataW Unit × List MemPlace) := plainElem (H := Unit) Try.prog 4
theorem boolE_mk (b : Bool) : boolE (.bool b) = some (.lit (.bool b), []) := plainElem_bool Try.underlying4 b
theorem boolE_inv {v : Value} {b : Bool} {ps : List MemPlace} (h : boolE v = some (.lit (.bool b), ps)) : v = .bool b := by
  unfold boolE plainElem at h
  rw [Try.underlying4] at h
  cases v <;> simp at h
  rw [h.1]
theorem zeroB (w : World) : (zeroValue 4).run Try.prog w = .ok (.bool false) w := by kernel_rfl
theorem zeroM (w : World) : (zeroValue 106).run Try.prog w = .ok (.map none) w := by kernel_rfl
/-- How a map reads that is another map's element: as its block's number. -/
def mapE : Value → Option (DataW Unit × List MemPlace)
  | .map none => some (.nil, [])
  | .map (some q) => some (.lit (.int .i64 q), [])
  | _ => none
theorem mapE_nil : mapE (.map none) = some (.nil, []) := rfl
theorem mapE_mk (q : Nat) : mapE (.map (some q)) = some (.lit (.int .i64 q), []) := rfl
theorem mapE_inv_nil {v : Value} {ps : List MemPlace} (h : mapE v = some (.nil, ps)) : v = .map none := by
  unfold mapE at h
  split at h
  · rfl
  · simp at h
  · cases h
theorem mapE_inv {v : Value} {q : Nat} {ps : List MemPlace} (h : mapE v = some (.lit (.int .i64 q), ps)) : v = .map (some q) := by
  unfold mapE at h
  split at h
  · simp at h
  · simp at h; have := h.1; congr 2; omega
  · cases h

/-! ### A map of ids -/
structure SetM (w : World) (b : Nat) (l : List Int) : Prop where
  rise : Rise l
  wf : ∀ x ∈ l, (Lit.int .i64 x).wf = true
  mp : ∃ D, w.ownsMap (H := Unit) Try.prog 3 boolE b l.length D ∧ SetD D l
section
variable {w w' : World} {b : Nat} {l : List Int}
theorem SetM.lt (h : SetM w b l) : b < w.heap.size := by obtain ⟨D, ho, _⟩ := h.mp; exact ho.lt
theorem SetM.isMap (h : SetM w b l) : ∃ es clock, w.heap[b]? = some (.map es clock) := by obtain ⟨D, ⟨es, clock, hb, _⟩, _⟩ := h.mp; exact ⟨es, clock, hb⟩
theorem SetM.kept (h : SetM w b l) {F : Nat → Prop} (hk : Kept F w w') (hF : ¬ F b) : SetM w' b l := by
  obtain ⟨D, ho, hD⟩ := h.mp
  exact ⟨h.rise, h.wf, D, hk.map ho hF, hD⟩
theorem SetM.new (w : World) : SetM (w.alloc (.map #[] 0)) w.heap.size [] := ⟨List.Pairwise.nil, by simp, .map [], World.ownsMap_made (H := Unit) w Try.prog 3 boolE, SetD.nil⟩
theorem SetM.look (h : SetM w b l) {x : Int} (hx : (Lit.int .i64 x).wf = true) : (Instr.lookup 106 (.map (some b)) (.int .i64 x) false).run Try.prog w = .ok (.bool (decide (x ∈ l))) w := by
  obtain ⟨D, ho, hD⟩ := h.mp
  obtain ⟨v, ps, hrun, hv⟩ := ho.lookup lawI Try.underlying106 (zeroB w) (boolE_mk false) (keyI hx)
  rw [hD.get] at hv
  rw [hrun, boolE_inv hv]
theorem SetM.lookN (w : World) {x : Int} (hx : (Lit.int .i64 x).wf = true) : (Instr.lookup 106 (.map none) (.int .i64 x) false).run Try.prog w = .ok (.bool false) w :=
  look_nil (w := w) false lawI Try.underlying106 (zeroB w) (keyI hx)
theorem SetM.put (h : SetM w b l) (hn : l.length ≤ 5000) {x : Int} (hx : (Lit.int .i64 x).wf = true) :
    ∃ w', (Instr.mapUpdate 106 (.map (some b)) (.int .i64 x) (.bool true)).run Try.prog w = .ok () w' ∧ SetM w' b (put l x) ∧ Kept (fun i => i = b) w w' := by
  obtain ⟨D, ho, hD⟩ := h.mp
  obtain ⟨w', hrun, ho', hg⟩ := ho.update (val := .bool true) lawI Try.underlying106 (by unfold maxLen; omega) (keyI hx) (boolE_mk true)
  have hD' := hD.put x
  refine ⟨w', hrun, ⟨rise_put h.rise x, fun y hy => ?_, _, ownsMap_tight ho' (Nat.le_of_eq hD'.size), hD'⟩, (Kept.refl _ _).grown hg (fun i e => .inl (by simpa using e.symm))⟩
  rcases mem_put.1 hy with rfl | hy
  · exact hx
  · exact h.wf y hy
theorem SetM.del (h : SetM w b l) {x : Int} (hx : (Lit.int .i64 x).wf = true) :
    ∃ w', (Builtin.delete_ #[106, 3] 0 #[.map (some b), .int .i64 x]).run Try.prog w = .ok (.tuple #[]) w' ∧ SetM w' b (del x l) ∧ Kept (fun i => i = b) w w' := by
  obtain ⟨D, ho, hD⟩ := h.mp
  obtain ⟨w', hrun, ho', ht⟩ := ho.drop lawI Try.underlying106 (keyI hx) 0
  have hD' := hD.del h.rise x
  exact ⟨w', hrun, ⟨rise_del h.rise x, fun y hy => h.wf y (mem_del.1 hy).1, _, ownsMap_tight ho' (Nat.le_of_eq hD'.size), hD'⟩, (Kept.refl _ _).grown ht.grown (fun i e => .inl (by simpa using e.symm))⟩
theorem SetM.len (h : SetM w b l) (ty : TypeId) : (Builtin.len_ #[106] ty #[.map (some b)]).run Try.prog w = .ok (.int .i64 l.length) w := by
  obtain ⟨D, ho, hD⟩ := h.mp
  have e := ho.len Try.underlying106 ty
  rw [hD.size] at e
  exact e
end

/-! ### Notes -/
/-- What a call's new blocks make of a set of blocks. -/
def Fup (F : Nat → Prop) (w w' : World) (k : Nat) : Prop := F k ∨ (w.heap.size ≤ k ∧ k < w'.heap.size)
section
variable {κ : Type} {K : KT Try.prog κ} {tO : TypeId}
def gd (g : κ → Option Nat) (k : κ) : DataW Unit := match g k with
  | none => .nil
  | some b => .lit (.int .i64 (b : Int))
/-- x: notes; g: where each thing's set is; N: what is noted by each; F: their blocks. -/
structure Not (K : KT Try.prog κ) (w : World) (F : Nat → Prop) (x : Value) (g : κ → Option Nat) (N : κ → List Int) (n : Nat) : Prop where
  inF : ∀ b, F b → b < w.heap.size
  outer : (x = .map none ∧ ∀ k, g k = none) ∨ ∃ bo D, x = .map (some bo) ∧ F bo ∧ w.ownsMap (H := Unit) Try.prog K.t mapE bo n D ∧ Tidy D ∧ ∀ k, K.ok k → D.atKey (K.lit k) .nil = gd g k
  sets : ∀ k b, K.ok k → g k = some b → F b ∧ x ≠ .map (some b) ∧ SetM w b (N k)
  miss : ∀ k, K.ok k → g k = none → N k = []
  apart : ∀ a b c, K.ok a → K.ok b → g a = some c → g b = some c → a = b
section
variable {w w' : World} {F G : Nat → Prop} {x : Value} {g : κ → Option Nat} {N : κ → List Int} {n m : Nat}
theorem Not.kept (h : Not K w F x g N n) (hk : Kept G w w') (hG : ∀ b, F b → ¬ G b) : Not K w' F x g N n := by
  refine ⟨fun b e => Nat.lt_of_lt_of_le (h.inF b e) hk.size, ?_, fun k b ok e => ?_, h.miss, h.apart⟩
  · rcases h.outer with e | ⟨bo, D, e, fo, ho, r⟩
    · exact .inl e
    · exact .inr ⟨bo, D, e, fo, hk.map ho (hG bo fo), r⟩
  · obtain ⟨a, b', c⟩ := h.sets k b ok e
    exact ⟨a, b', c.kept hk (hG b a)⟩
theorem Not.keptN (h : Not K w F x g N n) (hk : Kept Nil w w') : Not K w' F x g N n := h.kept hk (fun _ _ e => e)
theorem Not.wider (h : Not K w F x g N n) (hFG : ∀ b, F b → G b) (hG : ∀ b, G b → b < w.heap.size) : Not K w G x g N n := by
  refine ⟨hG, ?_, fun k b ok e => ?_, h.miss, h.apart⟩
  · rcases h.outer with e | ⟨bo, D, e, fo, r⟩
    · exact .inl e
    · exact .inr ⟨bo, D, e, hFG _ fo, r⟩
  · obtain ⟨a, r⟩ := h.sets k b ok e
    exact ⟨hFG _ a, r⟩
theorem Not.more (h : Not K w F x g N n) (hm : n ≤ m) : Not K w F x g N m := by
  refine ⟨h.inF, ?_, h.sets, h.miss, h.apart⟩
  rcases h.outer with e | ⟨bo, D, e, fo, ho, r⟩
  · exact .inl e
  · exact .inr ⟨bo, D, e, fo, ho.mono hm, r⟩
theorem Not.same {N' : κ → List Int} (h : Not K w F x g N n) (e : ∀ k, K.ok k → N k = N' k) : Not K w F x g N' n :=
  ⟨h.inF, h.outer, fun k b ok eg => by rw [← e k ok]; exact h.sets k b ok eg, fun k ok eg => by rw [← e k ok]; exact h.miss k ok eg, h.apart⟩
theorem Not.start (w : World) : Not K w (fun _ => False) (.map none) (fun _ => none) (fun _ => []) n :=
  ⟨fun _ e => e.elim, .inl ⟨rfl, fun _ => rfl⟩, fun _ _ _ e => (by cases e), fun _ _ _ => rfl, fun _ _ _ _ _ e => (by cases e)⟩
/-- The look-up of a thing's set. -/
theorem Not.look (h : Not K w F x g N n) (hO : Try.prog.underlying tO = some (.map K.t 106)) {k : κ} (hk : K.ok k) : (Instr.lookup tO x (K.enc k) false).run Try.prog w = .ok (.map (g k)) w := by
  rcases h.outer with ⟨rfl, e⟩ | ⟨bo, D, rfl, _, ho, _, hD⟩
  · rw [e k]
    exact look_nil (w := w) false K.keyed hO (zeroM w) (K.key k hk)
  · obtain ⟨v, ps, hrun, hv⟩ := ho.lookup K.keyed hO (zeroM w) mapE_nil (K.key k hk)
    rw [hD k hk] at hv
    rw [hrun]
    unfold gd at hv
    cases hg : g k with
    | none => rw [hg] at hv; rw [mapE_inv_nil hv]
    | some b => rw [hg] at hv; rw [mapE_inv hv]
/-- Its own map is made. -/
theorem Not.made (h : Not K w F (.map none) g N n) {W : World} (hk : Kept G w (W.alloc (.map #[] 0))) (hW : w.heap.size ≤ W.heap.size) :
    Not K (W.alloc (.map #[] 0)) (Fup F w (W.alloc (.map #[] 0))) (.map (some W.heap.size)) g N n := by
  have hg : ∀ k, g k = Option.none := by
    rcases h.outer with ⟨_, e⟩ | ⟨bo, D, e, _⟩
    · exact e
    · cases e
  refine ⟨fun b e => ?_, .inr ⟨W.heap.size, .map [], rfl, .inr ⟨hW, by simp⟩, (World.ownsMap_made (H := Unit) W Try.prog K.t mapE).mono (Nat.zero_le _), tidy_empty, fun k _ => ?_⟩, fun k b _ e => ?_, h.miss, fun a b c _ _ e => ?_⟩
  · rcases e with e | e
    · exact Nat.lt_of_lt_of_le (h.inF b e) hk.size
    · exact e.2
  · unfold gd; rw [hg k]; rfl
  · rw [hg k] at e; cases e
  · rw [hg a] at e; cases e
section
variable [DecidableEq κ]
def upd {β : Type} (f : κ → β) (k : κ) (v : β) : κ → β := fun j => if j = k then v else f j
theorem upd_same {β : Type} (f : κ → β) (k : κ) (v : β) : upd f k v k = v := if_pos rfl
theorem upd_other {β : Type} (f : κ → β) {k j : κ} (v : β) (h : j ≠ k) : upd f k v j = f j := if_neg h
/-- A set, just made, put in. -/
theorem Not.entered {bo b : Nat} (h : Not K w F (.map (some bo)) g N n) (hO : Try.prog.underlying tO = some (.map K.t 106)) (hn : n ≤ 5000) {k : κ} (hk : K.ok k) (hg : g k = Option.none) (hb : ¬ F b) (hs : SetM w b []) :
    ∃ w', (Instr.mapUpdate tO (.map (some bo)) (K.enc k) (.map (some b))).run Try.prog w = .ok () w' ∧ Kept (fun i => i = bo) w w' ∧ F bo ∧ Not K w' (fun i => F i ∨ i = b) (.map (some bo)) (upd g k (some b)) N (n + 1) := by
  rcases h.outer with ⟨e, _⟩ | ⟨bo', D, e, fo, ho, ht, hD⟩
  · cases e
  cases e
  obtain ⟨w', hrun, ho', hgr⟩ := ho.update (val := .map (some b)) K.keyed hO (by unfold maxLen; omega) (K.key k hk) (mapE_mk b)
  have hkk : Kept (fun i => i = bo) w w' := (Kept.refl _ _).grown hgr (fun i e => .inl (by simpa using e.symm))
  have hbne : b ≠ bo := fun e => hb (e ▸ fo)
  refine ⟨w', hrun, hkk, fo, ⟨fun i e => ?_, .inr ⟨bo, _, rfl, .inl fo, ho', ht.put (K.isKey hk) _, fun j hj => ?_⟩, fun j c hj e => ?_, fun j hj e => ?_, fun i j c hi hj e1 e2 => ?_⟩⟩
  · rcases e with e | rfl
    · exact Nat.lt_of_lt_of_le (h.inF i e) hkk.size
    · exact Nat.lt_of_lt_of_le hs.lt hkk.size
  · by_cases ej : j = k
    · subst ej
      rw [atKey_put_same ht.isMap (K.isKey hk)]
      unfold gd; rw [upd_same]
    · rw [atKey_put_other (K.ne hj hk ej), hD j hj]
      unfold gd; rw [upd_other _ _ ej]
  · by_cases ej : j = k
    · subst ej
      rw [upd_same] at e
      cases e
      rw [h.miss j hj hg]
      exact ⟨.inr rfl, fun e => hbne (by simpa using e.symm), hs.kept hkk hbne⟩
    · rw [upd_other _ _ ej] at e
      obtain ⟨a1, a2, a3⟩ := h.sets j c hj e
      exact ⟨.inl a1, a2, a3.kept hkk (fun e => a2 (by rw [e]))⟩
  · by_cases ej : j = k
    · subst ej; exact h.miss j hj hg
    · rw [upd_other _ _ ej] at e; exact h.miss j hj e
  · by_cases ei : i = k <;> by_cases ej : j = k
    · rw [ei, ej]
    · subst ei
      rw [upd_same] at e1
      cases e1
      rw [upd_other _ _ ej] at e2
      exact absurd (h.sets j _ hj e2).1 hb
    · subst ej
      rw [upd_same] at e2
      cases e2
      rw [upd_other _ _ ei] at e1
      exact absurd (h.sets i _ hi e1).1 hb
    · rw [upd_other _ _ ei] at e1
      rw [upd_other _ _ ej] at e2
      exact h.apart i j c hi hj e1 e2
/-- One set turned. -/
theorem Not.turned {b : Nat} (h : Not K w F x g N n) {k : κ} (hk : K.ok k) (hg : g k = some b) (hkk : Kept (fun i => i = b) w w') {l : List Int} (hs : SetM w' b l) : Not K w' F x g (upd N k l) n := by
  obtain ⟨fb, hx, _⟩ := h.sets k b hk hg
  refine ⟨fun i e => Nat.lt_of_lt_of_le (h.inF i e) hkk.size, ?_, fun j c hj e => ?_, fun j hj e => ?_, h.apart⟩
  · rcases h.outer with e | ⟨bo, D, e, fo, ho, r⟩
    · exact .inl e
    · exact .inr ⟨bo, D, e, fo, hkk.map ho (fun e2 => hx (by rw [e, e2])), r⟩
  · by_cases ej : j = k
    · subst ej
      rw [hg] at e
      cases e
      rw [upd_same]
      exact ⟨fb, hx, hs⟩
    · rw [upd_other _ _ ej]
      obtain ⟨a1, a2, a3⟩ := h.sets j c hj e
      refine ⟨a1, a2, a3.kept hkk (fun e2 => ?_)⟩
      subst e2
      exact ej (h.apart j k c hj hk e hg)
  · by_cases ej : j = k
    · subst ej; rw [hg] at e; cases e
    · rw [upd_other _ _ ej]; exact h.miss j hj e
theorem Not.put {b : Nat} (h : Not K w F x g N n) {k : κ} (hk : K.ok k) (hg : g k = some b) {id : Int} (hid : (Lit.int .i64 id).wf = true) (hl : (N k).length ≤ 5000) :
    ∃ w', (Instr.mapUpdate 106 (.map (some b)) (.int .i64 id) (.bool true)).run Try.prog w = .ok () w' ∧ Kept (fun i => i = b) w w' ∧ F b ∧ Not K w' F x g (upd N k (Proofs.Ytbaplplaokbnnaa.put (N k) id)) n := by
  obtain ⟨fb, hx, hs⟩ := h.sets k b hk hg
  obtain ⟨w', hrun, hs', hkk⟩ := hs.put hl hid
  exact ⟨w', hrun, hkk, fb, h.turned hk hg hkk hs'⟩
theorem Not.less {b : Nat} (h : Not K w F x g N n) {k : κ} (hk : K.ok k) (hg : g k = some b) {id : Int} (hid : (Lit.int .i64 id).wf = true) :
    ∃ w', (Builtin.delete_ #[106, 3] 0 #[.map (some b), .int .i64 id]).run Try.prog w = .ok (.tuple #[]) w' ∧ Kept (fun i => i = b) w w' ∧ F b ∧ Not K w' F x g (upd N k (del id (N k))) n := by
  obtain ⟨fb, hx, hs⟩ := h.sets k b hk hg
  obtain ⟨w', hrun, hs', hkk⟩ := hs.del hid
  exact ⟨w', hrun, hkk, fb, h.turned hk hg hkk hs'⟩
/-- One key gone by which nothing is noted. -/
theorem Not.gone (h : Not K w F x g N n) (hO : Try.prog.underlying tO = some (.map K.t 106)) {k : κ} (hk : K.ok k) (hN : N k = []) :
    ∃ w', (Builtin.delete_ #[tO, K.t] 0 #[x, K.enc k]).run Try.prog w = .ok (.tuple #[]) w' ∧ Kept (fun i => F i ∧ x = .map (some i)) w w' ∧ Not K w' F x (upd g k none) N n := by
  rcases h.outer with ⟨rfl, e⟩ | ⟨bo, D, rfl, fo, ho, ht, hD⟩
  · refine ⟨w, drop_nil K.keyed hO (K.key k hk) 0, Kept.refl _ _, ?_⟩
    have eg : upd g k Option.none = g := by
      funext j
      by_cases ej : j = k
      · subst ej; rw [upd_same, e]
      · rw [upd_other _ _ ej]
    rw [eg]; exact h
  obtain ⟨w', hrun, ho', htr⟩ := ho.drop K.keyed hO (K.key k hk) 0
  have hkk : Kept (fun i => i = bo) w w' := (Kept.refl _ _).grown htr.grown (fun i e => .inl (by simpa using e.symm))
  refine ⟨w', hrun, hkk.mono (fun i _ e => ⟨by rw [e]; exact fo, by rw [e]⟩), ⟨fun i e => Nat.lt_of_lt_of_le (h.inF i e) hkk.size, .inr ⟨bo, _, rfl, fo, ho', ht.del _, fun j hj => ?_⟩, fun j c hj e => ?_, fun j hj e => ?_, fun i j c hi hj e1 e2 => ?_⟩⟩
  · by_cases ej : j = k
    · subst ej
      rw [atKey_del_same]
      unfold gd; rw [upd_same]
    · rw [atKey_del_other (K.ne hj hk ej), hD j hj]
      unfold gd; rw [upd_other _ _ ej]
  · by_cases ej : j = k
    · subst ej; rw [upd_same] at e; cases e
    · rw [upd_other _ _ ej] at e
      obtain ⟨a1, a2, a3⟩ := h.sets j c hj e
      exact ⟨a1, a2, a3.kept hkk (fun e => a2 (by rw [e]))⟩
  · by_cases ej : j = k
    · subst ej; exact hN
    · rw [upd_other _ _ ej] at e; exact h.miss j hj e
  · by_cases ei : i = k
    · subst ei; rw [upd_same] at e1; cases e1
    · by_cases ej : j = k
      · subst ej; rw [upd_same] at e2; cases e2
      · rw [upd_other _ _ ei] at e1
        rw [upd_other _ _ ej] at e2
        exact h.apart i j c hi hj e1 e2
end
end
end

/-! ### Tokens -/
section
variable {κ : Type} {K : KT Try.prog κ}
def vTok (K : KT Try.prog κ) (a : Int) (k : κ) (f : Int) : Value := .agg #[.int .i64 a, K.enc k, .int .i64 f]
def dTok (K : KT Try.prog κ) (a : Int) (k : κ) (f : Int) : DataW Unit := .agg [.lit (.int .i64 a), .lit (K.lit k), .lit (.int .i64 f)]
open Classical in
noncomputable def tokE (K : KT Try.prog κ) (v : Value) : Option (DataW Unit × List MemPlace) :=
  if h : ∃ t : Int × κ × Int, K.ok t.2.1 ∧ v = vTok K t.1 t.2.1 t.2.2 then some (dTok K h.choose.1 h.choose.2.1 h.choose.2.2, []) else none
theorem vTok_inj {a b : Int} {k j : κ} {f e : Int} (h : vTok K a k f = vTok K b j e) : a = b ∧ k = j ∧ f = e := by
  unfold vTok at h
  simp at h
  exact ⟨h.1, K.encInj _ _ h.2.1, h.2.2⟩
theorem tokE_mk {a : Int} {k : κ} {f : Int} (hk : K.ok k) : tokE K (vTok K a k f) = some (dTok K a k f, []) := by
  have h : ∃ t : Int × κ × Int, K.ok t.2.1 ∧ vTok K a k f = vTok K t.1 t.2.1 t.2.2 := ⟨(a, k, f), hk, rfl⟩
  unfold tokE
  rw [dif_pos h]
  obtain ⟨e1, e2, e3⟩ := vTok_inj h.choose_spec.2
  rw [← e1, ← e2, ← e3]
theorem tokE_inv {v : Value} {a : Int} {k : κ} {f : Int} {ps : List MemPlace} (hk : K.ok k) (h : tokE K v = some (dTok K a k f, ps)) : v = vTok K a k f := by
  unfold tokE at h
  split at h
  · rename_i hx
    obtain ⟨h1, h2⟩ := hx.choose_spec
    simp [dTok] at h
    obtain ⟨⟨e1, e2, e3⟩, _⟩ := h
    rw [h2, e1, e3]
    by_cases e : hx.choose.2.1 = k
    · rw [e]
    · exact absurd e2 (K.ne h1 hk e)
  · cases h
/-- A map's datum that has just the tokens that are there. -/
structure TokD (K : KT Try.prog κ) (D : DataW Unit) (L : List (Tok κ)) : Prop where
  tidy : Tidy D
  size : Maps.size D = liveN L
  has : ∀ id, Maps.has D (.int .i64 id) = (tok L id).isSome
  get : ∀ id x, tok L id = some x → ∀ zd, D.atKey (.int .i64 id) zd = dTok K x.par x.loc x.fact
theorem tok_nil (id : Int) : tok ([] : List (Tok κ)) id = none := by
  cases e : tok ([] : List (Tok κ)) id with
  | none => rfl
  | some x => have := tok_bound e; simp at this; omega
theorem TokD.nil : TokD K (.map []) [] := ⟨tidy_empty, rfl, fun id => by rw [tok_nil]; simp [Maps.has], fun id x h => by rw [tok_nil] at h; cases h⟩
theorem TokD.more {D : DataW Unit} {L : List (Tok κ)} (h : TokD K D L) {x : Tok κ} (hx : x.out = false) : TokD K (D.put (.int .i64 ((L.length : Int) + 1)) (dTok K x.par x.loc x.fact)) (L ++ [x]) := by
  refine ⟨h.tidy.put (by trivial) _, ?_, fun id => ?_, fun id y hy zd => ?_⟩
  · rw [size_put h.tidy, h.has, tok_high (by omega), h.size]
    unfold liveN
    rw [ids_more L hx, if_pos rfl, put_last]
    simp
  · by_cases e : id = (L.length : Int) + 1
    · subst e
      rw [has_put_same h.tidy.isMap (by trivial), tok_new L hx]; rfl
    · rw [has_put_other (int_ne e), h.has, tok_old L x e]
  · by_cases e : id = (L.length : Int) + 1
    · subst e
      rw [tok_new L hx] at hy
      cases hy
      rw [atKey_put_same h.tidy.isMap (by trivial)]
    · rw [tok_old L x e] at hy
      rw [atKey_put_other (int_ne e), h.get id y hy]
theorem liveN_kill {L : List (Tok κ)} {id : Int} (h : tok L id ≠ none) : liveN (kill L id) + 1 = liveN L := by
  unfold liveN
  rw [ids_kill]
  refine del_length (rise_ids _ _) ?_
  cases e : tok L id with
  | none => exact absurd e h
  | some x => exact mem_ids.2 ⟨x, e, rfl⟩
theorem liveN_le (L : List (Tok κ)) : liveN L ≤ L.length := ids_length _ _
theorem TokD.kill {D : DataW Unit} {L : List (Tok κ)} (h : TokD K D L) {id : Int} (hid : tok L id ≠ none) : TokD K (D.del (.int .i64 id)) (kill L id) := by
  refine ⟨h.tidy.del _, ?_, fun j => ?_, fun j y hy zd => ?_⟩
  · have h1 := size_del h.tidy (k := .int .i64 id)
    rw [h.has, h.size] at h1
    have h2 := liveN_kill hid
    cases e : tok L id with
    | none => exact absurd e hid
    | some x => rw [e] at h1; simp at h1; omega
  · by_cases e : j = id
    · subst e; rw [has_del_same, tok_kill_same]; rfl
    · rw [has_del_other (int_ne e), h.has, tok_kill_other L e]
  · by_cases e : j = id
    · subst e; rw [tok_kill_same] at hy; cases hy
    · rw [tok_kill_other L e] at hy
      rw [atKey_del_other (int_ne e), h.get j y hy]
theorem TokD.miss {D : DataW Unit} {L : List (Tok κ)} (h : TokD K D L) {id : Int} (hid : tok L id = none) (zd : DataW Unit) : D.atKey (.int .i64 id) zd = zd := atKey_of_not_has (by rw [h.has, hid]; rfl) zd

/-! ### The tree -/
def atL [DecidableEq κ] (L : List (Tok κ)) (k : κ) : List Int := ids L (fun x => decide (x.loc = k))
def withL (L : List (Tok κ)) (f : Int) : List Int := ids L (fun x => decide (x.fact = f ∧ f ≠ 0))
/-- Block p is a tree: m: the last number; L: its tokens; N1, N2, N3: what is noted by places, facts and parents; bt, x1, x2, x3: its maps; c: whose each block is (1: the tree's own, 2: its tokens', 3, 4, 5: its notes'). -/
structure Trx (K : KT Try.prog κ) (tT : TypeId) (w : World) (c : Nat → Nat) (p : Nat) (m : Int) (L : List (Tok κ)) (N1 : κ → List Int) (N2 N3 : Int → List Int) (n bt : Nat) (x1 x2 x3 : Value) (g1 : κ → Option Nat) (g2 g3 : Int → Option Nat) : Prop where
  low : ∀ b, c b ≠ 0 → b < w.heap.size
  cp : c p = 1
  ct : c bt = 2
  here : Blk w p tT #[.map (some bt), x1, x2, x3, .int .i64 m]
  toks : ∃ D, w.ownsMap (H := Unit) Try.prog 3 (tokE K) bt n D ∧ TokD K D L
  n1 : Not K w (fun b => c b = 3) x1 g1 N1 n
  n2 : Not KI w (fun b => c b = 4) x2 g2 N2 n
  n3 : Not KI w (fun b => c b = 5) x3 g3 N3 n
section
variable {tT : TypeId} {w w' : World} {c : Nat → Nat} {p : Nat} {m : Int} {L : List (Tok κ)} {N1 : κ → List Int} {N2 N3 : Int → List Int} {n bt : Nat} {x1 x2 x3 : Value} {g1 : κ → Option Nat} {g2 g3 : Int → Option Nat}
theorem Trx.kept (h : Trx K tT w c p m L N1 N2 N3 n bt x1 x2 x3 g1 g2 g3) {G : Nat → Prop} (hk : Kept G w w') (hG : ∀ b, c b ≠ 0 → ¬ G b) : Trx K tT w' c p m L N1 N2 N3 n bt x1 x2 x3 g1 g2 g3 := by
  have nz : ∀ {b i : Nat}, c b = i + 1 → c b ≠ 0 := fun e => by omega
  obtain ⟨D, ho, hD⟩ := h.toks
  exact ⟨fun b e => Nat.lt_of_lt_of_le (h.low b e) hk.size, h.cp, h.ct, h.here.kept hk (hG p (nz h.cp)), ⟨D, hk.map ho (hG bt (nz h.ct)), hD⟩,
    h.n1.kept hk (fun b e => hG b (nz e)), h.n2.kept hk (fun b e => hG b (nz e)), h.n3.kept hk (fun b e => hG b (nz e))⟩
theorem Trx.keptN (h : Trx K tT w c p m L N1 N2 N3 n bt x1 x2 x3 g1 g2 g3) (hk : Kept Nil w w') : Trx K tT w' c p m L N1 N2 N3 n bt x1 x2 x3 g1 g2 g3 := h.kept hk (fun _ _ e => e)
/-- Blocks that are made are somebody's. -/
def dye (c : Nat → Nat) (w w' : World) (i : Nat) (b : Nat) : Nat := if w.heap.size ≤ b ∧ b < w'.heap.size then i else c b
theorem dye_old {i b : Nat} (hb : b < w.heap.size) : dye c w w' i b = c b := if_neg (by omega)
theorem dye_up {i b : Nat} (h : Fup (fun b => c b = i) w w' b) (hc : ∀ b, c b = i → b < w.heap.size) : dye c w w' i b = i := by
  unfold dye
  rcases h with e | e
  · rw [if_neg (by have := hc b e; omega)]; exact e
  · rw [if_pos e]
theorem dye_ne {i j b : Nat} (hij : i ≠ j) (h : dye c w w' i b = j) : c b = j := by
  unfold dye at h
  split at h
  · exact absurd h hij
  · exact h
theorem Trx.lt (h : Trx K tT w c p m L N1 N2 N3 n bt x1 x2 x3 g1 g2 g3) : p < w.heap.size := h.here.lt
end
end
end Go.Proofs.Ytbaplplaokbnnaa
