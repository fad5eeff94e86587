/- A tree in memory: what its parts' turns leave. -/
import Derived.Test.YtbaplplaokbnnaaMSto
namespace Go.Proofs.Ytbaplplaokbnnaa
open Go.RowKit Go.Maps Go.WideMaps
set_option maxRecDepth 100000

section
variable {κ : Type} {K : KT Try.prog κ} {tT : TypeId} {w w' : World} {c : Nat → Nat} {p : Nat} {m : Int} {L : List (Tok κ)} {N1 : κ → List Int} {N2 N3 : Int → List Int} {n bt : Nat} {x1 x2 x3 : Value} {g1 : κ → Option Nat} {g2 g3 : Int → Option Nat}
theorem Trx.last (h : Trx K tT w c p m L N1 N2 N3 n bt x1 x2 x3 g1 g2 g3) (m' : Int) : Trx K tT (w.setCell ⟨p, 4, none⟩ (.int .i64 m')) c p m' L N1 N2 N3 n bt x1 x2 x3 g1 g2 g3 := by
  have k : Kept (fun b => b = p) w (w.setCell ⟨p, 4, none⟩ (.int .i64 m')) := Kept.setCell (F := fun b => b = p) (Kept.refl _ w) ⟨p, 4, none⟩ (.inl rfl) _
  have hne : ∀ {b i : Nat}, c b = i → i ≠ 1 → ¬ b = p := fun e hi e2 => by rw [e2, h.cp] at e; exact hi e.symm
  obtain ⟨D, ho, hD⟩ := h.toks
  exact ⟨fun b e => Nat.lt_of_lt_of_le (h.low b e) k.size, h.cp, h.ct, h.here.set_ 4 _, ⟨D, k.map ho (hne h.ct (by decide)), hD⟩, h.n1.kept k (fun b e => hne e (by decide)), h.n2.kept k (fun b e => hne e (by decide)), h.n3.kept k (fun b e => hne e (by decide))⟩
theorem Trx.tokTurn (h : Trx K tT w c p m L N1 N2 N3 n bt x1 x2 x3 g1 g2 g3) {L' : List (Tok κ)} {n' : Nat} (hn : n ≤ n') (k : Kept (fun b => b = bt) w w') (ht : ∃ D, w'.ownsMap (H := Unit) Try.prog 3 (tokE K) bt n' D ∧ TokD K D L') : Trx K tT w' c p m L' N1 N2 N3 n' bt x1 x2 x3 g1 g2 g3 := by
  have hne : ∀ {b i : Nat}, c b = i → i ≠ 2 → ¬ b = bt := fun e hi e2 => by rw [e2, h.ct] at e; exact hi e.symm
  exact ⟨fun b e => Nat.lt_of_lt_of_le (h.low b e) k.size, h.cp, h.ct, h.here.kept k (hne h.cp (by decide)), ht, (h.n1.kept k (fun b e => hne e (by decide))).more hn, (h.n2.kept k (fun b e => hne e (by decide))).more hn, (h.n3.kept k (fun b e => hne e (by decide))).more hn⟩
theorem Trx.enter (h : Trx K tT w c p m L N1 N2 N3 n bt x1 x2 x3 g1 g2 g3) {tM tE : TypeId} (hM : Try.prog.underlying tM = some (.map 3 tE)) (hn : n ≤ 5000) {x : Tok κ} (hx : x.out = false) (hk : K.ok x.loc) {q : Int} (hq : q = (L.length : Int) + 1) (hw : (Lit.int .i64 q).wf = true) :
    ∃ w', (Instr.mapUpdate tM (.map (some bt)) (.int .i64 q) (vTok K x.par x.loc x.fact)).run Try.prog w = .ok () w' ∧ Kept (fun b => b = bt) w w' ∧ Trx K tT w' c p m (L ++ [x]) N1 N2 N3 (n + 1) bt x1 x2 x3 g1 g2 g3 := by
  subst hq
  obtain ⟨D, ho, hD⟩ := h.toks
  obtain ⟨w', hrun, ho', hg⟩ := ho.update lawI hM (by unfold maxLen; omega) (keyI hw) (tokE_mk (K := K) (a := x.par) (f := x.fact) hk)
  have k : Kept (fun b => b = bt) w w' := (Kept.refl _ _).grown hg (fun i e => .inl (by simpa using e.symm))
  exact ⟨w', hrun, k, h.tokTurn (Nat.le_succ _) k ⟨_, ho', hD.more hx⟩⟩
theorem Trx.drop (h : Trx K tT w c p m L N1 N2 N3 n bt x1 x2 x3 g1 g2 g3) {tM tE : TypeId} (hM : Try.prog.underlying tM = some (.map 3 tE)) {id : Int} (hid : tok L id ≠ none) (hw : (Lit.int .i64 id).wf = true) :
    ∃ w', (Builtin.delete_ #[tM, 3] 0 #[.map (some bt), .int .i64 id]).run Try.prog w = .ok (.tuple #[]) w' ∧ Kept (fun b => b = bt) w w' ∧ Trx K tT w' c p m (kill L id) N1 N2 N3 n bt x1 x2 x3 g1 g2 g3 := by
  obtain ⟨D, ho, hD⟩ := h.toks
  obtain ⟨w', hrun, ho', htr⟩ := ho.drop lawI hM (keyI hw) 0
  have k : Kept (fun b => b = bt) w w' := (Kept.refl _ _).grown htr.grown (fun i e => .inl (by simpa using e.symm))
  exact ⟨w', hrun, k, h.tokTurn (Nat.le_refl _) k ⟨_, ho', hD.kill hid⟩⟩
/-- A token's value; the zero one where there is none. -/
def zT (K : KT Try.prog κ) (z0 : κ) (o : Option (Tok κ)) : Value := match o with
  | none => vTok K 0 z0 0
  | some x => vTok K x.par x.loc x.fact
/-- The look-ups of a token. -/
theorem Trx.look (h : Trx K tT w c p m L N1 N2 N3 n bt x1 x2 x3 g1 g2 g3) {tM tE : TypeId} (hM : Try.prog.underlying tM = some (.map 3 tE)) {z0 : κ} (hz0 : K.ok z0) (hz : (zeroValue tE).run Try.prog w = .ok (vTok K 0 z0 0) w) {id : Int} (hw : (Lit.int .i64 id).wf = true) :
    (Instr.lookup tM (.map (some bt)) (.int .i64 id) false).run Try.prog w = .ok (zT K z0 (tok L id)) w ∨ ∃ x, tok L id = some x ∧ ¬ K.ok x.loc := by
  obtain ⟨D, ho, hD⟩ := h.toks
  obtain ⟨v, ps, hrun, hv⟩ := ho.lookup lawI hM hz (tokE_mk (K := K) hz0) (keyI hw)
  cases e : tok L id with
  | none =>
    rw [hD.miss e] at hv
    exact .inl (by rw [hrun, tokE_inv hz0 hv]; rfl)
  | some x =>
    rw [hD.get id x e] at hv
    by_cases hk : K.ok x.loc
    · exact .inl (by rw [hrun, tokE_inv hk hv]; rfl)
    · exact .inr ⟨x, rfl, hk⟩
theorem Trx.look2 (h : Trx K tT w c p m L N1 N2 N3 n bt x1 x2 x3 g1 g2 g3) {tM tE : TypeId} (hM : Try.prog.underlying tM = some (.map 3 tE)) {z0 : κ} (hz0 : K.ok z0) (hz : (zeroValue tE).run Try.prog w = .ok (vTok K 0 z0 0) w) {id : Int} (hw : (Lit.int .i64 id).wf = true) :
    (Instr.lookup tM (.map (some bt)) (.int .i64 id) true).run Try.prog w = .ok (.tuple #[zT K z0 (tok L id), .bool (tok L id).isSome]) w ∨ ∃ x, tok L id = some x ∧ ¬ K.ok x.loc := by
  obtain ⟨D, ho, hD⟩ := h.toks
  obtain ⟨v, ps, hrun, hv⟩ := ho.look_ok lawI hM hz (tokE_mk (K := K) hz0) (keyI hw)
  rw [hD.has] at hrun
  cases e : tok L id with
  | none =>
    rw [hD.miss e] at hv
    exact .inl (by rw [hrun, tokE_inv hz0 hv, e]; rfl)
  | some x =>
    rw [hD.get id x e] at hv
    by_cases hk : K.ok x.loc
    · exact .inl (by rw [hrun, tokE_inv hk hv, e]; rfl)
    · exact .inr ⟨x, rfl, hk⟩
theorem Trx.len (h : Trx K tT w c p m L N1 N2 N3 n bt x1 x2 x3 g1 g2 g3) {tM tE : TypeId} (hM : Try.prog.underlying tM = some (.map 3 tE)) (ty : TypeId) :
    (Builtin.len_ #[tM] ty #[.map (some bt)]).run Try.prog w = .ok (.int .i64 (liveN L)) w := by
  obtain ⟨D, ho, hD⟩ := h.toks
  have e := ho.len hM ty
  rw [hD.size] at e
  exact e
section
variable {κ' : Type} {K' : KT Try.prog κ'} {F : Nat → Prop} {i : Nat}
/-- Notes of another colour stay. -/
theorem Not.dyed {x : Value} {g : κ' → Option Nat} {N : κ' → List Int} {j n' : Nat} (hN : Not K' w (fun b => c b = j) x g N n) (hc : ∀ b, c b ≠ 0 → b < w.heap.size) (k : Kept (fun b => b = p ∨ c b = i) w w') (hp : c p = 1) (hj : j ≠ 0) (hj1 : j ≠ 1) (hij : i ≠ j) (hn : n ≤ n') : Not K' w' (fun b => dye c w w' i b = j) x g N n' := by
  refine ((hN.kept k (fun b e e2 => ?_)).wider (fun b e => ?_) (fun b e => ?_)).more hn
  · rcases e2 with e2 | e2
    · rw [e2, hp] at e; exact hj1 e.symm
    · rw [e2] at e; exact hij e
  · show dye c w w' i b = j
    rw [dye_old (hc b (by rw [e]; exact hj))]; exact e
  · have := dye_ne hij e
    exact Nat.lt_of_lt_of_le (hc b (by rw [this]; exact hj)) k.size
theorem Not.dyedSelf {x : Value} {g : κ' → Option Nat} {N : κ' → List Int} {n' : Nat} (hN : Not K' w' (Fup (fun b => c b = i) w w') x g N n') (hc : ∀ b, c b ≠ 0 → b < w.heap.size) (hi : i ≠ 0) (hw : w.heap.size ≤ w'.heap.size) : Not K' w' (fun b => dye c w w' i b = i) x g N n' :=
  hN.wider (fun b e => dye_up e (fun b e => hc b (by rw [e]; exact hi))) (fun b e => by
    unfold dye at e
    split at e
    · rename_i h; exact h.2
    · exact Nat.lt_of_lt_of_le (hc b (by rw [e]; exact hi)) hw)
end
theorem Trx.dyed (h : Trx K tT w c p m L N1 N2 N3 n bt x1 x2 x3 g1 g2 g3) {i : Nat} (k : Kept (fun b => b = p ∨ c b = i) w w') (hi : 3 ≤ i) : (∀ b, dye c w w' i b ≠ 0 → b < w'.heap.size) ∧ dye c w w' i p = 1 ∧ dye c w w' i bt = 2 ∧ ∃ D, w'.ownsMap (H := Unit) Try.prog 3 (tokE K) bt n D ∧ TokD K D L := by
  obtain ⟨D, ho, hD⟩ := h.toks
  refine ⟨fun b e => ?_, ?_, ?_, D, k.map ho (fun e => ?_), hD⟩
  · unfold dye at e
    split at e
    · rename_i h; exact h.2
    · exact Nat.lt_of_lt_of_le (h.low b e) k.size
  · rw [dye_old (h.low p (by rw [h.cp]; decide)), h.cp]
  · rw [dye_old (h.low bt (by rw [h.ct]; decide)), h.ct]
  · rcases e with e | e
    · have := h.cp; rw [← e, h.ct] at this; omega
    · rw [h.ct] at e; omega
theorem Trx.turn1 (h : Trx K tT w c p m L N1 N2 N3 n bt x1 x2 x3 g1 g2 g3) {N1' : κ → List Int} {x' : Value} {g' : κ → Option Nat} {n' : Nat} (hn : n ≤ n') (hb : Blk w' p tT (#[.map (some bt), x1, x2, x3, .int .i64 m].setIfInBounds 1 x')) (hN : Not K w' (Fup (fun b => c b = 3) w w') x' g' N1' n') (k : Kept (fun b => b = p ∨ c b = 3) w w') : Trx K tT w' (dye c w w' 3) p m L N1' N2 N3 n' bt x' x2 x3 g' g2 g3 := by
  obtain ⟨a1, a2, a3, D, ho, hD⟩ := h.dyed k (by decide)
  exact ⟨a1, a2, a3, hb, ⟨D, ho.mono hn, hD⟩, hN.dyedSelf h.low (by decide) k.size, h.n2.dyed h.low k h.cp (by decide) (by decide) (by decide) hn, h.n3.dyed h.low k h.cp (by decide) (by decide) (by decide) hn⟩
theorem Trx.turn2 (h : Trx K tT w c p m L N1 N2 N3 n bt x1 x2 x3 g1 g2 g3) {N2' : Int → List Int} {x' : Value} {g' : Int → Option Nat} {n' : Nat} (hn : n ≤ n') (hb : Blk w' p tT (#[.map (some bt), x1, x2, x3, .int .i64 m].setIfInBounds 2 x')) (hN : Not KI w' (Fup (fun b => c b = 4) w w') x' g' N2' n') (k : Kept (fun b => b = p ∨ c b = 4) w w') : Trx K tT w' (dye c w w' 4) p m L N1 N2' N3 n' bt x1 x' x3 g1 g' g3 := by
  obtain ⟨a1, a2, a3, D, ho, hD⟩ := h.dyed k (by decide)
  exact ⟨a1, a2, a3, hb, ⟨D, ho.mono hn, hD⟩, h.n1.dyed h.low k h.cp (by decide) (by decide) (by decide) hn, hN.dyedSelf h.low (by decide) k.size, h.n3.dyed h.low k h.cp (by decide) (by decide) (by decide) hn⟩
theorem Trx.turn3 (h : Trx K tT w c p m L N1 N2 N3 n bt x1 x2 x3 g1 g2 g3) {N3' : Int → List Int} {x' : Value} {g' : Int → Option Nat} {n' : Nat} (hn : n ≤ n') (hb : Blk w' p tT (#[.map (some bt), x1, x2, x3, .int .i64 m].setIfInBounds 3 x')) (hN : Not KI w' (Fup (fun b => c b = 5) w w') x' g' N3' n') (k : Kept (fun b => b = p ∨ c b = 5) w w') : Trx K tT w' (dye c w w' 5) p m L N1 N2 N3' n' bt x1 x2 x' g1 g2 g' := by
  obtain ⟨a1, a2, a3, D, ho, hD⟩ := h.dyed k (by decide)
  exact ⟨a1, a2, a3, hb, ⟨D, ho.mono hn, hD⟩, h.n1.dyed h.low k h.cp (by decide) (by decide) (by decide) hn, h.n2.dyed h.low k h.cp (by decide) (by decide) (by decide) hn, hN.dyedSelf h.low (by decide) k.size⟩
/-- What a set of notes loses alone. -/
theorem Trx.less1 (h : Trx K tT w c p m L N1 N2 N3 n bt x1 x2 x3 g1 g2 g3) {N1' : κ → List Int} {g' : κ → Option Nat} (hb : Blk w' p tT #[.map (some bt), x1, x2, x3, .int .i64 m]) (hN : Not K w' (fun b => c b = 3) x1 g' N1' n) (k : Kept (fun b => c b = 3) w w') : Trx K tT w' c p m L N1' N2 N3 n bt x1 x2 x3 g' g2 g3 := by
  have hne : ∀ {b i : Nat}, c b = i → i ≠ 3 → ¬ c b = 3 := fun e hi e2 => hi (e.symm.trans e2)
  obtain ⟨D, ho, hD⟩ := h.toks
  exact ⟨fun b e => Nat.lt_of_lt_of_le (h.low b e) k.size, h.cp, h.ct, hb, ⟨D, k.map ho (hne h.ct (by decide)), hD⟩, hN, h.n2.kept k (fun b e => hne e (by decide)), h.n3.kept k (fun b e => hne e (by decide))⟩
theorem Trx.less2 (h : Trx K tT w c p m L N1 N2 N3 n bt x1 x2 x3 g1 g2 g3) {N2' : Int → List Int} {g' : Int → Option Nat} (hb : Blk w' p tT #[.map (some bt), x1, x2, x3, .int .i64 m]) (hN : Not KI w' (fun b => c b = 4) x2 g' N2' n) (k : Kept (fun b => c b = 4) w w') : Trx K tT w' c p m L N1 N2' N3 n bt x1 x2 x3 g1 g' g3 := by
  have hne : ∀ {b i : Nat}, c b = i → i ≠ 4 → ¬ c b = 4 := fun e hi e2 => hi (e.symm.trans e2)
  obtain ⟨D, ho, hD⟩ := h.toks
  exact ⟨fun b e => Nat.lt_of_lt_of_le (h.low b e) k.size, h.cp, h.ct, hb, ⟨D, k.map ho (hne h.ct (by decide)), hD⟩, h.n1.kept k (fun b e => hne e (by decide)), hN, h.n3.kept k (fun b e => hne e (by decide))⟩
theorem Trx.less3 (h : Trx K tT w c p m L N1 N2 N3 n bt x1 x2 x3 g1 g2 g3) {N3' : Int → List Int} {g' : Int → Option Nat} (hb : Blk w' p tT #[.map (some bt), x1, x2, x3, .int .i64 m]) (hN : Not KI w' (fun b => c b = 5) x3 g' N3' n) (k : Kept (fun b => c b = 5) w w') : Trx K tT w' c p m L N1 N2 N3' n bt x1 x2 x3 g1 g2 g' := by
  have hne : ∀ {b i : Nat}, c b = i → i ≠ 5 → ¬ c b = 5 := fun e hi e2 => hi (e.symm.trans e2)
  obtain ⟨D, ho, hD⟩ := h.toks
  exact ⟨fun b e => Nat.lt_of_lt_of_le (h.low b e) k.size, h.cp, h.ct, hb, ⟨D, k.map ho (hne h.ct (by decide)), hD⟩, h.n1.kept k (fun b e => hne e (by decide)), h.n2.kept k (fun b e => hne e (by decide)), hN⟩
/-! What the notes of a tree with one token more, one less, are. -/
section
variable [DecidableEq κ]
theorem atL_more {L : List (Tok κ)} {x : Tok κ} (hx : x.out = false) : upd (atL L) x.loc (put (atL L x.loc) ((L.length : Int) + 1)) = atL (L ++ [x]) := by
  funext k
  unfold atL upd
  rw [ids_more L hx]
  by_cases e : k = x.loc
  · subst e; simp
  · rw [if_neg e, if_neg (by simpa using Ne.symm e)]
theorem atL_kill {L : List (Tok κ)} {id : Int} {x : Tok κ} (hx : tok L id = some x) : upd (atL L) x.loc (del id (atL L x.loc)) = atL (kill L id) := by
  funext k
  unfold atL upd
  rw [ids_kill]
  by_cases e : k = x.loc
  · subst e; rw [if_pos rfl]
  · rw [if_neg e, del_out]
    rw [mem_ids, hx]
    rintro ⟨y, e1, e2⟩
    cases e1
    exact e (by simpa using Eq.symm (of_decide_eq_true e2))
end
theorem withL_more {L : List (Tok κ)} {x : Tok κ} (hx : x.out = false) (h0 : x.fact ≠ 0) : upd (withL L) x.fact (put (withL L x.fact) ((L.length : Int) + 1)) = withL (L ++ [x]) := by
  funext k
  unfold withL upd
  rw [ids_more L hx]
  by_cases e : k = x.fact
  · subst e; simp [h0]
  · rw [if_neg e, if_neg]
    simp only [decide_eq_true_eq, not_and]
    exact fun e2 => absurd e2.symm e
theorem withL_more0 {L : List (Tok κ)} {x : Tok κ} (hx : x.out = false) (h0 : x.fact = 0) : withL L = withL (L ++ [x]) := by
  funext k
  unfold withL
  rw [ids_more L hx, if_neg]
  simp only [decide_eq_true_eq, not_and]
  exact fun e1 e2 => e2 (by rw [← e1, h0])
theorem withL_kill {L : List (Tok κ)} {id : Int} {x : Tok κ} (hx : tok L id = some x) : upd (withL L) x.fact (del id (withL L x.fact)) = withL (kill L id) := by
  funext k
  unfold withL upd
  rw [ids_kill]
  by_cases e : k = x.fact
  · subst e; rw [if_pos rfl]
  · rw [if_neg e, del_out]
    rw [mem_ids, hx]
    rintro ⟨y, e1, e2⟩
    cases e1
    exact e (of_decide_eq_true e2).1.symm
theorem kids_more {L : List (Tok κ)} {x : Tok κ} (hx : x.out = false) (h0 : x.par ≠ 0) : upd (kids L) x.par (put (kids L x.par) ((L.length : Int) + 1)) = kids (L ++ [x]) := by
  funext k
  unfold kids upd
  rw [ids_more L hx]
  by_cases e : k = x.par
  · subst e; simp [h0]
  · rw [if_neg e, if_neg]
    simp only [decide_eq_true_eq, not_and]
    exact fun e2 => absurd e2.symm e
theorem kids_more0 {L : List (Tok κ)} {x : Tok κ} (hx : x.out = false) (h0 : x.par = 0) : kids L = kids (L ++ [x]) := by
  funext k
  unfold kids
  rw [ids_more L hx, if_neg]
  simp only [decide_eq_true_eq, not_and]
  exact fun e1 e2 => e2 (by rw [← e1, h0])
theorem kids_kill {L : List (Tok κ)} {id : Int} {x : Tok κ} (hx : tok L id = some x) : upd (kids L) x.par (del id (kids L x.par)) = kids (kill L id) := by
  funext k
  unfold kids upd
  rw [ids_kill]
  by_cases e : k = x.par
  · subst e; rw [if_pos rfl]
  · rw [if_neg e, del_out]
    rw [mem_ids, hx]
    rintro ⟨y, e1, e2⟩
    cases e1
    exact e (of_decide_eq_true e2).1.symm
/-- What each token has is what a program's value may be. -/
def okToks (K : KT Try.prog κ) (L : List (Tok κ)) : Prop := ∀ x ∈ L, K.ok x.loc ∧ (Lit.int .i64 x.par).wf = true ∧ (Lit.int .i64 x.fact).wf = true
theorem okToks.at_ {L : List (Tok κ)} (h : okToks K L) {id : Int} {x : Tok κ} (hx : tok L id = some x) : K.ok x.loc ∧ (Lit.int .i64 x.par).wf = true ∧ (Lit.int .i64 x.fact).wf = true := by
  obtain ⟨_, b, _⟩ := tok_some.1 hx
  exact h x (List.mem_of_getElem? b)
theorem okToks.more {L : List (Tok κ)} (h : okToks K L) {x : Tok κ} (hx : K.ok x.loc ∧ (Lit.int .i64 x.par).wf = true ∧ (Lit.int .i64 x.fact).wf = true) : okToks K (L ++ [x]) := fun y hy => by
  rcases List.mem_append.1 hy with hy | hy
  · exact h y hy
  · rw [List.mem_singleton.1 hy]; exact hx
theorem okToks.kill {L : List (Tok κ)} (h : okToks K L) (id : Int) : okToks K (kill L id) := fun y hy => by
  obtain ⟨j, hj⟩ := List.getElem?_of_mem hy
  unfold Proofs.Ytbaplplaokbnnaa.kill at hj
  split at hj
  · rw [List.getElem?_modify] at hj
    cases e : L[j]? with
    | none => rw [e] at hj; cases hj
    | some z =>
      rw [e] at hj
      have hz := h z (List.mem_of_getElem? e)
      simp only [Option.map_eq_map, Option.map_some, Option.some.injEq] at hj
      subst hj
      split <;> exact hz
  · exact h y (List.mem_of_getElem? hj)
/-- A tree that has these tokens. -/
def Tre [DecidableEq κ] (K : KT Try.prog κ) (tT : TypeId) (w : World) (c : Nat → Nat) (p : Nat) (L : List (Tok κ)) : Prop :=
  okToks K L ∧ ∃ n bt x1 x2 x3 g1 g2 g3, n ≤ 4 * L.length ∧ Trx K tT w c p (L.length : Int) L (atL L) (withL L) (kids L) n bt x1 x2 x3 g1 g2 g3
/-- What a call on a tree leaves. -/
def TreG [DecidableEq κ] (K : KT Try.prog κ) (tT : TypeId) (w w' : World) (c : Nat → Nat) (p : Nat) (L : List (Tok κ)) : Prop :=
  ∃ c', Tre K tT w' c' p L ∧ (∀ b, c' b ≠ 0 → c b ≠ 0 ∨ w.heap.size ≤ b) ∧ Kept (fun b => c b ≠ 0) w w'
section
variable [DecidableEq κ] {w1 w2 : World} {c1 : Nat → Nat} {L' : List (Tok κ)}
theorem Tre.kept (h : Tre K tT w c p L) {G : Nat → Prop} (hk : Kept G w w') (hG : ∀ b, c b ≠ 0 → ¬ G b) : Tre K tT w' c p L := by
  obtain ⟨a, n, bt, x1, x2, x3, g1, g2, g3, hn, t⟩ := h
  exact ⟨a, n, bt, x1, x2, x3, g1, g2, g3, hn, t.kept hk hG⟩
theorem Tre.keptN (h : Tre K tT w c p L) (hk : Kept Nil w w') : Tre K tT w' c p L := h.kept hk (fun _ _ e => e)
theorem Tre.low (h : Tre K tT w c p L) {b : Nat} (hb : c b ≠ 0) : b < w.heap.size := by obtain ⟨_, _, _, _, _, _, _, _, _, _, t⟩ := h; exact t.low b hb
theorem Tre.cp (h : Tre K tT w c p L) : c p = 1 := by obtain ⟨_, _, _, _, _, _, _, _, _, _, t⟩ := h; exact t.cp
theorem TreG.refl (h : Tre K tT w c p L) (k : Kept Nil w w') : TreG K tT w w' c p L := ⟨c, h.keptN k, fun _ e => .inl e, k.mono (fun _ _ e => e.elim)⟩
theorem TreG.keptN (h : TreG K tT w w1 c p L) (k : Kept Nil w1 w2) : TreG K tT w w2 c p L := by
  obtain ⟨c', a, b, d⟩ := h
  exact ⟨c', a.keptN k, b, d.trans k (fun _ _ e => e.elim)⟩
theorem TreG.from_ (k : Kept Nil w w1) (h : TreG K tT w1 w2 c p L) : TreG K tT w w2 c p L := by
  obtain ⟨c', a, b, d⟩ := h
  exact ⟨c', a, fun i hi => (b i hi).imp id (Nat.le_trans k.size), (k.mono (fun _ _ e => e.elim)).trans d (fun _ _ e => e)⟩
theorem TreG.trans (h : TreG K tT w w1 c p L) (k : ∀ c', Tre K tT w1 c' p L → TreG K tT w1 w2 c' p L') : TreG K tT w w2 c p L' := by
  obtain ⟨c1, a1, b1, d1⟩ := h
  obtain ⟨c2, a2, b2, d2⟩ := k c1 a1
  exact ⟨c2, a2, fun i hi => (b2 i hi).elim (fun e => b1 i e) (fun e => .inr (Nat.le_trans d1.size e)), d1.trans d2 (fun i hi e => (b1 i e).elim id (fun e => absurd hi (Nat.not_lt.2 e)))⟩
end
/-! A call on a tree, under way: a block of its own beside it. -/
def Mid (K : KT Try.prog κ) (tT tQ : TypeId) (w W : World) (c : Nat → Nat) (p q : Nat) (cs : Array Value) (m : Int) (L : List (Tok κ)) (N1 : κ → List Int) (N2 N3 : Int → List Int) (n : Nat) : Prop :=
  ∃ c1 bt x1 x2 x3 g1 g2 g3, Trx K tT W c1 p m L N1 N2 N3 n bt x1 x2 x3 g1 g2 g3 ∧ Blk W q tQ cs ∧ c1 q = 0 ∧ (∀ b, c1 b ≠ 0 → c b ≠ 0 ∨ w.heap.size ≤ b) ∧ Kept (fun b => c b ≠ 0) w W
section
variable {tQ : TypeId} {W W' : World} {c1 : Nat → Nat} {q : Nat} {cs : Array Value}
theorem Trx.mid (h : Trx K tT W c1 p m L N1 N2 N3 n bt x1 x2 x3 g1 g2 g3) (hb : Blk W q tQ cs) (hq : c1 q = 0) (hs : ∀ b, c1 b ≠ 0 → c b ≠ 0 ∨ w.heap.size ≤ b) (hk : Kept (fun b => c b ≠ 0) w W) : Mid K tT tQ w W c p q cs m L N1 N2 N3 n :=
  ⟨_, _, _, _, _, _, _, _, h, hb, hq, hs, hk⟩
theorem Mid.drew (h : Mid K tT tQ w W c p q cs m L N1 N2 N3 n) (k : Kept Nil W W') : Mid K tT tQ w W' c p q cs m L N1 N2 N3 n := by
  obtain ⟨c1, bt, x1, x2, x3, g1, g2, g3, t, b, e, s, kk⟩ := h
  exact ⟨c1, bt, x1, x2, x3, g1, g2, g3, t.keptN k, b.kept k (fun e => e), e, s, kk.trans k (fun _ _ e => e.elim)⟩
theorem mid_dye {i : Nat} (t : Trx K tT W c1 p m L N1 N2 N3 n bt x1 x2 x3 g1 g2 g3) (b : Blk W q tQ cs) (hq : c1 q = 0) (hs : ∀ b, c1 b ≠ 0 → c b ≠ 0 ∨ w.heap.size ≤ b) (hk : Kept (fun b => c b ≠ 0) w W) (hi : i ≠ 0) (k : Kept (fun b => b = p ∨ c1 b = i) W W') :
    Blk W' q tQ cs ∧ dye c1 W W' i q = 0 ∧ (∀ b, dye c1 W W' i b ≠ 0 → c b ≠ 0 ∨ w.heap.size ≤ b) ∧ Kept (fun b => c b ≠ 0) w W' := by
  refine ⟨b.kept k (fun e => ?_), ?_, fun x e => ?_, hk.trans k (fun x hx e => ?_)⟩
  · rcases e with e | e
    · rw [e, t.cp] at hq; omega
    · rw [hq] at e; exact hi e.symm
  · rw [dye_old b.lt]; exact hq
  · unfold dye at e
    split at e
    · rename_i h; exact .inr (Nat.le_trans hk.size h.1)
    · exact hs x e
  · have h1 : c1 x ≠ 0 := by
      rcases e with e | e
      · rw [e, t.cp]; decide
      · rw [e]; exact hi
    exact (hs x h1).resolve_right (by omega)
theorem Trx.mid1 (t : Trx K tT W c1 p m L N1 N2 N3 n bt x1 x2 x3 g1 g2 g3) (b : Blk W q tQ cs) (hq : c1 q = 0) (hs : ∀ b, c1 b ≠ 0 → c b ≠ 0 ∨ w.heap.size ≤ b) (hk : Kept (fun b => c b ≠ 0) w W) {N1' : κ → List Int} {n' : Nat} (hn : n ≤ n')
    (h : ∃ x' g', Blk W' p tT (#[.map (some bt), x1, x2, x3, .int .i64 m].setIfInBounds 1 x') ∧ Not K W' (Fup (fun b => c1 b = 3) W W') x' g' N1' n' ∧ Kept (fun b => b = p ∨ c1 b = 3) W W') : Mid K tT tQ w W' c p q cs m L N1' N2 N3 n' := by
  obtain ⟨x', g', hb, hN, k⟩ := h
  obtain ⟨a1, a2, a3, a4⟩ := mid_dye t b hq hs hk (by decide) k
  exact (t.turn1 hn hb hN k).mid a1 a2 a3 a4
theorem Trx.mid2 (t : Trx K tT W c1 p m L N1 N2 N3 n bt x1 x2 x3 g1 g2 g3) (b : Blk W q tQ cs) (hq : c1 q = 0) (hs : ∀ b, c1 b ≠ 0 → c b ≠ 0 ∨ w.heap.size ≤ b) (hk : Kept (fun b => c b ≠ 0) w W) {N2' : Int → List Int} {n' : Nat} (hn : n ≤ n')
    (h : ∃ x' g', Blk W' p tT (#[.map (some bt), x1, x2, x3, .int .i64 m].setIfInBounds 2 x') ∧ Not KI W' (Fup (fun b => c1 b = 4) W W') x' g' N2' n' ∧ Kept (fun b => b = p ∨ c1 b = 4) W W') : Mid K tT tQ w W' c p q cs m L N1 N2' N3 n' := by
  obtain ⟨x', g', hb, hN, k⟩ := h
  obtain ⟨a1, a2, a3, a4⟩ := mid_dye t b hq hs hk (by decide) k
  exact (t.turn2 hn hb hN k).mid a1 a2 a3 a4
theorem Trx.mid3 (t : Trx K tT W c1 p m L N1 N2 N3 n bt x1 x2 x3 g1 g2 g3) (b : Blk W q tQ cs) (hq : c1 q = 0) (hs : ∀ b, c1 b ≠ 0 → c b ≠ 0 ∨ w.heap.size ≤ b) (hk : Kept (fun b => c b ≠ 0) w W) {N3' : Int → List Int} {n' : Nat} (hn : n ≤ n')
    (h : ∃ x' g', Blk W' p tT (#[.map (some bt), x1, x2, x3, .int .i64 m].setIfInBounds 3 x') ∧ Not KI W' (Fup (fun b => c1 b = 5) W W') x' g' N3' n' ∧ Kept (fun b => b = p ∨ c1 b = 5) W W') : Mid K tT tQ w W' c p q cs m L N1 N2 N3' n' := by
  obtain ⟨x', g', hb, hN, k⟩ := h
  obtain ⟨a1, a2, a3, a4⟩ := mid_dye t b hq hs hk (by decide) k
  exact (t.turn3 hn hb hN k).mid a1 a2 a3 a4
theorem mid_less {i : Nat} (_t : Trx K tT W c1 p m L N1 N2 N3 n bt x1 x2 x3 g1 g2 g3) (b : Blk W q tQ cs) (hq : c1 q = 0) (hs : ∀ b, c1 b ≠ 0 → c b ≠ 0 ∨ w.heap.size ≤ b) (hk : Kept (fun b => c b ≠ 0) w W) (hi : i ≠ 0) (k : Kept (fun b => c1 b = i) W W') :
    Blk W' q tQ cs ∧ Kept (fun b => c b ≠ 0) w W' := by
  refine ⟨b.kept k (fun e => ?_), hk.trans k (fun x hx e => ?_)⟩
  · rw [hq] at e; exact hi e.symm
  · exact (hs x (by rw [e]; exact hi)).resolve_right (by omega)
theorem Trx.midL1 (t : Trx K tT W c1 p m L N1 N2 N3 n bt x1 x2 x3 g1 g2 g3) (b : Blk W q tQ cs) (hq : c1 q = 0) (hs : ∀ b, c1 b ≠ 0 → c b ≠ 0 ∨ w.heap.size ≤ b) (hk : Kept (fun b => c b ≠ 0) w W) {N1' : κ → List Int}
    (h : ∃ g', Blk W' p tT #[.map (some bt), x1, x2, x3, .int .i64 m] ∧ Not K W' (fun b => c1 b = 3) x1 g' N1' n ∧ Kept (fun b => c1 b = 3) W W') : Mid K tT tQ w W' c p q cs m L N1' N2 N3 n := by
  obtain ⟨g', hb, hN, k⟩ := h
  obtain ⟨a1, a4⟩ := mid_less t b hq hs hk (by decide) k
  exact (t.less1 hb hN k).mid a1 hq hs a4
theorem Trx.midL2 (t : Trx K tT W c1 p m L N1 N2 N3 n bt x1 x2 x3 g1 g2 g3) (b : Blk W q tQ cs) (hq : c1 q = 0) (hs : ∀ b, c1 b ≠ 0 → c b ≠ 0 ∨ w.heap.size ≤ b) (hk : Kept (fun b => c b ≠ 0) w W) {N2' : Int → List Int}
    (h : ∃ g', Blk W' p tT #[.map (some bt), x1, x2, x3, .int .i64 m] ∧ Not KI W' (fun b => c1 b = 4) x2 g' N2' n ∧ Kept (fun b => c1 b = 4) W W') : Mid K tT tQ w W' c p q cs m L N1 N2' N3 n := by
  obtain ⟨g', hb, hN, k⟩ := h
  obtain ⟨a1, a4⟩ := mid_less t b hq hs hk (by decide) k
  exact (t.less2 hb hN k).mid a1 hq hs a4
theorem Trx.midL3 (t : Trx K tT W c1 p m L N1 N2 N3 n bt x1 x2 x3 g1 g2 g3) (b : Blk W q tQ cs) (hq : c1 q = 0) (hs : ∀ b, c1 b ≠ 0 → c b ≠ 0 ∨ w.heap.size ≤ b) (hk : Kept (fun b => c b ≠ 0) w W) {N3' : Int → List Int}
    (h : ∃ g', Blk W' p tT #[.map (some bt), x1, x2, x3, .int .i64 m] ∧ Not KI W' (fun b => c1 b = 5) x3 g' N3' n ∧ Kept (fun b => c1 b = 5) W W') : Mid K tT tQ w W' c p q cs m L N1 N2 N3' n := by
  obtain ⟨g', hb, hN, k⟩ := h
  obtain ⟨a1, a4⟩ := mid_less t b hq hs hk (by decide) k
  exact (t.less3 hb hN k).mid a1 hq hs a4
/-- .. where a block that is new, and none of the tree's, is turned last. -/
theorem Mid.doneAt [DecidableEq κ] {w0 V : World} (h : Mid K tT tQ w W c p q cs m L N1 N2 N3 n) (hok : okToks K L) (hm : m = (L.length : Int)) (h1 : N1 = atL L) (h2 : N2 = withL L) (h3 : N3 = kids L) (hn : n ≤ 4 * L.length) (k0 : Kept Nil w0 w) {r : Nat} (hr : w0.heap.size ≤ r) (hr2 : r < w.heap.size) (hc : c r = 0) (k : Kept (fun b => b = r) W V) : TreG K tT w0 V c p L := by
  subst hm h1 h2 h3
  obtain ⟨c1, bt, x1, x2, x3, g1, g2, g3, t, b, e, s, kk⟩ := h
  refine ⟨c1, ⟨hok, n, bt, x1, x2, x3, g1, g2, g3, hn, t.kept k (fun b hb e => ?_)⟩, fun b hb => (s b hb).imp id (Nat.le_trans k0.size), ((k0.mono (fun _ _ e => e.elim)).trans kk (fun _ _ e => e)).trans k (fun b hb e => ?_)⟩
  · subst e
    rcases s b hb with e | e
    · exact e hc
    · omega
  · subst e; omega
theorem Mid.done [DecidableEq κ] (h : Mid K tT tQ w W c p q cs m L N1 N2 N3 n) (hok : okToks K L) (hm : m = (L.length : Int)) (h1 : N1 = atL L) (h2 : N2 = withL L) (h3 : N3 = kids L) (hn : n ≤ 4 * L.length) : TreG K tT w W c p L := by
  subst hm h1 h2 h3
  obtain ⟨c1, bt, x1, x2, x3, g1, g2, g3, t, b, e, s, kk⟩ := h
  exact ⟨c1, ⟨hok, n, bt, x1, x2, x3, g1, g2, g3, hn, t⟩, s, kk⟩
end
end
end Go.Proofs.Ytbaplplaokbnnaa
