/- Trees of tokens, plain: who is there, where, with what fact, below whom, who is out with whom. No program. -/
import Derived.Test.YtbaplplaokbnnaaMSet
namespace Go.Proofs.Ytbaplplaokbnnaa
open Go.RowKit Go.Maps

/-- A token. -/
structure Tok (κ : Type) where
  par : Int
  loc : κ
  fact : Int
  out : Bool
section
variable {κ : Type}
/-- The token of a number, if it is there. -/
def tok (L : List (Tok κ)) (id : Int) : Option (Tok κ) :=
  if 1 ≤ id then (L[(id - 1).toNat]?).filter (fun x => !x.out) else none
theorem tok_some {L : List (Tok κ)} {id : Int} {x : Tok κ} : tok L id = some x ↔ 1 ≤ id ∧ L[(id - 1).toNat]? = some x ∧ x.out = false := by
  unfold tok
  split
  · rename_i h
    rw [Option.filter_eq_some_iff]
    simp [h]
  · rename_i h; simp [h]
theorem tok_bound {L : List (Tok κ)} {id : Int} {x : Tok κ} (h : tok L id = some x) : 1 ≤ id ∧ id ≤ L.length := by
  obtain ⟨a, b, _⟩ := tok_some.1 h
  have := (List.getElem?_eq_some_iff.1 b).1
  omega
theorem tok_low {L : List (Tok κ)} {id : Int} (h : id < 1) : tok L id = none := by unfold tok; rw [if_neg (by omega)]
theorem tok_high {L : List (Tok κ)} {id : Int} (h : (L.length : Int) < id) : tok L id = none := by
  cases e : tok L id with
  | none => rfl
  | some x => have := tok_bound e; omega
theorem tok_new (L : List (Tok κ)) {x : Tok κ} (hx : x.out = false) : tok (L ++ [x]) ((L.length : Int) + 1) = some x := by
  refine tok_some.2 ⟨by omega, ?_, hx⟩
  rw [show (((L.length : Int) + 1) - 1).toNat = L.length by omega]
  simp
theorem tok_old (L : List (Tok κ)) (x : Tok κ) {id : Int} (h : id ≠ (L.length : Int) + 1) : tok (L ++ [x]) id = tok L id := by
  unfold tok
  split
  · rename_i h1
    rcases Nat.lt_or_ge (id - 1).toNat L.length with hl | hl
    · rw [List.getElem?_append_left hl]
    · rw [List.getElem?_eq_none (by simp; omega), List.getElem?_eq_none hl]
  · rfl
/-- What a token has; 0 where it isn't. -/
def parI (L : List (Tok κ)) (id : Int) : Int := ((tok L id).map (·.par)).getD 0
def factI (L : List (Tok κ)) (id : Int) : Int := ((tok L id).map (·.fact)).getD 0
theorem parI_some {L : List (Tok κ)} {id : Int} {x : Tok κ} (h : tok L id = some x) : parI L id = x.par := by unfold parI; rw [h]; rfl
theorem factI_some {L : List (Tok κ)} {id : Int} {x : Tok κ} (h : tok L id = some x) : factI L id = x.fact := by unfold factI; rw [h]; rfl
theorem parI_none {L : List (Tok κ)} {id : Int} (h : tok L id = none) : parI L id = 0 := by unfold parI; rw [h]; rfl
theorem factI_none {L : List (Tok κ)} {id : Int} (h : tok L id = none) : factI L id = 0 := by unfold factI; rw [h]; rfl

/-! ### The numbers of those of which something is true -/
def idsG (q : Tok κ → Bool) : Int → List (Tok κ) → List Int
  | _, [] => []
  | n, x :: r => if (!x.out && q x) = true then n :: idsG q (n + 1) r else idsG q (n + 1) r
def ids (L : List (Tok κ)) (q : Tok κ → Bool) : List Int := idsG q 1 L
theorem mem_idsG {q : Tok κ → Bool} {id : Int} : ∀ {l : List (Tok κ)} {n : Int}, id ∈ idsG q n l ↔ ∃ (j : Nat) (x : Tok κ), l[j]? = some x ∧ id = n + j ∧ x.out = false ∧ q x = true
  | [], n => by simp [idsG]
  | x :: r, n => by
    have key : id ∈ idsG q (n + 1) r ↔ ∃ (j : Nat) (y : Tok κ), (x :: r)[j + 1]? = some y ∧ id = n + ((j + 1 : Nat) : Int) ∧ y.out = false ∧ q y = true := by
      rw [mem_idsG]
      exact ⟨fun ⟨j, y, a, b, c⟩ => ⟨j, y, by simpa using a, by omega, c⟩, fun ⟨j, y, a, b, c⟩ => ⟨j, y, by simpa using a, by omega, c⟩⟩
    rw [idsG]
    split
    · rename_i h
      simp only [Bool.and_eq_true, Bool.not_eq_true'] at h
      rw [List.mem_cons, key]
      constructor
      · rintro (rfl | ⟨j, y, a, b, c⟩)
        · exact ⟨0, x, rfl, by simp, h.1, h.2⟩
        · exact ⟨j + 1, y, a, b, c⟩
      · rintro ⟨j, y, a, b, c⟩
        cases j with
        | zero => exact .inl (by simpa using b)
        | succ j => exact .inr ⟨j, y, a, b, c⟩
    · rename_i h
      rw [key]
      constructor
      · rintro ⟨j, y, a, b, c⟩; exact ⟨j + 1, y, a, b, c⟩
      · rintro ⟨j, y, a, b, c⟩
        cases j with
        | zero =>
          simp only [List.getElem?_cons_zero, Option.some.injEq] at a
          subst a
          exact absurd (by simp [c.1, c.2]) h
        | succ j => exact ⟨j, y, a, b, c⟩
theorem mem_ids {L : List (Tok κ)} {q : Tok κ → Bool} {id : Int} : id ∈ ids L q ↔ ∃ x, tok L id = some x ∧ q x = true := by
  unfold ids
  rw [mem_idsG]
  constructor
  · rintro ⟨j, x, a, b, c, d⟩
    exact ⟨x, tok_some.2 ⟨by omega, by rw [show (id - 1).toNat = j by omega]; exact a, c⟩, d⟩
  · rintro ⟨x, h, d⟩
    obtain ⟨a, b, c⟩ := tok_some.1 h
    exact ⟨_, x, b, by omega, c, d⟩
theorem rise_idsG {q : Tok κ → Bool} : ∀ {l : List (Tok κ)} {n : Int}, Rise (idsG q n l)
  | [], _ => List.Pairwise.nil
  | x :: r, n => by
    rw [idsG]
    split
    · refine List.pairwise_cons.2 ⟨fun y hy => ?_, rise_idsG⟩
      obtain ⟨j, _, _, b, _⟩ := mem_idsG.1 hy
      omega
    · exact rise_idsG
theorem rise_ids (L : List (Tok κ)) (q : Tok κ → Bool) : Rise (ids L q) := rise_idsG
theorem ids_le {q : Tok κ → Bool} : ∀ {l : List (Tok κ)} {n : Int}, (idsG q n l).length ≤ l.length
  | [], _ => Nat.le_refl _
  | x :: r, n => by
    rw [idsG]
    have := ids_le (q := q) (l := r) (n := n + 1)
    split
    · simpa using this
    · rw [List.length_cons]; omega
theorem ids_length (L : List (Tok κ)) (q : Tok κ → Bool) : (ids L q).length ≤ L.length := ids_le
theorem ids_bound {L : List (Tok κ)} {q : Tok κ → Bool} {id : Int} (h : id ∈ ids L q) : 1 ≤ id ∧ id ≤ L.length := by
  obtain ⟨x, h, _⟩ := mem_ids.1 h; exact tok_bound h
theorem ids_more (L : List (Tok κ)) {x : Tok κ} (hx : x.out = false) (q : Tok κ → Bool) : ids (L ++ [x]) q = if q x = true then put (ids L q) ((L.length : Int) + 1) else ids L q := by
  have hno : ((L.length : Int) + 1) ∉ ids L q := fun h => by have := ids_bound h; omega
  split
  · rename_i hq
    refine rise_eq (rise_ids _ _) (rise_put (rise_ids _ _) _) (fun y => ?_)
    rw [mem_put, mem_ids, mem_ids]
    by_cases e : y = (L.length : Int) + 1
    · subst e
      exact ⟨fun _ => .inl rfl, fun _ => ⟨x, tok_new L hx, hq⟩⟩
    · rw [tok_old L x e]
      exact ⟨.inr, fun h => h.resolve_left e⟩
  · rename_i hq
    refine rise_eq (rise_ids _ _) (rise_ids _ _) (fun y => ?_)
    rw [mem_ids, mem_ids]
    by_cases e : y = (L.length : Int) + 1
    · subst e
      rw [tok_new L hx, tok_high (by omega)]
      constructor
      · rintro ⟨z, e, h⟩; cases e; exact absurd h hq
      · rintro ⟨z, e, _⟩; cases e
    · rw [tok_old L x e]
/-- All that are there. -/
def liveN (L : List (Tok κ)) : Nat := (ids L (fun _ => true)).length
theorem put_last {L : List (Tok κ)} {q : Tok κ → Bool} : put (ids L q) ((L.length : Int) + 1) = ids L q ++ [(L.length : Int) + 1] := by
  rw [put_out (fun h => by have := ids_bound h; omega), ins_last (fun y hy => by have := ids_bound hy; omega)]

/-! ### One that is out -/
def kill (L : List (Tok κ)) (id : Int) : List (Tok κ) := if 1 ≤ id then L.modify (id - 1).toNat (fun x => { x with out := true }) else L
theorem kill_length (L : List (Tok κ)) (id : Int) : (kill L id).length = L.length := by unfold kill; split <;> simp
theorem tok_kill_same (L : List (Tok κ)) (id : Int) : tok (kill L id) id = none := by
  unfold kill tok
  split
  · rw [List.getElem?_modify]
    cases L[(id - 1).toNat]? <;> simp
  · rfl
theorem tok_kill_other (L : List (Tok κ)) {id j : Int} (h : j ≠ id) : tok (kill L id) j = tok L j := by
  unfold kill
  split
  · rename_i h1
    unfold tok
    split
    · have hne : ¬ (id - 1).toNat = (j - 1).toNat := by omega
      rw [List.getElem?_modify]
      simp only [hne, if_false]
      cases L[(j - 1).toNat]? <;> rfl
    · rfl
  · rfl
theorem ids_kill (L : List (Tok κ)) (id : Int) (q : Tok κ → Bool) : ids (kill L id) q = del id (ids L q) := by
  refine rise_eq (rise_ids _ _) (rise_del (rise_ids _ _) _) (fun y => ?_)
  rw [mem_del, mem_ids, mem_ids]
  by_cases e : y = id
  · subst e
    rw [tok_kill_same]
    simp
  · rw [tok_kill_other L e]
    exact ⟨fun h => ⟨h, e⟩, fun h => h.1⟩
def kills (L : List (Tok κ)) (l : List Int) : List (Tok κ) := l.foldl kill L
theorem kills_cons (L : List (Tok κ)) (x : Int) (l : List Int) : kills L (x :: l) = kills (kill L x) l := rfl
theorem kills_snoc (L : List (Tok κ)) (x : Int) (l : List Int) : kills L (l ++ [x]) = kill (kills L l) x := by unfold kills; rw [List.foldl_append]; rfl
theorem kills_length : ∀ (l : List Int) (L : List (Tok κ)), (kills L l).length = L.length
  | [], _ => rfl
  | x :: r, L => by rw [kills_cons, kills_length r, kill_length]
theorem tok_kills_not : ∀ {l : List Int} {L : List (Tok κ)} {id : Int}, id ∉ l → tok (kills L l) id = tok L id
  | [], _, _, _ => rfl
  | x :: r, L, id, h => by
    rw [kills_cons, tok_kills_not (fun e => h (List.mem_cons_of_mem _ e)), tok_kill_other L (fun e => h (by rw [e]; exact List.mem_cons_self ..))]
theorem tok_kills_in : ∀ {l : List Int} {L : List (Tok κ)} {id : Int}, id ∈ l → tok (kills L l) id = none
  | x :: r, L, id, h => by
    rw [kills_cons]
    by_cases e : id ∈ r
    · exact tok_kills_in e
    · rw [tok_kills_not e]
      rcases List.mem_cons.1 h with rfl | h
      · exact tok_kill_same L _
      · exact absurd h e

/-! ### Who is above whom -/
/-- Parents have lower numbers. -/
def WF (L : List (Tok κ)) : Prop := ∀ id x, tok L id = some x → 0 ≤ x.par ∧ x.par < id
theorem WF.top (a : κ) (f : Int) : WF [(⟨0, a, f, false⟩ : Tok κ)] := fun id x h => by
  have hb := tok_bound h
  obtain ⟨_, b, _⟩ := tok_some.1 h
  have e : (id - 1).toNat = 0 := by have := hb.2; simp at this; omega
  rw [e] at b
  simp at b
  subst b
  exact ⟨Int.le_refl _, by have := hb.1; show (0 : Int) < id; omega⟩
theorem WF.more {L : List (Tok κ)} (h : WF L) {x : Tok κ} (hx : x.out = false) (h0 : 0 ≤ x.par) (h1 : x.par ≤ L.length) : WF (L ++ [x]) := fun id y hy => by
  by_cases e : id = (L.length : Int) + 1
  · subst e
    rw [tok_new L hx] at hy
    cases hy
    exact ⟨h0, by omega⟩
  · rw [tok_old L x e] at hy
    exact h id y hy
theorem WF.kill {L : List (Tok κ)} (h : WF L) (id : Int) : WF (kill L id) := fun j y hy => by
  by_cases e : j = id
  · subst e; rw [tok_kill_same] at hy; cases hy
  · rw [tok_kill_other L e] at hy; exact h j y hy
theorem WF.kills : ∀ {l : List Int} {L : List (Tok κ)}, WF L → WF (kills L l)
  | [], _, h => h
  | x :: r, _, h => WF.kills (l := r) (h.kill x)
def chain (L : List (Tok κ)) : Nat → Int → List Int
  | 0, _ => []
  | n + 1, id => match tok L id with
    | none => []
    | some x => id :: chain L n x.par
/-- A token and those above it. -/
def line (L : List (Tok κ)) (id : Int) : List Int := chain L id.toNat id
theorem chain_none {L : List (Tok κ)} {id : Int} (h : tok L id = none) : ∀ n, chain L n id = []
  | 0 => rfl
  | n + 1 => by rw [chain, h]
theorem chain_more {L : List (Tok κ)} (h : WF L) : ∀ (n m : Nat) (id : Int), id.toNat ≤ n → id.toNat ≤ m → chain L n id = chain L m id
  | 0, m, id, hn, _ => by rw [chain_none (tok_low (by omega)), chain_none (tok_low (by omega))]
  | n + 1, 0, id, _, hm => by rw [chain_none (tok_low (by omega)), chain_none (tok_low (by omega))]
  | n + 1, m + 1, id, hn, hm => by
    rw [chain, chain]
    cases e : tok L id with
    | none => rfl
    | some x =>
      have := h id x e
      show id :: chain L n x.par = id :: chain L m x.par
      rw [chain_more h n m x.par (by omega) (by omega)]
theorem line_none {L : List (Tok κ)} {id : Int} (h : tok L id = none) : line L id = [] := chain_none h _
theorem line_some {L : List (Tok κ)} (h : WF L) {id : Int} {x : Tok κ} (hx : tok L id = some x) : line L id = id :: line L x.par := by
  have hb := tok_bound hx
  have hp := h id x hx
  obtain ⟨n, hn⟩ : ∃ n, id.toNat = n + 1 := ⟨id.toNat - 1, by omega⟩
  unfold line
  rw [hn, chain, hx]
  show id :: chain L n x.par = id :: chain L x.par.toNat x.par
  rw [chain_more h n x.par.toNat x.par (by omega) (Nat.le_refl _)]
/-- Whatever is so of a token, if it is so of its parent. -/
theorem line_ind {L : List (Tok κ)} (h : WF L) {p : Int → Prop} (h0 : ∀ id, tok L id = none → p id) (h1 : ∀ id x, tok L id = some x → p x.par → p id) : ∀ id, p id := by
  have key : ∀ (n : Nat) (id : Int), id.toNat ≤ n → p id := by
    intro n
    induction n with
    | zero => intro id hn; exact h0 id (tok_low (by omega))
    | succ n ih =>
      intro id hn
      cases e : tok L id with
      | none => exact h0 id e
      | some x => have := h id x e; exact h1 id x e (ih x.par (by omega))
  exact fun id => key _ id (Nat.le_refl _)
theorem line_le {L : List (Tok κ)} (h : WF L) : ∀ id, ∀ y ∈ line L id, y ≤ id ∧ ∃ z, tok L y = some z := by
  refine line_ind h (fun id e y hy => ?_) (fun id x e ih y hy => ?_)
  · rw [line_none e] at hy; simp at hy
  · rw [line_some h e] at hy
    rcases List.mem_cons.1 hy with rfl | hy
    · exact ⟨Int.le_refl _, x, e⟩
    · have := h id x e
      have := ih y hy
      exact ⟨by omega, this.2⟩
theorem line_self {L : List (Tok κ)} (h : WF L) {id : Int} : id ∈ line L id ↔ tok L id ≠ none := by
  cases e : tok L id with
  | none => rw [line_none e]; simp
  | some x => rw [line_some h e]; simp
/-- Of two in one line that have one parent both are one. -/
theorem line_one {L : List (Tok κ)} (h : WF L) {a b : Int} {x y : Tok κ} (ha : tok L a = some x) (hb : tok L b = some y) (hp : x.par = y.par) : ∀ id, a ∈ line L id → b ∈ line L id → a = b := by
  refine line_ind h (fun id e ha _ => ?_) (fun id z e ih h1 h2 => ?_)
  · rw [line_none e] at ha; simp at ha
  · rw [line_some h e] at h1 h2
    rcases List.mem_cons.1 h1 with e1 | h1 <;> rcases List.mem_cons.1 h2 with e2 | h2
    · rw [e1, e2]
    · have h3 := (line_le h _ b h2).1
      have h4 := h b y hb
      rw [e1, e] at ha
      cases ha
      omega
    · have h3 := (line_le h _ a h1).1
      have h4 := h a x ha
      rw [e2, e] at hb
      cases hb
      omega
    · exact ih h1 h2
/-- Above a token's own place in a line stands its parent's line. -/
theorem line_up {L : List (Tok κ)} (h : WF L) {p : Int} (hp : tok L p ≠ none) : ∀ id, (p ∈ line L id ↔ (id = p) ∨ ∃ k z, tok L k = some z ∧ z.par = p ∧ k ∈ line L id) := by
  refine line_ind h (fun id e => ?_) (fun id x e ih => ?_)
  · rw [line_none e]
    constructor
    · intro h; simp at h
    · rintro (rfl | ⟨k, z, _, _, hk⟩)
      · exact absurd e hp
      · simp at hk
  · rw [line_some h e]
    constructor
    · intro hm
      rcases List.mem_cons.1 hm with rfl | hm
      · exact .inl rfl
      · rcases ih.1 hm with e1 | ⟨k, z, a, b, c⟩
        · exact .inr ⟨id, x, e, e1, List.mem_cons_self ..⟩
        · exact .inr ⟨k, z, a, b, List.mem_cons_of_mem _ c⟩
    · rintro (rfl | ⟨k, z, a, b, c⟩)
      · exact List.mem_cons_self ..
      · rcases List.mem_cons.1 c with e1 | c
        · rw [e1, e] at a
          cases a
          refine List.mem_cons_of_mem _ ?_
          rw [b, line_self h]; exact hp
        · exact List.mem_cons_of_mem _ (ih.2 (.inr ⟨k, z, a, b, c⟩))

/-! ### Who is below whom -/
def kids (L : List (Tok κ)) (id : Int) : List Int := ids L (fun x => decide (x.par = id ∧ id ≠ 0))
theorem mem_kids {L : List (Tok κ)} {id k : Int} : k ∈ kids L id ↔ id ≠ 0 ∧ ∃ x, tok L k = some x ∧ x.par = id := by
  unfold kids
  rw [mem_ids]
  simp only [decide_eq_true_eq]
  exact ⟨fun ⟨x, a, b, c⟩ => ⟨c, x, a, b⟩, fun ⟨c, x, a, b⟩ => ⟨x, a, b, c⟩⟩
def belowG (L : List (Tok κ)) : Nat → Int → List Int
  | 0, id => [id]
  | n + 1, id => (kids L id).flatMap (belowG L n) ++ [id]
/-- A token and all below it, each behind all below it. -/
def below (L : List (Tok κ)) (id : Int) : List Int := belowG L ((L.length : Int) + 1 - id).toNat id
theorem flatMap_same {α β : Type} {f g : α → List β} : ∀ {l : List α}, (∀ x ∈ l, f x = g x) → l.flatMap f = l.flatMap g
  | [], _ => rfl
  | x :: r, h => by rw [List.flatMap_cons, List.flatMap_cons, h x (List.mem_cons_self ..), flatMap_same (fun y hy => h y (List.mem_cons_of_mem _ hy))]
theorem kids_bound {L : List (Tok κ)} (h : WF L) {id k : Int} (hk : k ∈ kids L id) : 1 ≤ id ∧ id < k ∧ k ≤ L.length := by
  obtain ⟨h0, x, a, b⟩ := mem_kids.1 hk
  have := h k x a
  have := tok_bound a
  omega
theorem kids_high {L : List (Tok κ)} (h : WF L) {id : Int} (hid : (L.length : Int) ≤ id) : kids L id = [] := by
  cases e : kids L id with
  | nil => rfl
  | cons k r => have := kids_bound h (id := id) (k := k) (by rw [e]; exact List.mem_cons_self ..); omega
theorem belowG_more {L : List (Tok κ)} (h : WF L) : ∀ (n m : Nat) (id : Int), ((L.length : Int) + 1 - id).toNat ≤ n → ((L.length : Int) + 1 - id).toNat ≤ m → belowG L n id = belowG L m id
  | 0, 0, _, _, _ => rfl
  | 0, m + 1, id, hn, _ => by rw [belowG, belowG, kids_high h (by omega)]; rfl
  | n + 1, 0, id, _, hm => by rw [belowG, belowG, kids_high h (by omega)]; rfl
  | n + 1, m + 1, id, hn, hm => by
    rw [belowG, belowG]
    congr 1
    exact flatMap_same (fun k hk => by have := kids_bound h hk; exact belowG_more h n m k (by omega) (by omega))
theorem below_eq {L : List (Tok κ)} (h : WF L) (id : Int) : below L id = (kids L id).flatMap (below L) ++ [id] := by
  unfold below
  rw [belowG_more h _ (((L.length : Int) + 1 - id).toNat + 1) id (Nat.le_refl _) (Nat.le_succ _), belowG]
  congr 1
  exact flatMap_same (fun k hk => by have := kids_bound h hk; exact belowG_more h _ _ k (by omega) (Nat.le_refl _))
theorem below_pos (L : List (Tok κ)) (id : Int) : 0 < (below L id).length := by
  unfold below
  cases ((L.length : Int) + 1 - id).toNat <;> simp [belowG]
theorem flat_below_le (L : List (Tok κ)) : ∀ l : List Int, l.length ≤ (l.flatMap (below L)).length
  | [] => Nat.le_refl _
  | x :: r => by
    have := flat_below_le L r
    have := below_pos L x
    rw [List.flatMap_cons, List.length_append, List.length_cons]; omega
/-- Whatever is so of a token, if it is so of all right below it. -/
theorem below_ind {L : List (Tok κ)} (h : WF L) {p : Int → Prop} (h1 : ∀ id, (∀ k ∈ kids L id, p k) → p id) : ∀ id, p id := by
  have key : ∀ (n : Nat) (id : Int), ((L.length : Int) + 1 - id).toNat ≤ n → p id := by
    intro n
    induction n with
    | zero => intro id hn; exact h1 id (fun k hk => by rw [kids_high h (by omega)] at hk; simp at hk)
    | succ n ih => intro id hn; exact h1 id (fun k hk => by have := kids_bound h hk; exact ih k (by omega))
  exact fun id => key _ id (Nat.le_refl _)
theorem mem_below {L : List (Tok κ)} (h : WF L) : ∀ id, tok L id ≠ none → ∀ x, (x ∈ below L id ↔ id ∈ line L x) := by
  refine below_ind h (fun id ih hid x => ?_)
  have h0 : id ≠ 0 := fun e => hid (tok_low (by omega))
  rw [below_eq h, List.mem_append, List.mem_flatMap, line_up h hid x, List.mem_singleton]
  constructor
  · rintro (⟨k, hk, hx⟩ | e)
    · obtain ⟨_, z, a, b⟩ := mem_kids.1 hk
      exact .inr ⟨k, z, a, b, (ih k hk (by rw [a]; simp) x).1 hx⟩
    · exact .inl e
  · rintro (e | ⟨k, z, a, b, c⟩)
    · exact .inr e
    · have hk : k ∈ kids L id := mem_kids.2 ⟨h0, z, a, b⟩
      exact .inl ⟨k, hk, (ih k hk (by rw [a]; simp) x).2 c⟩
theorem below_there {L : List (Tok κ)} (h : WF L) {id : Int} (hid : tok L id ≠ none) {x : Int} (hx : x ∈ below L id) : tok L x ≠ none := fun e => by
  have := (mem_below h id hid x).1 hx
  rw [line_none e] at this
  simp at this
theorem below_ge {L : List (Tok κ)} (h : WF L) {id : Int} (hid : tok L id ≠ none) {x : Int} (hx : x ∈ below L id) : id ≤ x :=
  (line_le h x id ((mem_below h id hid x).1 hx)).1
theorem below_nodup {L : List (Tok κ)} (h : WF L) : ∀ id, tok L id ≠ none → (below L id).Nodup := by
  refine below_ind h (fun id ih hid => ?_)
  rw [below_eq h]
  have hk : ∀ k ∈ kids L id, ∃ z, tok L k = some z ∧ z.par = id := fun k hk => (mem_kids.1 hk).2
  refine List.nodup_append.2 ⟨?_, by simp, fun a ha b hb e => ?_⟩
  · have hn : (kids L id).Nodup := (rise_ids _ _).nodup
    have : ∀ l : List Int, (∀ k ∈ l, k ∈ kids L id) → l.Nodup → (l.flatMap (below L)).Nodup := by
      intro l
      induction l with
      | nil => intro _ _; simp
      | cons k r ihr =>
        intro hm hnd
        obtain ⟨h1, h2⟩ := List.nodup_cons.1 hnd
        obtain ⟨z, a, b⟩ := hk k (hm k (List.mem_cons_self ..))
        rw [List.flatMap_cons]
        refine List.nodup_append.2 ⟨ih k (hm k (List.mem_cons_self ..)) (by rw [a]; simp), ihr (fun y hy => hm y (List.mem_cons_of_mem _ hy)) h2, fun c hc d hd e => ?_⟩
        subst e
        obtain ⟨k2, hk2, hc2⟩ := List.mem_flatMap.1 hd
        obtain ⟨z2, a2, b2⟩ := hk k2 (hm k2 (List.mem_cons_of_mem _ hk2))
        have e := line_one h a a2 (by rw [b, b2]) c ((mem_below h k (by rw [a]; simp) c).1 hc) ((mem_below h k2 (by rw [a2]; simp) c).1 hc2)
        rw [e] at h1
        exact h1 hk2
    exact this _ (fun _ h => h) hn
  · rw [List.mem_singleton.1 hb] at e
    subst e
    obtain ⟨k, hk1, hc⟩ := List.mem_flatMap.1 ha
    obtain ⟨z, a, b⟩ := hk k hk1
    have := below_ge h (id := k) (by rw [a]; simp) hc
    have := kids_bound h hk1
    omega
theorem nodup_bound : ∀ (n : Nat) {l : List Int}, l.Nodup → (∀ x ∈ l, 1 ≤ x ∧ x ≤ n) → l.length ≤ n
  | 0, l, _, h => by
    cases l with
    | nil => exact Nat.le_refl _
    | cons x r => have := h x (List.mem_cons_self ..); omega
  | n + 1, l, hn, h => by
    have h1 := nodup_bound n (l := drp ((n + 1 : Nat) : Int) l) (by
      clear h
      induction l with
      | nil => exact List.nodup_nil
      | cons y r ih =>
        obtain ⟨a, b⟩ := List.nodup_cons.1 hn
        rw [drp]
        split
        · exact b
        · exact List.nodup_cons.2 ⟨fun hx => a (drp_sub hx), ih b⟩) (fun x hx => by
      have h2 := h x (drp_sub hx)
      have : x ≠ ((n + 1 : Nat) : Int) := fun e => by
        subst e
        have c1 : ∀ {ks : List Int}, ks.Nodup → ∀ x, cnt x ks ≤ 1 := by
          intro ks
          induction ks with
          | nil => intro _ x; simp [cnt]
          | cons y r ih =>
            intro hn x
            obtain ⟨a, b⟩ := List.nodup_cons.1 hn
            rw [cnt]
            split
            · rename_i e; subst e; rw [cnt_zero.2 a]; exact Nat.le_refl _
            · exact ih b x
        have := cnt_pos.2 hx
        rw [cnt_drp_same] at this
        have := c1 hn ((n + 1 : Nat) : Int)
        omega
      omega)
    by_cases hm : ((n + 1 : Nat) : Int) ∈ l
    · have := drp_length hm; omega
    · rw [drp_not hm] at h1; omega
theorem below_length {L : List (Tok κ)} (h : WF L) {id : Int} (hid : tok L id ≠ none) : (below L id).length ≤ L.length :=
  nodup_bound L.length (below_nodup h id hid) (fun x hx => by
    cases e : tok L x with
    | none => exact absurd e (below_there h hid hx)
    | some z => exact tok_bound e)

/-! ### The first one at a place; the facts -/
section
variable [DecidableEq κ]
def first (L : List (Tok κ)) (a : κ) : List Int → Int
  | [] => 0
  | j :: r => if (tok L j).map (·.loc) = some a then j else first L a r
def upI (L : List (Tok κ)) (id : Int) (a : κ) : Int := first L a (line L id)
theorem upI_none {L : List (Tok κ)} {id : Int} (a : κ) (h : tok L id = none) : upI L id a = 0 := by unfold upI; rw [line_none h]; rfl
theorem upI_here {L : List (Tok κ)} (h : WF L) {id : Int} {x : Tok κ} {a : κ} (hx : tok L id = some x) (ha : x.loc = a) : upI L id a = id := by
  unfold upI; rw [line_some h hx, first, hx, if_pos (by simp [ha])]
theorem upI_up {L : List (Tok κ)} (h : WF L) {id : Int} {x : Tok κ} {a : κ} (hx : tok L id = some x) (ha : x.loc ≠ a) : upI L id a = upI L x.par a := by
  unfold upI; rw [line_some h hx, first, hx, if_neg (by simpa using ha)]
end
def factsOf (L : List (Tok κ)) : List Int → List Int
  | [] => []
  | j :: r => if factI L j ≠ 0 then factI L j :: factsOf L r else factsOf L r
/-- From the top on. -/
def factsI (L : List (Tok κ)) (id : Int) : List Int := (factsOf L (line L id)).reverse
theorem factsI_none {L : List (Tok κ)} {id : Int} (h : tok L id = none) : factsI L id = [] := by unfold factsI; rw [line_none h]; rfl
theorem factsI_some {L : List (Tok κ)} (h : WF L) {id : Int} {x : Tok κ} (hx : tok L id = some x) : factsI L id = if x.fact ≠ 0 then factsI L x.par ++ [x.fact] else factsI L x.par := by
  unfold factsI; rw [line_some h hx, factsOf, factI_some hx]
  split <;> simp
theorem factsOf_le (L : List (Tok κ)) : ∀ l : List Int, (factsOf L l).length ≤ l.length
  | [] => Nat.le_refl _
  | x :: r => by
    rw [factsOf]
    have := factsOf_le L r
    split <;> simp <;> omega
theorem line_length {L : List (Tok κ)} (h : WF L) : ∀ id, ((line L id).length : Int) ≤ max id 0 := by
  refine line_ind h (fun id e => ?_) (fun id x e ih => ?_)
  · rw [line_none e]; simp; omega
  · have := h id x e
    rw [line_some h e, List.length_cons]
    omega
theorem factsI_length {L : List (Tok κ)} (h : WF L) (id : Int) : (factsI L id).length ≤ L.length := by
  unfold factsI
  rw [List.length_reverse]
  refine Nat.le_trans (factsOf_le L _) ?_
  cases e : tok L id with
  | none => rw [line_none e]; exact Nat.zero_le _
  | some x => have h1 := line_length h id; have := tok_bound e; omega
end
end Go.Proofs.Ytbaplplaokbnnaa
