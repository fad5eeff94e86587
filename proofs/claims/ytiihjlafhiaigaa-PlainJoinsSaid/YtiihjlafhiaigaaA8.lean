/- Layer plain, plain mathematics: the matches by terms and bindings, and by steps; they are one. No program. – Layer plain, plain mathematics of steps: how many matches they have; the steps of right conditions are good ones. No program. – Layer plain, plain mathematics of the program's walk: what is handed on, in its order; what is left to hand on, by what stands in the list of choices. No program. – Elements that lie at a slice, whatever their cells are (XWIn without facts: for every later layer). No program. – Layer test: key.Has; slices of triples. – Layer plain: lists of matches in memory; the reference's Same. -/
import Derived.Test.YtiihjlafhiaigaaA7
import Derived.Test.YtiihjlafhiaigaaA2
import Derived.IntWalk
namespace Go.Proofs.Ytiihjlafhiaigaa
section
open Go.RowKit
set_option maxRecDepth 100000

/-- A fact: its id, its triple. -/
abbrev F4 := Int × T3
section
variable (fs : List F4)
mutual
/-- The matches of a condition, and of what K says behind it. -/
def Sh.tm : Sh → (Bd → List Int → List (List Int)) → Bd → List Int → List (List Int)
  | .mk h subs, K, b, ids =>
    if h.k = 1 then fs.flatMap fun f => match runL (flH h f.2) b with
      | some g => K g (ids ++ [f.1])
      | none => []
    else if h.k = 2 ∧ (fs.any fun f => fitOk (flH h f.2) b) = true then []
    else if h.k = 3 ∧ (tmL subs b []).isEmpty = false then []
    else K b ids
/-- .. of conditions. -/
def tmL : List Sh → Bd → List Int → List (List Int)
  | [], _, ids => [ids]
  | c :: r, b, ids => c.tm (tmL r) b ids
end
mutual
/-- The matches of a step, behind facts that are chosen. -/
def St.sm : St → (List F4 → List (List Int)) → List F4 → List (List Int)
  | .mk h subs, K, ch =>
    if h.k = 1 then fs.flatMap fun f => if meetH h (ch.map Prod.snd) f.2 then K (ch ++ [f]) else []
    else if h.k = 2 ∧ (fs.any fun f => meetH h (ch.map Prod.snd) f.2) = true then []
    else if h.k = 3 ∧ (smL subs ch).isEmpty = false then []
    else K ch
def smL : List St → List F4 → List (List Int)
  | [], ch => [ch.map Prod.fst]
  | s :: r, ch => s.sm (smL r) ch
end
end
theorem tm_mk (fs : List F4) (h : Hd) (subs : List Sh) (K : Bd → List Int → List (List Int)) (b : Bd) (ids : List Int) : (Sh.mk h subs).tm fs K b ids = if h.k = 1 then fs.flatMap fun f => match runL (flH h f.2) b with
      | some g => K g (ids ++ [f.1])
      | none => []
    else if h.k = 2 ∧ (fs.any fun f => fitOk (flH h f.2) b) = true then []
    else if h.k = 3 ∧ (tmL fs subs b []).isEmpty = false then []
    else K b ids := by rw [Sh.tm]
theorem tmL_nil (fs : List F4) (b : Bd) (ids : List Int) : tmL fs [] b ids = [ids] := by rw [tmL]
theorem tmL_cons (fs : List F4) (c : Sh) (r : List Sh) (b : Bd) (ids : List Int) : tmL fs (c :: r) b ids = c.tm fs (tmL fs r) b ids := by rw [tmL]
theorem sm_mk (fs : List F4) (h : SH) (subs : List St) (K : List F4 → List (List Int)) (ch : List F4) : (St.mk h subs).sm fs K ch = if h.k = 1 then fs.flatMap fun f => if meetH h (ch.map Prod.snd) f.2 then K (ch ++ [f]) else []
    else if h.k = 2 ∧ (fs.any fun f => meetH h (ch.map Prod.snd) f.2) = true then []
    else if h.k = 3 ∧ (smL fs subs ch).isEmpty = false then []
    else K ch := by rw [St.sm]
theorem smL_nil (fs : List F4) (ch : List F4) : smL fs [] ch = [ch.map Prod.fst] := by rw [smL]
theorem smL_cons (fs : List F4) (s : St) (r : List St) (ch : List F4) : smL fs (s :: r) ch = s.sm fs (smL fs r) ch := by rw [smL]
/-- What is chosen ahead stands ahead of each match. -/
theorem tm_ids (fs : List F4) : (∀ (c : Sh) (K : Bd → List Int → List (List Int)), (∀ b ids, K b ids = (K b []).map (ids ++ ·)) → ∀ b ids, c.tm fs K b ids = (c.tm fs K b []).map (ids ++ ·)) ∧ ∀ (l : List Sh) b ids, tmL fs l b ids = (tmL fs l b []).map (ids ++ ·) := by
  refine Sh.ind2 (fun h subs _ K hK b ids => ?_) (fun b ids => by rw [tmL_nil, tmL_nil]; simp) (fun c r hc hr b ids => by rw [tmL_cons, tmL_cons]; exact hc _ hr b ids)
  rw [tm_mk, tm_mk]
  by_cases h1 : h.k = 1
  · rw [if_pos h1, if_pos h1, List.map_flatMap]
    congr 1
    funext f
    cases runL (flH h f.2) b with
    | none => rfl
    | some g =>
      simp only
      rw [hK g (ids ++ [f.1]), hK g ([] ++ [f.1]), List.map_map]
      congr 1
      funext x
      simp
  · rw [if_neg h1, if_neg h1]
    split
    · rfl
    · split
      · rfl
      · exact hK b ids
theorem tmL_empty (fs : List F4) (l : List Sh) (b : Bd) (ids : List Int) : (tmL fs l b ids).isEmpty = (tmL fs l b []).isEmpty := by
  rw [(tm_ids fs).2 l b ids]; simp
mutual
/-- All conditions in it have a kind, and right terms. -/
def Sh.good : Sh → Prop
  | .mk h subs => (h.k = 1 ∨ h.k = 2 → h.fine = true) ∧ (h.k = 1 ∨ h.k = 2 ∨ h.k = 3) ∧ goodL subs
def goodL : List Sh → Prop
  | [] => True
  | c :: r => c.good ∧ goodL r
end
theorem goodL_iff : ∀ {l : List Sh}, goodL l ↔ ∀ x ∈ l, x.good
  | [] => by rw [goodL]; simp
  | c :: r => by rw [goodL, goodL_iff]; simp
theorem good_mk {h : Hd} {subs : List Sh} : (Sh.mk h subs).good ↔ (h.k = 1 ∨ h.k = 2 → h.fine = true) ∧ (h.k = 1 ∨ h.k = 2 ∨ h.k = 3) ∧ ∀ x ∈ subs, x.good := by
  rw [Sh.good, goodL_iff]
theorem flatMap_congr' {α β : Type} {f g : α → List β} : ∀ {l : List α}, (∀ x ∈ l, f x = g x) → l.flatMap f = l.flatMap g
  | [], _ => rfl
  | a :: r, h => by rw [List.flatMap_cons, List.flatMap_cons, h a List.mem_cons_self, flatMap_congr' fun x hx => h x (List.mem_cons_of_mem _ hx)]
theorem chk_good : ∀ (s : Sh) (d : Int), s.chk d = 0 → s.good := by
  refine Sh.ind fun h subs ih d hd => good_mk.2 ?_
  unfold Sh.chk at hd
  by_cases h3d : 3 < d
  · rw [if_pos h3d] at hd; omega
  rw [if_neg h3d] at hd
  by_cases h3 : h.k = 3
  · rw [if_pos h3] at hd
    refine ⟨fun a => by omega, .inr (.inr h3), fun x hx => ?_⟩
    split at hd
    · omega
    · split at hd
      · omega
      · exact ih x hx (d + 1) (chkL_all.1 hd x hx)
  rw [if_neg h3] at hd
  by_cases h12 : h.k = 1 ∨ h.k = 2
  · rw [if_pos h12] at hd
    split at hd
    · omega
    · rename_i hf
      split at hd
      · omega
      · rename_i hl
        refine ⟨fun _ => by simpa using hf, h12.imp id .inl, fun x hx => ?_⟩
        have : subs = [] := List.length_eq_zero_iff.1 (by omega)
        rw [this] at hx; cases hx
  · rw [if_neg h12] at hd; omega
theorem stepH_k (ch : List Sh) (h : Hd) : (stepH ch h).k = h.k := rfl
/-- The matches of the steps of conditions are those of their terms. -/
theorem steps_terms {fs : List F4} (hfs : ∀ f ∈ fs, okT f.2 = true) : (∀ (c : Sh), c.good → ∀ (K : List F4 → List (List Int)) (K' : Bd → List Int → List (List Int)) (ch : List Sh) (cs : List F4) (b : Bd), Inv ch (cs.map Prod.snd) b →
      (∀ cs' b', Inv (ch ++ [c]) (cs'.map Prod.snd) b' → K cs' = K' b' (cs'.map Prod.fst)) → (c.st ch).sm fs K cs = c.tm fs K' b (cs.map Prod.fst)) ∧
    ∀ (l : List Sh), (∀ x ∈ l, x.good) → ∀ (ch : List Sh) (cs : List F4) (b : Bd), Inv ch (cs.map Prod.snd) b → smL fs (stL l ch) cs = tmL fs l b (cs.map Prod.fst) := by
  refine Sh.ind2 (fun h subs hsub hg K K' ch cs b I hK => ?_) (fun _ ch cs b _ => by rw [stL_nil, smL_nil, tmL_nil]) (fun c r hc hr hg ch cs b I => ?_)
  · obtain ⟨hf, hk, hs⟩ := good_mk.1 hg
    rcases hk with h1 | h2 | h3
    · have h12 : h.k = 1 ∨ h.k = 2 := .inl h1
      have e1 : ((Sh.mk h subs).st ch).sm fs K cs = fs.flatMap fun f => if meetH (stepH ch h) (cs.map Prod.snd) f.2 then K (cs ++ [f]) else [] := by
        rw [st_mk, if_neg (by omega), sm_mk, if_pos (show (stepH ch h).k = 1 from h1)]
      rw [e1, tm_mk, if_pos h1]
      refine flatMap_congr' fun f hfm => ?_
      rw [← fit_meets I h12 (hf h12) (hfs f hfm)]
      unfold fitOk
      cases hr : runL (flH h f.2) b with
      | none => rfl
      | some g =>
        simp only [Option.isSome_some, if_true]
        rw [hK (cs ++ [f]) g (by rw [List.map_append]; exact I.more h1 (hf h12) (hfs f hfm) hr), List.map_append]
        rfl
    · have h12 : h.k = 1 ∨ h.k = 2 := .inr h2
      have ha : (fs.any fun f => meetH (stepH ch h) (cs.map Prod.snd) f.2) = fs.any fun f => fitOk (flH h f.2) b := by
        rw [Bool.eq_iff_iff, List.any_eq_true, List.any_eq_true]
        exact ⟨fun ⟨f, hfm, e⟩ => ⟨f, hfm, by rw [fit_meets I h12 (hf h12) (hfs f hfm)]; exact e⟩, fun ⟨f, hfm, e⟩ => ⟨f, hfm, by rw [← fit_meets I h12 (hf h12) (hfs f hfm)]; exact e⟩⟩
      have e1 : ((Sh.mk h subs).st ch).sm fs K cs = if (fs.any fun f => meetH (stepH ch h) (cs.map Prod.snd) f.2) = true then [] else K cs := by
        rw [st_mk, if_neg (by omega), sm_mk, if_neg (show ¬ (stepH ch h).k = 1 from by show ¬ h.k = 1; omega)]
        by_cases hx : (fs.any fun f => meetH (stepH ch h) (cs.map Prod.snd) f.2) = true
        · rw [if_pos (show (stepH ch h).k = 2 ∧ _ from ⟨h2, hx⟩), if_pos hx]
        · rw [if_neg (show ¬ ((stepH ch h).k = 2 ∧ _) from fun a => hx a.2), if_neg (show ¬ ((stepH ch h).k = 3 ∧ _) from fun a => by have : h.k = 3 := a.1; omega), if_neg hx]
      have e2 : (Sh.mk h subs).tm fs K' b (cs.map Prod.fst) = if (fs.any fun f => fitOk (flH h f.2) b) = true then [] else K' b (cs.map Prod.fst) := by
        rw [tm_mk, if_neg (by omega)]
        by_cases hx : (fs.any fun f => fitOk (flH h f.2) b) = true
        · rw [if_pos ⟨h2, hx⟩, if_pos hx]
        · rw [if_neg (fun a => hx a.2), if_neg (fun a => by omega), if_neg hx]
      rw [e1, e2, ha, hK cs b (I.skip (by omega))]
    · have e1 : ((Sh.mk h subs).st ch).sm fs K cs = if (smL fs (stL subs ch) cs).isEmpty = false then [] else K cs := by
        rw [st_mk, if_pos h3, sm_mk]
        simp only [h3]
        simp
      have e2 : (Sh.mk h subs).tm fs K' b (cs.map Prod.fst) = if (tmL fs subs b []).isEmpty = false then [] else K' b (cs.map Prod.fst) := by
        rw [tm_mk]
        simp only [h3]
        simp
      rw [e1, e2, hsub hs ch cs b I, tmL_empty fs subs b (cs.map Prod.fst), hK cs b (I.skip (by omega))]
  · rw [stL_cons, smL_cons, tmL_cons]
    exact hc (hg c List.mem_cons_self) _ _ ch cs b I fun cs' b' I' => hr (fun x hx => hg x (List.mem_cons_of_mem _ hx)) (ch ++ [c]) cs' b' I'
/-! ### How many -/
mutual
/-- How many Pos there are, in a condition and in those in it. -/
def Sh.posA : Sh → Nat
  | .mk h subs => (if h.k = 1 then 1 else 0) + posAL subs
def posAL : List Sh → Nat
  | [] => 0
  | c :: r => c.posA + posAL r
end
theorem posA_mk (h : Hd) (subs : List Sh) : (Sh.mk h subs).posA = (if h.k = 1 then 1 else 0) + posAL subs := by rw [Sh.posA]
theorem posAL_nil : posAL [] = 0 := by rw [posAL]
theorem posAL_cons (c : Sh) (r : List Sh) : posAL (c :: r) = c.posA + posAL r := by rw [posAL]
theorem posAL_append : ∀ a b : List Sh, posAL (a ++ b) = posAL a + posAL b
  | [], b => by rw [posAL_nil]; simp
  | x :: r, b => by rw [List.cons_append, posAL_cons, posAL_cons, posAL_append r b]; omega
theorem posAL_take_succ {l : List Sh} {j : Nat} {x : Sh} (h : l[j]? = some x) : posAL (l.take (j + 1)) = posAL (l.take j) + x.posA := by
  rw [List.take_add_one, h, posAL_append]
  show _ + posAL [x] = _
  rw [posAL_cons, posAL_nil]; rfl
theorem posA_le : (∀ s : Sh, s.posA ≤ s.count) ∧ ∀ l, posAL l ≤ countL l := by
  refine Sh.ind2 (fun h subs ih => ?_) (by rw [posAL_nil]; exact Nat.zero_le _) (fun a l ha hl => ?_)
  · rw [posA_mk, Sh.count]; split <;> omega
  · rw [posAL_cons, countL]; omega
theorem flatMap_len {α β : Type} {f : α → List β} {N : Nat} : ∀ {l : List α}, (∀ x ∈ l, (f x).length ≤ N) → (l.flatMap f).length ≤ l.length * N
  | [], _ => by simp
  | a :: r, h => by
    rw [List.flatMap_cons, List.length_append, List.length_cons, Nat.add_mul, Nat.one_mul]
    have h1 := h a List.mem_cons_self
    have h2 := flatMap_len fun x hx => h x (List.mem_cons_of_mem _ hx)
    omega
theorem pow_pos' (n k : Nat) : 1 ≤ (n + 1) ^ k := Nat.one_le_pow _ _ (Nat.succ_pos _)
/-- There are no more matches than choices. -/
theorem tm_len (fs : List F4) : (∀ (c : Sh) (K : Bd → List Int → List (List Int)) (N : Nat), (∀ b ids, (K b ids).length ≤ N) → ∀ b ids, (c.tm fs K b ids).length ≤ (fs.length + 1) ^ c.posA * N) ∧ ∀ (l : List Sh) b ids, (tmL fs l b ids).length ≤ (fs.length + 1) ^ posAL l := by
  refine Sh.ind2 (fun h subs _ K N hK b ids => ?_) (fun b ids => by rw [tmL_nil, posAL_nil]; simp) (fun c r hc hr b ids => ?_)
  · rw [tm_mk, posA_mk]
    have hN : N ≤ (fs.length + 1) ^ ((if h.k = 1 then 1 else 0) + posAL subs) * N := Nat.le_mul_of_pos_left _ (pow_pos' _ _)
    by_cases h1 : h.k = 1
    · rw [if_pos h1]
      have hb : ∀ f ∈ fs, (match runL (flH h f.2) b with | some g => K g (ids ++ [f.1]) | none => []).length ≤ N := fun f _ => by
        cases runL (flH h f.2) b with
        | none => exact Nat.zero_le _
        | some g => exact hK _ _
      refine Nat.le_trans (flatMap_len hb) (Nat.mul_le_mul_right N ?_)
      rw [if_pos h1, Nat.pow_add, Nat.pow_one]
      exact Nat.le_trans (Nat.le_succ _) (Nat.le_mul_of_pos_right _ (pow_pos' _ _))
    · rw [if_neg h1]
      split
      · exact Nat.zero_le _
      · split
        · exact Nat.zero_le _
        · rw [if_neg h1] at hN; exact Nat.le_trans (hK b ids) hN
  · rw [tmL_cons, posAL_cons, Nat.pow_add]
    exact hc _ _ hr b ids
theorem posA_sub {h : Hd} {subs : List Sh} : posAL subs ≤ (Sh.mk h subs).posA := by rw [posA_mk]; omega
theorem posA_mem {l : List Sh} {s : Sh} (h : s ∈ l) : s.posA ≤ posAL l := by
  induction l with
  | nil => cases h
  | cons a r ih =>
    rw [posAL_cons]
    rcases List.mem_cons.1 h with rfl | h
    · omega
    · have := ih h; omega
/-- The choices' number is small. -/
def costOk (n : Nat) (l : List Sh) : Bool := decide ((n + 1) ^ posAL l ≤ 3000)
theorem pow_le_of (n : Nat) {a b : Nat} (h : a ≤ b) : (n + 1) ^ a ≤ (n + 1) ^ b := Nat.pow_le_pow_right (Nat.succ_pos _) h
end
section
open Go.RowKit
set_option maxRecDepth 100000

mutual
/-- How many Pos there are, in a step and in those in it. -/
def St.posS : St → Nat
  | .mk h subs => (if h.k = 1 then 1 else 0) + posSL subs
def posSL : List St → Nat
  | [] => 0
  | c :: r => c.posS + posSL r
end
theorem posS_mk (h : SH) (subs : List St) : (St.mk h subs).posS = (if h.k = 1 then 1 else 0) + posSL subs := by rw [St.posS]
theorem posSL_nil : posSL [] = 0 := by rw [posSL]
theorem posSL_cons (c : St) (r : List St) : posSL (c :: r) = c.posS + posSL r := by rw [posSL]
theorem posSL_append : ∀ a b : List St, posSL (a ++ b) = posSL a + posSL b
  | [], b => by rw [posSL_nil]; simp
  | x :: r, b => by rw [List.cons_append, posSL_cons, posSL_cons, posSL_append r b]; omega
theorem posSL_take (l : List St) (n : Nat) : posSL (l.take n) ≤ posSL l := by
  have := posSL_append (l.take n) (l.drop n)
  rw [List.take_append_drop] at this
  omega
theorem posS_sub {h : SH} {subs : List St} : posSL subs ≤ (St.mk h subs).posS := by rw [posS_mk]; omega
/-- There are no more matches than choices. -/
theorem sm_len (fs : List F4) : (∀ (c : St) (K : List F4 → List (List Int)) (N : Nat), (∀ ch, (K ch).length ≤ N) → ∀ ch, (c.sm fs K ch).length ≤ (fs.length + 1) ^ c.posS * N) ∧ ∀ (l : List St) ch, (smL fs l ch).length ≤ (fs.length + 1) ^ posSL l := by
  refine St.ind2 (fun h subs _ K N hK ch => ?_) (fun ch => by rw [smL_nil, posSL_nil]; simp) (fun c r hc hr ch => ?_)
  · rw [sm_mk, posS_mk]
    have hN : N ≤ (fs.length + 1) ^ ((if h.k = 1 then 1 else 0) + posSL subs) * N := Nat.le_mul_of_pos_left _ (pow_pos' _ _)
    by_cases h1 : h.k = 1
    · rw [if_pos h1]
      have hb : ∀ f ∈ fs, (if meetH h (ch.map Prod.snd) f.2 = true then K (ch ++ [f]) else []).length ≤ N := fun f _ => by
        split
        · exact hK _
        · exact Nat.zero_le _
      refine Nat.le_trans (flatMap_len hb) (Nat.mul_le_mul_right N ?_)
      rw [if_pos h1, Nat.pow_add, Nat.pow_one]
      exact Nat.le_trans (Nat.le_succ _) (Nat.le_mul_of_pos_right _ (pow_pos' _ _))
    · rw [if_neg h1]
      rw [if_neg h1] at hN
      split
      · exact Nat.zero_le _
      · split
        · exact Nat.zero_le _
        · exact Nat.le_trans (hK ch) hN
  · rw [smL_cons, posSL_cons, Nat.pow_add]
    exact hc _ _ hr ch
mutual
/-- All steps in it have a kind, and tests whose fields are fields. -/
def St.goodS : St → Prop
  | .mk h subs => (h.k = 1 ∨ h.k = 2 ∨ h.k = 3) ∧ (∀ x ∈ h.ts, tFine x ∧ -1 ≤ x.2.1) ∧ h.ts.length ≤ 3 ∧ goodSL subs
def goodSL : List St → Prop
  | [] => True
  | c :: r => c.goodS ∧ goodSL r
end
theorem goodSL_iff : ∀ {l : List St}, goodSL l ↔ ∀ x ∈ l, x.goodS
  | [] => by rw [goodSL]; simp
  | c :: r => by rw [goodSL, goodSL_iff]; simp
theorem goodS_mk {h : SH} {subs : List St} : (St.mk h subs).goodS ↔ (h.k = 1 ∨ h.k = 2 ∨ h.k = 3) ∧ (∀ x ∈ h.ts, tFine x ∧ -1 ≤ x.2.1) ∧ h.ts.length ≤ 3 ∧ ∀ x ∈ subs, x.goodS := by
  rw [St.goodS, goodSL_iff]
/-- The steps of good conditions are good, and have as many Pos. -/
theorem st_good : (∀ (c : Sh), c.good → ∀ ch, (c.st ch).goodS ∧ (c.st ch).posS ≤ c.posA) ∧ ∀ (l : List Sh), (∀ x ∈ l, x.good) → ∀ ch, (∀ x ∈ stL l ch, x.goodS) ∧ posSL (stL l ch) ≤ posAL l := by
  refine Sh.ind2 (fun h subs ih hg ch => ?_) (fun _ ch => by rw [stL_nil, posSL_nil]; exact ⟨fun x hx => (by cases hx), Nat.zero_le _⟩) (fun c r hc hr hg ch => ?_)
  · have hf := st_fine (.mk h subs) ch
    obtain ⟨_, hk, hs⟩ := good_mk.1 hg
    rw [st_mk] at hf ⊢
    rw [posA_mk]
    by_cases h3 : h.k = 3
    · rw [if_pos h3] at hf ⊢
      obtain ⟨i1, i2⟩ := ih hs ch
      refine ⟨goodS_mk.2 ⟨.inr (.inr h3), hf.1, hf.2, i1⟩, ?_⟩
      rw [posS_mk]
      show (if h.k = 1 then 1 else 0) + _ ≤ _
      omega
    · rw [if_neg h3] at hf ⊢
      refine ⟨goodS_mk.2 ⟨hk, hf.1, hf.2, fun x hx => (by cases hx)⟩, ?_⟩
      rw [posS_mk, posSL_nil]
      show (if h.k = 1 then 1 else 0) + 0 ≤ _
      omega
  · rw [stL_cons, posSL_cons, posAL_cons]
    obtain ⟨h1, h2⟩ := hc (hg c List.mem_cons_self) ch
    obtain ⟨h3, h4⟩ := hr (fun x hx => hg x (List.mem_cons_of_mem _ hx)) (ch ++ [c])
    refine ⟨fun x hx => ?_, by omega⟩
    rcases List.mem_cons.1 hx with rfl | hx
    · exact h1
    · exact h3 x hx
end
section
open Go.RowKit
set_option maxRecDepth 100000

/-- What is handed on: how many steps, and what is chosen. -/
abbrev Ev := Nat × List F4
/-- There is what a Neg or an Ncc asks that there isn't. -/
def stopB (fs : List F4) (s : St) (ch : List F4) : Bool :=
  if s.hd.k = 3 then !(smL fs s.subs ch).isEmpty else fs.any fun f => meetH s.hd (ch.map Prod.snd) f.2
/-- What is handed on behind a step, for a Pos from the u-th fact on. -/
def nxt (fs : List F4) (s : St) (ch : List F4) (u : Nat) (K : List F4 → List Ev) : List Ev :=
  if s.hd.k = 1 then (fs.drop u).flatMap fun f => if meetH s.hd (ch.map Prod.snd) f.2 then K (ch ++ [f]) else []
  else if stopB fs s ch then [] else K ch
def evL (fs : List F4) : List St → Nat → List F4 → List Ev
  | [], n, ch => [(n, ch)]
  | s :: r, n, ch => (n, ch) :: nxt fs s ch 0 (evL fs r (n + 1))
theorem evL_nil (fs : List F4) (n : Nat) (ch : List F4) : evL fs [] n ch = [(n, ch)] := rfl
theorem evL_cons (fs : List F4) (s : St) (r : List St) (n : Nat) (ch : List F4) : evL fs (s :: r) n ch = (n, ch) :: nxt fs s ch 0 (evL fs r (n + 1)) := rfl
/-- A step has a kind. -/
def kindS (s : St) : Prop := s.hd.k = 1 ∨ s.hd.k = 2 ∨ s.hd.k = 3
theorem St.goodS.kind {s : St} (h : s.goodS) : kindS s := by
  obtain ⟨h', subs⟩ := s
  exact (goodS_mk.1 h).1
theorem sm_nxt {fs : List F4} {s : St} (hk : kindS s) (K : List F4 → List (List Int)) (ch : List F4) : s.sm fs K ch = if s.hd.k = 1 then fs.flatMap (fun f => if meetH s.hd (ch.map Prod.snd) f.2 then K (ch ++ [f]) else []) else if stopB fs s ch then [] else K ch := by
  obtain ⟨h, subs⟩ := s
  have hk' : h.k = 1 ∨ h.k = 2 ∨ h.k = 3 := hk
  rw [sm_mk]
  have e1 : (St.mk h subs).hd = h := rfl
  have e2 : (St.mk h subs).subs = subs := rfl
  unfold stopB
  rw [e1, e2]
  rcases hk' with h1 | h2 | h3
  · rw [if_pos h1, if_pos h1]
  · simp only [h2]
    simp only [true_and]
    simp
  · simp only [h3]
    simp
theorem nxt_mem {fs : List F4} {s : St} {ch : List F4} {u : Nat} {K : List F4 → List Ev} {e : Ev} (h : e ∈ nxt fs s ch u K) : ∃ ch', e ∈ K ch' := by
  unfold nxt at h
  split at h
  · obtain ⟨f, _, h⟩ := List.mem_flatMap.1 h
    split at h
    · exact ⟨_, h⟩
    · cases h
  · split at h
    · cases h
    · exact ⟨_, h⟩
theorem ev_ge {fs : List F4} : ∀ (l : List St) (n : Nat) (ch : List F4) (e : Ev), e ∈ evL fs l n ch → n ≤ e.1 ∧ e.1 ≤ n + l.length
  | [], n, ch, e, h => by rw [evL_nil] at h; rw [List.mem_singleton.1 h]; exact ⟨Nat.le_refl _, Nat.le_add_right _ _⟩
  | s :: r, n, ch, e, h => by
    rw [evL_cons] at h
    rcases List.mem_cons.1 h with rfl | h
    · exact ⟨Nat.le_refl _, Nat.le_add_right _ _⟩
    · obtain ⟨ch', h⟩ := nxt_mem h
      have := ev_ge r (n + 1) ch' e h
      rw [List.length_cons]; omega
theorem nxt_pick {fs : List F4} {s : St} (hk : kindS s) {ch : List F4} {K : List F4 → List Ev} {K' : List F4 → List (List Int)} {p : Ev → Bool} {g : Ev → List Int} (h : ∀ ch, ((K ch).filter p).map g = K' ch) : ((nxt fs s ch 0 K).filter p).map g = s.sm fs K' ch := by
  rw [sm_nxt hk]
  unfold nxt
  by_cases h1 : s.hd.k = 1
  · rw [if_pos h1, if_pos h1, List.drop_zero, List.filter_flatMap, List.map_flatMap]
    refine flatMap_congr' fun f _ => ?_
    by_cases hm : meetH s.hd (ch.map Prod.snd) f.2 = true
    · rw [if_pos hm, if_pos hm]; exact h _
    · rw [if_neg hm, if_neg hm]; rfl
  · rw [if_neg h1, if_neg h1]
    by_cases hs : stopB fs s ch = true
    · rw [if_pos hs, if_pos hs]; rfl
    · rw [if_neg hs, if_neg hs]; exact h _
/-- Those with just so many steps are the matches of so many steps. -/
theorem ev_take {fs : List F4} : ∀ (l : List St), (∀ x ∈ l, kindS x) → ∀ (k n : Nat) (ch : List F4), k ≤ l.length → ((evL fs l n ch).filter fun e => e.1 == n + k).map (fun e => e.2.map Prod.fst) = smL fs (l.take k) ch
  | [], _, k, n, ch, hk => by
    obtain rfl : k = 0 := by simpa using hk
    rw [evL_nil, List.take_nil, smL_nil]
    simp
  | s :: r, hg, k, n, ch, hk => by
    rw [evL_cons]
    cases k with
    | zero =>
      rw [List.take_zero, smL_nil, List.filter_cons_of_pos (by simp), List.map_cons]
      have : (nxt fs s ch 0 (evL fs r (n + 1))).filter (fun e => e.1 == n + 0) = [] := by
        rw [List.filter_eq_nil_iff]
        intro e he
        obtain ⟨ch', he⟩ := nxt_mem he
        have := (ev_ge r (n + 1) ch' e he).1
        simp; omega
      rw [this]; rfl
    | succ k =>
      rw [List.take_succ_cons, smL_cons, List.filter_cons_of_neg (by simp)]
      refine nxt_pick (hg s List.mem_cons_self) fun ch' => ?_
      have := ev_take (fs := fs) r (fun x hx => hg x (List.mem_cons_of_mem _ hx)) k (n + 1) ch' (by simpa using hk)
      rw [← this]
      congr 2
      funext e
      rw [show n + (k + 1) = n + 1 + k by omega]
/-- .. all of them. -/
theorem ev_all {fs : List F4} {l : List St} (hg : ∀ x ∈ l, kindS x) (ch : List F4) : ((evL fs l 0 ch).filter fun e => e.1 == l.length).map (fun e => e.2.map Prod.fst) = smL fs l ch := by
  have := ev_take (fs := fs) l hg l.length 0 ch (Nat.le_refl _)
  rw [List.take_length] at this
  rw [← this]
  congr 2
  funext e
  rw [Nat.zero_add]
theorem ev_any {fs : List F4} {l : List St} (hg : ∀ x ∈ l, kindS x) (ch : List F4) : ((evL fs l 0 ch).any fun e => e.1 == l.length) = !(smL fs l ch).isEmpty := by
  rw [← ev_all hg ch, Bool.eq_iff_iff, List.any_eq_true]
  constructor
  · rintro ⟨e, h1, h2⟩
    simp only [Bool.not_eq_true', List.isEmpty_eq_false_iff]
    exact List.ne_nil_of_mem (List.mem_map_of_mem (List.mem_filter.2 ⟨h1, h2⟩))
  · intro h
    simp only [Bool.not_eq_true', List.isEmpty_eq_false_iff] at h
    obtain ⟨x, hx⟩ := List.exists_mem_of_ne_nil _ h
    obtain ⟨e, he, _⟩ := List.mem_map.1 hx
    exact ⟨e, (List.mem_filter.1 he).1, (List.mem_filter.1 he).2⟩

/-! ### Till no more is wanted -/
def upto (more : Ev → Bool) : List Ev → List Ev
  | [] => []
  | e :: r => if more e then e :: upto more r else [e]
theorem upto_all {more : Ev → Bool} : ∀ {E : List Ev}, (∀ e ∈ E, more e = true) → upto more E = E
  | [], _ => rfl
  | e :: r, h => by rw [upto, if_pos (h e List.mem_cons_self), upto_all fun x hx => h x (List.mem_cons_of_mem _ hx)]
theorem upto_stop {more : Ev → Bool} {e : Ev} {r : List Ev} (he : more e = false) : ∀ {D : List Ev}, (∀ x ∈ D, more x = true) → upto more (D ++ e :: r) = D ++ [e]
  | [], _ => by rw [List.nil_append, upto, if_neg (by rw [he]; decide)]; rfl
  | x :: D, h => by rw [List.cons_append, upto, if_pos (h x List.mem_cons_self), upto_stop he fun y hy => h y (List.mem_cons_of_mem _ hy), List.cons_append]
theorem upto_any {p : Ev → Bool} : ∀ E : List Ev, (upto (fun e => !p e) E).any p = E.any p
  | [] => rfl
  | e :: r => by
    rw [upto]
    cases h : p e
    · rw [if_pos (by rfl), List.any_cons, List.any_cons, upto_any r]
    · rw [if_neg (by simp), List.any_cons, List.any_cons, h]; rfl

/-! ### The list of choices -/
/-- Choices, the last one first: at which step which fact, and the fact. -/
abbrev Stk := List (Nat × Nat × F4)
def chOf (b0 : List F4) : Stk → List F4
  | [] => b0
  | c :: r => chOf b0 r ++ [c.2.2]
def idsOf : Stk → List Int
  | [] => []
  | c :: r => idsOf r ++ [c.2.2.1]
def hOf : Stk → List (Int × Int)
  | [] => []
  | c :: r => hOf r ++ [((c.1 : Int), (c.2.1 : Int))]
theorem chOf_app (b0 : List F4) : ∀ s : Stk, chOf b0 s = b0 ++ chOf [] s
  | [] => by simp [chOf]
  | c :: r => by rw [chOf, chOf, chOf_app b0 r, List.append_assoc]
theorem idsOf_ch : ∀ s : Stk, (chOf [] s).map Prod.fst = idsOf s
  | [] => rfl
  | c :: r => by rw [chOf, idsOf, List.map_append, idsOf_ch r]; rfl
theorem ids_drop (b0 : List F4) (s : Stk) : ((chOf b0 s).drop b0.length).map Prod.fst = idsOf s := by
  rw [chOf_app, List.drop_left, idsOf_ch]
theorem idsOf_len : ∀ s : Stk, (idsOf s).length = s.length
  | [] => rfl
  | c :: r => by rw [idsOf, List.length_append, idsOf_len r]; rfl
theorem hOf_len : ∀ s : Stk, (hOf s).length = s.length
  | [] => rfl
  | c :: r => by rw [hOf, List.length_append, hOf_len r]; rfl
theorem chOf_len (b0 : List F4) : ∀ s : Stk, (chOf b0 s).length = b0.length + s.length
  | [] => rfl
  | c :: r => by rw [chOf, List.length_append, chOf_len b0 r]; rfl
/-- What is handed on behind so many steps, for a Pos from the u-th fact on. -/
def kidsAt (fs : List F4) (l : List St) (n : Nat) (ch : List F4) (u : Nat) : List Ev := match l[n]? with
  | none => []
  | some s => nxt fs s ch u (evL fs (l.drop (n + 1)) (n + 1))
def todo (fs : List F4) (l : List St) (b0 : List F4) : Stk → List Ev
  | [] => []
  | c :: r => kidsAt fs l c.1 (chOf b0 r) (c.2.1 + 1) ++ todo fs l b0 r
theorem ev_kids {fs : List F4} {l : List St} {n : Nat} {ch : List F4} : n ≤ l.length → evL fs (l.drop n) n ch = (n, ch) :: kidsAt fs l n ch 0 := by
  intro h
  unfold kidsAt
  rcases Nat.lt_or_ge n l.length with hn | hn
  · rw [List.drop_eq_getElem_cons hn, evL_cons, List.getElem?_eq_getElem hn]
  · rw [List.drop_eq_nil_of_le hn, List.getElem?_eq_none hn]; rfl
theorem kids_some {fs : List F4} {l : List St} {n : Nat} {ch : List F4} {u : Nat} {s : St} (h : l[n]? = some s) : kidsAt fs l n ch u = nxt fs s ch u (evL fs (l.drop (n + 1)) (n + 1)) := by unfold kidsAt; rw [h]
theorem kids_none {fs : List F4} {l : List St} {n : Nat} {ch : List F4} {u : Nat} (h : l.length ≤ n) : kidsAt fs l n ch u = [] := by unfold kidsAt; rw [List.getElem?_eq_none h]
theorem nxt_end {fs : List F4} {s : St} {ch : List F4} {u : Nat} {K : List F4 → List Ev} (hk : s.hd.k = 1) (h : fs.length ≤ u) : nxt fs s ch u K = [] := by
  unfold nxt
  rw [if_pos hk, List.drop_eq_nil_of_le h]; rfl
theorem nxt_skip {fs : List F4} {s : St} {ch : List F4} {u : Nat} {K : List F4 → List Ev} {f : F4} (hk : s.hd.k = 1) (hf : fs[u]? = some f) (hm : meetH s.hd (ch.map Prod.snd) f.2 = false) : nxt fs s ch u K = nxt fs s ch (u + 1) K := by
  unfold nxt
  obtain ⟨hl, e⟩ := List.getElem?_eq_some_iff.1 hf
  rw [if_pos hk, if_pos hk, List.drop_eq_getElem_cons hl, e, List.flatMap_cons, if_neg (by rw [hm]; decide)]; rfl
theorem nxt_hit {fs : List F4} {s : St} {ch : List F4} {u : Nat} {K : List F4 → List Ev} {f : F4} (hk : s.hd.k = 1) (hf : fs[u]? = some f) (hm : meetH s.hd (ch.map Prod.snd) f.2 = true) : nxt fs s ch u K = K (ch ++ [f]) ++ nxt fs s ch (u + 1) K := by
  unfold nxt
  obtain ⟨hl, e⟩ := List.getElem?_eq_some_iff.1 hf
  rw [if_pos hk, if_pos hk, List.drop_eq_getElem_cons hl, e, List.flatMap_cons, if_pos hm]
theorem nxt_stop {fs : List F4} {s : St} {ch : List F4} {u : Nat} {K : List F4 → List Ev} (hk : s.hd.k ≠ 1) : nxt fs s ch u K = if stopB fs s ch then [] else K ch := by
  unfold nxt
  rw [if_neg hk]
/-- The choices fit: each at a Pos ahead of what comes, each of a fact. -/
def WfS (fs : List F4) (l : List St) : Nat → Stk → Prop
  | _, [] => True
  | n, c :: r => c.1 < n ∧ (∃ s, l[c.1]? = some s ∧ s.hd.k = 1) ∧ fs[c.2.1]? = some c.2.2 ∧ WfS fs l c.1 r
theorem WfS.mono {fs : List F4} {l : List St} {n m : Nat} {s : Stk} (h : WfS fs l n s) (hm : n ≤ m) : WfS fs l m s := by
  cases s with
  | nil => trivial
  | cons c r => exact ⟨Nat.lt_of_lt_of_le h.1 hm, h.2⟩
theorem WfS.len {fs : List F4} {l : List St} : ∀ {n : Nat} {s : Stk}, WfS fs l n s → s.length ≤ n
  | _, [], _ => Nat.zero_le _
  | n, c :: r, h => by
    have := h.2.2.2.len
    have := h.1
    rw [List.length_cons]; omega

/-! ### Sizes of good steps -/
theorem mass_good : (∀ s : St, s.goodS → s.mass ≤ 4 * s.cnt) ∧ ∀ l : List St, (∀ x ∈ l, x.goodS) → massL l ≤ 4 * cntL l := by
  refine St.ind2 (fun h subs ih hg => ?_) (fun _ => Nat.zero_le _) (fun a l ha hl hg => ?_)
  · obtain ⟨_, _, h3, h4⟩ := goodS_mk.1 hg
    have := ih h4
    rw [St.mass, St.cnt]; omega
  · have := ha (hg a List.mem_cons_self)
    have := hl fun x hx => hg x (List.mem_cons_of_mem _ hx)
    rw [massL, cntL]; omega
/-- A good step that may stand in a chain. -/
def St.okS (s : St) : Prop := s.goodS ∧ s.right = true
theorem St.okS.cnt {s : St} (h : s.okS) : s.cnt ≤ 16 := by
  have := h.2
  unfold St.right at this
  simp only [Bool.and_eq_true, decide_eq_true_iff] at this
  exact this.2
theorem St.okS.mass {s : St} (h : s.okS) : s.mass ≤ 64 := by
  have := mass_good.1 s h.1
  have := h.cnt
  omega
theorem cntL_okS : ∀ {l : List St}, (∀ x ∈ l, x.okS) → cntL l ≤ 16 * l.length
  | [], _ => Nat.zero_le _
  | a :: r, h => by
    have := cntL_okS fun x hx => h x (List.mem_cons_of_mem _ hx)
    have := (h a List.mem_cons_self).cnt
    rw [cntL, List.length_cons]; omega
end
section
open Go.RowKit

/-- Elements that lie at a slice. -/
def In {α : Type} (cells : α → List Value) (size : Nat) (w : World) (a : Option Addr) (len : Nat) (xs : List α) : Prop :=
  xs.length = len ∧ (len = 0 ∨ ∃ b off, a = some ⟨b, off, none⟩ ∧ b < w.heap.size ∧ ∀ j x i v, xs[j]? = some x → (cells x)[i]? = some v → w.cell? ⟨b, off + j * size + i, none⟩ = some v)
/-- A number's cells. -/
def cN (x : Int) : List Value := [.int .i64 x]
section
variable {α : Type} {cells : α → List Value} {size : Nat} {w w' : World} {a : Option Addr} {len cap : Nat} {xs : List α}
theorem In.kept (h : In cells size w a len xs) (hk : Kept Nil w w') : In cells size w' a len xs :=
  ⟨h.1, h.2.imp id fun ⟨b, off, e, hb, hc⟩ => ⟨b, off, e, Nat.lt_of_lt_of_le hb hk.size, fun j x i v hj hi => (hk.cell (p := ⟨b, off + j * size + i, none⟩) hb (fun e => e)).trans (hc j x i v hj hi)⟩⟩
/-- .. where the block that they lie in stays. -/
theorem In.keptF {F : Nat → Prop} (h : In cells size w a len xs) (hk : Kept F w w') (hF : ∀ b, (Value.slice a len cap).ownBlock = some b → ¬ F b) : In cells size w' a len xs :=
  ⟨h.1, h.2.imp id fun ⟨b, off, e, hb, hc⟩ => ⟨b, off, e, Nat.lt_of_lt_of_le hb hk.size, fun j x i v hj hi => (hk.cell (p := ⟨b, off + j * size + i, none⟩) hb (hF b (by rw [e]; rfl))).trans (hc j x i v hj hi)⟩⟩
theorem In.at_ (h : In cells size w a len xs) {j : Nat} {x : α} (hj : xs[j]? = some x) : ∃ b off, a = some ⟨b, off, none⟩ ∧ b < w.heap.size ∧ ∀ i v, (cells x)[i]? = some v → w.cell? ⟨b, off + j * size + i, none⟩ = some v := by
  rcases h.2 with e | ⟨b, off, e, hb, hc⟩
  · have := h.1
    rw [e] at this
    rw [List.length_eq_zero_iff.1 this] at hj; cases hj
  · exact ⟨b, off, e, hb, fun i v hi => hc j x i v hj hi⟩
theorem flat_len (hsz : ∀ x, (cells x).length = size) : ∀ l : List α, (l.flatMap cells).length = l.length * size
  | [] => by simp
  | x :: r => by rw [List.flatMap_cons, List.length_append, hsz, flat_len hsz r, List.length_cons, Nat.add_mul]; omega
theorem flat_get (hsz : ∀ x, (cells x).length = size) : ∀ (l : List α) (i j : Nat) (x : α), l[i]? = some x → j < size → (l.flatMap cells)[i * size + j]? = (cells x)[j]?
  | [], i, j, x, h, _ => by simp at h
  | y :: r, 0, j, x, h, hj => by
    simp only [List.getElem?_cons_zero, Option.some.injEq] at h
    subst h
    rw [List.flatMap_cons, Nat.zero_mul, Nat.zero_add, List.getElem?_append_left (by rw [hsz]; exact hj)]
  | y :: r, i + 1, j, x, h, hj => by
    rw [List.flatMap_cons, List.getElem?_append_right (by rw [hsz, Nat.add_mul]; omega), hsz, show (i + 1) * size + j - size = i * size + j by rw [Nat.add_mul]; omega]
    exact flat_get hsz r i j x (by simpa using h) hj
theorem In.toAt (h : In cells size w a len xs) (hsz : ∀ x, (cells x).length = size) (hs : 0 < size) : At w (.slice a len cap) len (xs.flatMap cells) := by
  refine ⟨a, cap, rfl, ?_⟩
  rcases h.2 with e | ⟨b, off, e, hb, hc⟩
  · left
    have := h.1
    rw [e] at this
    rw [List.length_eq_zero_iff.1 this]; rfl
  · refine .inr ⟨b, off, e, fun j v hj => ?_⟩
    have hl := (List.getElem?_eq_some_iff.1 hj).1
    rw [flat_len hsz] at hl
    have hd : j / size < xs.length := Nat.div_lt_of_lt_mul (by rw [Nat.mul_comm]; exact hl)
    obtain ⟨x, hx⟩ : ∃ x, xs[j / size]? = some x := ⟨_, List.getElem?_eq_getElem hd⟩
    have hm : j % size < size := Nat.mod_lt _ hs
    have e2 : j / size * size + j % size = j := by rw [Nat.mul_comm]; exact Nat.div_add_mod j size
    have := flat_get hsz xs (j / size) (j % size) x hx hm
    rw [e2, hj] at this
    have := hc _ x _ v hx this.symm
    rwa [Nat.add_assoc, e2] at this
/-- A row of a call's own. -/
theorem In.own {B : Nat} {e : TypeId} (h : w.ownsRow B e size (.slice a len cap) len (xs.flatMap cells)) (hsz : ∀ x, (cells x).length = size) (hs : 0 < size) : In cells size w a len xs := by
  have hl : xs.length = len := by
    have := h.1
    rw [flat_len hsz] at this
    exact Nat.eq_of_mul_eq_mul_right hs this
  refine ⟨hl, ?_⟩
  rcases h.2 with ⟨e1, e0⟩ | ⟨g, c, cur, e1, hb, hg, _⟩
  · exact .inl e0
  · cases e1
    refine .inr ⟨g, 0, rfl, (Array.getElem?_eq_some_iff.1 hg).1, fun j x i v hj hi => ?_⟩
    have hi' : i < size := by rw [← hsz x]; exact (List.getElem?_eq_some_iff.1 hi).1
    have := h.cells (g := g) rfl (j * size + i) v (by rw [flat_get hsz xs j i x hj hi']; exact hi)
    rw [Addr.add_mid] at this
    rw [Nat.add_assoc]
    exact this
end
theorem cN_len (x : Int) : (cN x).length = 1 := rfl
theorem cN_one (x : Int) : ∀ v ∈ cN x, v.oneCell' = true := fun v hv => by
  simp only [cN, List.mem_cons, List.not_mem_nil, or_false] at hv
  subst hv; rfl
theorem flatN_one (l : List Int) : ∀ u ∈ l.flatMap cN, u.oneCell' = true := by
  intro u hu
  obtain ⟨x, _, hx⟩ := List.mem_flatMap.1 hu
  exact cN_one x u hx
/-- A row of a call's own that holds elements. -/
def Row {α : Type} (cells : α → List Value) (e : TypeId) (size : Nat) (w : World) (B : Nat) (v : Value) (l : List α) : Prop := w.ownsRow B e size v l.length (l.flatMap cells)
section
variable {α : Type} {cells : α → List Value} {e : TypeId} {size : Nat} {w w' : World} {B : Nat} {v : Value} {l : List α}
theorem Row.shape (h : Row cells e size w B v l) : ∃ a cap, v = .slice a l.length cap := by
  rcases h.2 with ⟨e, e0⟩ | ⟨g, cap, cur, e, _⟩
  · exact ⟨none, 0, by rw [e, e0]⟩
  · exact ⟨_, _, e⟩
theorem Row.nil (w : World) (B : Nat) : Row cells e size w B (.slice none 0 0) [] := World.ownsRow_nil _ _ _ _
theorem Row.keptN (h : Row cells e size w B v l) (k : Kept Nil w w') : Row cells e size w' B v l := k.row h (fun _ _ g => g)
theorem Row.keptF {F : Nat → Prop} (h : Row cells e size w B v l) (k : Kept F w w') (hF : ∀ b, v.ownBlock = some b → ¬ F b) : Row cells e size w' B v l := k.row h hF
theorem Row.down {B' : Nat} (h : Row cells e size w B v l) (hB : B' ≤ B) : Row cells e size w B' v l := by
  refine ⟨h.1, ?_⟩
  rcases h.2 with e | ⟨g, cap, cur, e, hb, rest⟩
  · exact .inl e
  · exact .inr ⟨g, cap, cur, e, Nat.le_trans hB hb, rest⟩
theorem Row.block (h : Row cells e size w B v l) {k : Nat} (hk : v.ownBlock = some k) : ∃ cur, w.heap[k]? = some (.cells cur e (0, 0)) := by
  rcases h.2 with ⟨rfl, _⟩ | ⟨g, cap, cur, rfl, _, hg, _⟩
  · cases hk
  · cases hk; exact ⟨cur, hg⟩
theorem Row.toIn {a : Option Addr} {n cap : Nat} (h : Row cells e size w B (.slice a n cap) l) (hsz : ∀ x, (cells x).length = size) (hs : 0 < size) : In cells size w a n l := by
  obtain ⟨a', c', e'⟩ := h.shape
  have hn : n = l.length := by injection e'
  have h' := h
  unfold Row at h'
  rw [← hn] at h'
  exact In.own h' hsz hs
/-- One element more, out of a literal in new memory. -/
theorem Row.push {P : Program} {t : TypeId} (T : Els P t e size) (hsz : ∀ x, (cells x).length = size) (h1 : ∀ x, ∀ u ∈ cells x, u.oneCell' = true) (ty : TypeId) {wr : World} {n cap : Nat} {a : Option Addr} (hk : Kept Nil w wr) (h : Row cells e size wr w.heap.size (.slice a n cap) l) (hn : n = l.length) (hl : l.length ≤ 5000) (x : α) (cs : Array Value) (hcs : cs.toList = cells x) :
    ∃ a' cap' w', (Builtin.append_ #[t, t] ty #[.slice a n cap, .slice (some ⟨wr.heap.size, 0, none⟩) 1 1]).run P (wr.alloc (.cells cs e)) = .ok (.slice a' (n + 1) cap') w' ∧
      Row cells e size w' w.heap.size (.slice a' (n + 1) cap') (l ++ [x]) ∧ Kept Nil w w' ∧ Kept (fun k => (Value.slice a n cap).ownBlock = some k) wr w' := by
  subst hn
  have h2 : Row cells e size (wr.alloc (.cells cs e)) w.heap.size (.slice a l.length cap) l := h.keptN ((Kept.refl _ _).alloc _)
  obtain ⟨v', w', r, o, k, _⟩ := append_any T ty h2 (At.lit wr e cs (cells x) hcs) (by rw [hsz, Nat.one_mul]) (h1 x) (by omega) (by simp; have := hk.size; omega)
  have o2 : Row cells e size w' w.heap.size v' (l ++ [x]) := by simpa [Row] using o
  obtain ⟨a', cap', e⟩ := o2.shape
  rw [List.length_append] at e
  subst e
  exact ⟨a', cap', w', r, o2, (hk.alloc _).trans k (fun i hi e => absurd (h.lt i e).1 (Nat.not_le.2 hi)), ((Kept.refl _ _).alloc _).trans k (fun _ _ e => e)⟩
/-- All that lies at a slice, behind what is there. -/
theorem Row.pushAll {P : Program} {t : TypeId} (T : Els P t e size) (hsz : ∀ x, (cells x).length = size) (h1 : ∀ x, ∀ u ∈ cells x, u.oneCell' = true) (hs : 0 < size) (ty : TypeId) {wr : World} {n cap : Nat} {a : Option Addr} (hk : Kept Nil w wr) (h : Row cells e size wr w.heap.size (.slice a n cap) l) (hn : n = l.length) (hl : l.length ≤ 5000)
    {a2 : Option Addr} {n2 c2 : Nat} {l2 : List α} (h2 : In cells size wr a2 n2 l2) (hl2 : l2.length ≤ 5000) :
    ∃ a' cap' w', (Builtin.append_ #[t, t] ty #[.slice a n cap, .slice a2 n2 c2]).run P wr = .ok (.slice a' (n + n2) cap') w' ∧
      Row cells e size w' w.heap.size (.slice a' (n + n2) cap') (l ++ l2) ∧ Kept Nil w w' ∧ Kept (fun k => (Value.slice a n cap).ownBlock = some k) wr w' := by
  subst hn
  obtain ⟨v', w', r, o, k, _⟩ := append_any T ty h (h2.toAt (cap := c2) hsz hs) (by rw [flat_len hsz, h2.1]) (fun u hu => by obtain ⟨x, _, hx⟩ := List.mem_flatMap.1 hu; exact h1 x u hx) (by have := h2.1; omega) hk.size
  have o2 : Row cells e size w' w.heap.size v' (l ++ l2) := by
    have := h2.1
    subst this
    simpa [Row] using o
  obtain ⟨a', cap', e⟩ := o2.shape
  rw [List.length_append, h2.1] at e
  subst e
  exact ⟨a', cap', w', r, o2, hk.trans k (fun i hi e => absurd (h.lt i e).1 (Nat.not_le.2 hi)), k⟩
end
end
section
open Go.RowKit
set_option maxRecDepth 100000

/-- A triple, as a value; its cells. -/
abbrev av (t : T3) : Value := .agg #[.int .i64 t.1, .int .i64 t.2.1, .int .i64 t.2.2]
abbrev cT3 (t : T3) : List Value := [.int .i64 t.1, .int .i64 t.2.1, .int .i64 t.2.2]
theorem cT3_len (t : T3) : (cT3 t).length = 3 := rfl
theorem cT3_one (t : T3) : ∀ v ∈ cT3 t, v.oneCell' = true := fun v hv => by
  simp only [cT3, List.mem_cons, List.not_mem_nil, or_false] at hv
  rcases hv with rfl | rfl | rfl <;> rfl
theorem In.three {w : World} {a : Option Addr} {n : Nat} {l : List T3} (h : In cT3 3 w a n l) {j : Nat} {t : T3} (hj : l[j]? = some t) : ∃ b o, a = some ⟨b, o, none⟩ ∧ b < w.heap.size ∧
    w.cell? ⟨b, o + j * 3, none⟩ = some (.int .i64 t.1) ∧ w.cell? ⟨b, o + j * 3 + 1, none⟩ = some (.int .i64 t.2.1) ∧ w.cell? ⟨b, o + j * 3 + 2, none⟩ = some (.int .i64 t.2.2) := by
  obtain ⟨b, o, e, hb, hc⟩ := h.at_ hj
  exact ⟨b, o, e, hb, hc 0 _ rfl, hc 1 _ rfl, hc 2 _ rfl⟩
theorem In.head {w : World} {a : Option Addr} {n k : Nat} {l : List T3} (h : In cT3 3 w a n l) (hk : k ≤ n) : In cT3 3 w a k (l.take k) := by
  refine ⟨by rw [List.length_take, h.1]; omega, ?_⟩
  rcases h.2 with e | ⟨b, off, e, hb, hc⟩
  · exact .inl (by omega)
  · refine .inr ⟨b, off, e, hb, fun j x i v hj hi => hc j x i v ?_ hi⟩
    rw [List.getElem?_take] at hj
    split at hj
    · exact hj
    · cases hj
set_option maxHeartbeats 1000000 in
theorem has_any (t k : T3) (w : World) :
    Calls Try.prog 75 #[av t, av k] w fun e w' => e = .returned (.bool (hasK t k)) ∧ Kept Nil w w' := by
  obtain ⟨a, b, c⟩ := t
  obtain ⟨x, y, z⟩ := k
  show Calls Try.prog 75 #[.agg #[.int .i64 a, .int .i64 b, .int .i64 c], .agg #[.int .i64 x, .int .i64 y, .int .i64 z]] w _
  obtain ⟨i0, i1, i2⟩ := rightIdx (.int .i64 x) (.int .i64 y) (.int .i64 z)
  go_enter Try.func75, Try.ntmps75
  go_wp2
  go_loop [8] (fun i => i = .int .i64 0 ∨ (hasF a x = true ∧ i = .int .i64 1) ∨ (hasF a x = true ∧ hasF b y = true ∧ i = .int .i64 2) ∨ (hasF a x = true ∧ hasF b y = true ∧ hasF c z = true ∧ i = .int .i64 3)) (fun i => (3 - intOf i).toNat)
  case atStart => exact .inl rfl
  case round =>
    rcases hrel with rfl | ⟨h1, rfl⟩ | ⟨h1, h2, rfl⟩ | ⟨h1, h2, h3, rfl⟩
    · cases h : hasF a x with
      | true =>
        have hb := hasF_iff.1 h
        have H := Lib.hid h
        clear h
        by_cases h0 : x = 0
        · have n0 : (x != 0) = false := by rw [h0]; rfl
          clear h0 hb
          go_wp2
          go_round
          case rel => exact .inr (.inl ⟨trivial, rfl⟩)
          case measure => decide
        · have n0 : (x != 0) = true := bne_iff_ne.2 h0
          have n1 : (x != a) = false := by rw [hb.resolve_left h0]; simp
          clear h0 hb
          go_wp2
          go_round
          case rel => exact .inr (.inl ⟨trivial, rfl⟩)
          case measure => decide
      | false =>
        obtain ⟨h0, hs⟩ := hasF_no h
        have H := Lib.hid (hasK_bad1 (t := (a, b, c)) (k := (x, y, z)) h)
        have n0 : (x != 0) = true := bne_iff_ne.2 h0
        have n1 : (x != a) = true := bne_iff_ne.2 hs
        clear h h0 hs
        go_wp2
        go_ret
        exact ⟨ret_bool H.out.symm, ((Kept.refl _ _).alloc _).alloc _⟩
    · have H1 := Lib.hid h1
      clear h1
      cases h : hasF b y with
      | true =>
        have hb := hasF_iff.1 h
        have H := Lib.hid h
        clear h
        by_cases h0 : y = 0
        · have n0 : (y != 0) = false := by rw [h0]; rfl
          clear h0 hb
          go_wp2
          go_round
          case rel => exact .inr (.inr (.inl ⟨H1.out, trivial, rfl⟩))
          case measure => decide
        · have n0 : (y != 0) = true := bne_iff_ne.2 h0
          have n1 : (y != b) = false := by rw [hb.resolve_left h0]; simp
          clear h0 hb
          go_wp2
          go_round
          case rel => exact .inr (.inr (.inl ⟨H1.out, trivial, rfl⟩))
          case measure => decide
      | false =>
        obtain ⟨h0, hs⟩ := hasF_no h
        have H := Lib.hid (hasK_bad2 (t := (a, b, c)) (k := (x, y, z)) h)
        have n0 : (y != 0) = true := bne_iff_ne.2 h0
        have n1 : (y != b) = true := bne_iff_ne.2 hs
        clear h h0 hs
        go_wp2
        go_ret
        exact ⟨ret_bool H.out.symm, ((Kept.refl _ _).alloc _).alloc _⟩
    · have H1 := Lib.hid h1
      have H2 := Lib.hid h2
      clear h1 h2
      cases h : hasF c z with
      | true =>
        have hb := hasF_iff.1 h
        have H := Lib.hid h
        clear h
        by_cases h0 : z = 0
        · have n0 : (z != 0) = false := by rw [h0]; rfl
          clear h0 hb
          go_wp2
          go_round
          case rel => exact .inr (.inr (.inr ⟨H1.out, H2.out, trivial, rfl⟩))
          case measure => decide
        · have n0 : (z != 0) = true := bne_iff_ne.2 h0
          have n1 : (z != c) = false := by rw [hb.resolve_left h0]; simp
          clear h0 hb
          go_wp2
          go_round
          case rel => exact .inr (.inr (.inr ⟨H1.out, H2.out, trivial, rfl⟩))
          case measure => decide
      | false =>
        obtain ⟨h0, hs⟩ := hasF_no h
        have H := Lib.hid (hasK_bad3 (t := (a, b, c)) (k := (x, y, z)) h)
        have n0 : (z != 0) = true := bne_iff_ne.2 h0
        have n1 : (z != c) = true := bne_iff_ne.2 hs
        clear h h0 hs
        go_wp2
        go_ret
        exact ⟨ret_bool H.out.symm, ((Kept.refl _ _).alloc _).alloc _⟩
    · have H := Lib.hid (hasK_good (t := (a, b, c)) (k := (x, y, z)) h1 h2 h3)
      clear h1 h2 h3
      go_wp2
      go_ret
      exact ⟨ret_bool H.out.symm, ((Kept.refl _ _).alloc _).alloc _⟩
end
section
open Go.RowKit
set_option maxRecDepth 100000

/-- Ids in a row of some call's own, or none. -/
abbrev IdsR (w : World) (v : Value) (l : List Int) : Prop := Row cN 3 1 w 0 v l
abbrev cM1 (p : Value × List Int) : List Value := [p.1]
theorem cM1_len (p : Value × List Int) : (cM1 p).length = 1 := rfl
/-- Matches in memory: a row of rows. -/
structure LLv (w : World) (B : Nat) (v : Value) (ps : List (Value × List Int)) : Prop where
  row : Row cM1 49 1 w B v ps
  ids : ∀ p ∈ ps, IdsR w p.1 p.2
def LL (w : World) (B : Nat) (v : Value) (L : List (List Int)) : Prop := ∃ ps, ps.map Prod.snd = L ∧ LLv w B v ps
theorem neqIs : 3 ≠ 49 := by decide
theorem infoI1 : (Try.prog.info? 3).map (fun i => (i.zero, i.size, i.bytes)) = some (some (.int .i64 0), 1, 8) := by kernel_rfl
theorem elsI1 : Els Try.prog 49 3 1 := Els.of Try.underlying49 infoI1 rfl (by decide) (by decide)
theorem infoI2 : (Try.prog.info? 49).map (fun i => (i.zero, i.size, i.bytes)) = some (some (.slice none 0 0), 1, 24) := by kernel_rfl
theorem elsI2 : Els Try.prog 35 49 1 := Els.of Try.underlying35 infoI2 rfl (by decide) (by decide)
theorem idsR_one {w : World} {v : Value} {l : List Int} (h : IdsR w v l) : v.oneCell' = true := by obtain ⟨a, c, rfl⟩ := h.shape; rfl
section
variable {w w' : World} {B : Nat} {v : Value} {ps : List (Value × List Int)} {L : List (List Int)}
theorem LLv.keptN (h : LLv w B v ps) (k : Kept Nil w w') : LLv w' B v ps := ⟨h.row.keptN k, fun p hp => (h.ids p hp).keptN k⟩
theorem LL.keptN (h : LL w B v L) (k : Kept Nil w w') : LL w' B v L := by obtain ⟨ps, e, h⟩ := h; exact ⟨ps, e, h.keptN k⟩
theorem LL.nil (w : World) (B : Nat) : LL w B (.slice none 0 0) [] := ⟨[], rfl, Row.nil _ _, fun p hp => by cases hp⟩
theorem LL.shape (h : LL w B v L) : ∃ a c, v = .slice a L.length c := by
  obtain ⟨ps, e, h⟩ := h
  obtain ⟨a, c, e2⟩ := h.row.shape
  rw [← e, List.length_map]
  exact ⟨a, c, e2⟩
theorem LL.down {B' : Nat} (h : LL w B v L) (hB : B' ≤ B) : LL w B' v L := by
  obtain ⟨ps, e, h⟩ := h
  exact ⟨ps, e, h.row.down hB, h.ids⟩
/-- A row of numbers stays, where a row of rows is written. -/
theorem ids_stay {u : Value} {l : List Int} {wr : World} (hr : Row cM1 49 1 wr B v ps) (hi : IdsR wr u l) (k : Kept (fun i => v.ownBlock = some i) wr w') : IdsR w' u l :=
  hi.keptF k fun b hb e => by
    obtain ⟨c1, e1⟩ := hi.block hb
    obtain ⟨c2, e2⟩ := hr.block e
    rw [e1] at e2
    injection e2 with e2
    injection e2 with _ e3 _
    exact neqIs e3
/-- Matches, behind what is there. -/
theorem LL.append {wr : World} {a : Option Addr} {n cap : Nat} {L : List (List Int)} (hk : Kept Nil w wr) (h : LL wr w.heap.size (.slice a n cap) L) (hl : L.length ≤ 5000)
    {B2 : Nat} {a2 : Option Addr} {n2 c2 : Nat} {L2 : List (List Int)} (h2 : LL wr B2 (.slice a2 n2 c2) L2) (hl2 : L2.length ≤ 5000) :
    ∃ a' cap' w', (Builtin.append_ #[35, 35] 35 #[.slice a n cap, .slice a2 n2 c2]).run Try.prog wr = .ok (.slice a' (n + n2) cap') w' ∧
      LL w' w.heap.size (.slice a' (n + n2) cap') (L ++ L2) ∧ Kept Nil w w' ∧ Kept (fun k => (Value.slice a n cap).ownBlock = some k) wr w' := by
  obtain ⟨ps, rfl, h⟩ := h
  obtain ⟨qs, rfl, h2⟩ := h2
  have hn : n = ps.length := by obtain ⟨_, _, e⟩ := h.row.shape; injection e
  have hn2 : n2 = qs.length := by obtain ⟨_, _, e⟩ := h2.row.shape; injection e
  rw [List.length_map] at hl hl2
  -- the cells are one cell each
  subst hn hn2
  have hflat : ∀ u ∈ qs.flatMap cM1, u.oneCell' = true := fun u hu => by
    obtain ⟨p, hp, hx⟩ := List.mem_flatMap.1 hu
    rw [List.mem_singleton.1 hx]
    exact idsR_one (h2.ids p hp)
  obtain ⟨v', w', r, o, k, _⟩ := append_any elsI2 35 h.row ((h2.row.toIn cM1_len (by decide)).toAt (cap := c2) cM1_len (by decide)) (by rw [flat_len cM1_len]) hflat (by omega) hk.size
  have o2 : Row cM1 49 1 w' w.heap.size v' (ps ++ qs) := by simpa [Row] using o
  obtain ⟨a', cap', e⟩ := o2.shape
  rw [List.length_append] at e
  subst e
  refine ⟨a', cap', w', r, ⟨ps ++ qs, by rw [List.map_append], o2, fun p hp => ?_⟩, hk.trans k (fun i hi e => absurd (h.row.lt i e).1 (Nat.not_le.2 hi)), k⟩
  rcases List.mem_append.1 hp with hp | hp
  · exact ids_stay h.row (h.ids p hp) k
  · exact ids_stay h.row (h2.ids p hp) k
/-- One match by itself, in new memory. -/
theorem LL.one {u : Value} {l : List Int} (h : IdsR w u l) : LL (w.alloc (.cells #[u] 49)) w.heap.size (.slice (some ⟨w.heap.size, 0, none⟩) 1 1) [l] := by
  refine ⟨[(u, l)], rfl, ?_, fun p hp => ?_⟩
  · refine ⟨rfl, .inr ⟨w.heap.size, 1, #[u], rfl, Nat.le_refl _, Blk.new w _ _, Nat.le_refl _, by decide, rfl, rfl⟩⟩
  · rw [List.mem_singleton.1 hp]
    exact h.keptN ((Kept.refl Nil w).alloc _)
end
end
end Go.Proofs.Ytiihjlafhiaigaa
