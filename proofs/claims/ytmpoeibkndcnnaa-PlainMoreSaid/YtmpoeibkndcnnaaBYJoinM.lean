/- Layer plain, plain mathematics: matches step by step; one fact more. No program. -/
import Derived.Test.YtmpoeibkndcnnaaA6
namespace Go.Proofs.Ytmpoeibkndcnnaa
open Go.RowKit
set_option maxRecDepth 100000

/-- What of a match stands ahead of its last fact, behind a Pos; else all of it. -/
def preJ (p : Bool) (n : List Int) : List Int := if p then n.take (n.length - 1) else n
/-- The matches N come, in their order, from the matches W: of each one, or (behind a Pos) as many as there are. -/
inductive Emb (p : Bool) : List (List Int) → List (List Int) → Prop
  | nil (W) : Emb p W []
  | take {w n W N} (hn : p = true → n ≠ []) (e : preJ p n = w) (h : Emb p (if p then w :: W else W) N) : Emb p (w :: W) (n :: N)
  | skip {w W N} (h : Emb p W N) : Emb p (w :: W) N
theorem Emb.tail {p : Bool} {W N : List (List Int)} {n : List Int} (h : Emb p W (n :: N)) : Emb p W N := by
  generalize hM : n :: N = M at h
  induction h with
  | nil W => cases hM
  | @take w n' W N' hn e h ih =>
    cases hM
    cases p
    · exact .skip h
    · exact h
  | skip h ih => exact .skip (ih hM)
theorem Emb.none {p : Bool} {N : List (List Int)} {n : List Int} : ¬ Emb p [] (n :: N) := by intro h; cases h
/-- Where the next is not from here, all are from behind. -/
theorem Emb.next {p : Bool} {w : List Int} {W N : List (List Int)} {n : List Int} (h : Emb p (w :: W) (n :: N)) (hn : preJ p n ≠ w) : Emb p W (n :: N) := by
  cases h with
  | take _ e _ => exact absurd e hn
  | skip h => exact h
/-- Where it is, the others are from here on, or from behind. -/
theorem Emb.got {p : Bool} {w : List Int} {W N : List (List Int)} {n : List Int} (h : Emb p (w :: W) (n :: N)) : Emb p (if p then w :: W else W) N := by
  cases h with
  | take _ _ h => exact h
  | skip h =>
    cases p
    · exact h.tail
    · exact .skip h.tail
theorem Emb.nonempty {p : Bool} {W N : List (List Int)} (h : Emb p W N) : p = true → ∀ n ∈ N, n ≠ [] := by
  induction h with
  | nil W => intro _ n hn; cases hn
  | take hn e h ih =>
    intro hp n' hn'
    rcases List.mem_cons.1 hn' with rfl | hn'
    · exact hn hp
    · exact ih hp n' hn'
  | skip h ih => exact ih
theorem Emb.front {p : Bool} : ∀ {V W N : List (List Int)}, Emb p W N → Emb p (V ++ W) N
  | [], _, _, h => h
  | _ :: V, _, _, h => .skip (Emb.front (V := V) h)
theorem Emb.append {p : Bool} {W N W' N' : List (List Int)} (h : Emb p W N) (h' : Emb p W' N') : Emb p (W ++ W') (N ++ N') := by
  induction h with
  | nil W => exact h'.front
  | @take w n W N hn e h ih =>
    refine .take hn e ?_
    cases p
    · exact ih
    · exact ih
  | skip h ih => exact .skip ih
theorem Emb.flat {p : Bool} {α : Type} {f g : α → List (List Int)} (h : ∀ x, Emb p (f x) (g x)) : ∀ l : List α, Emb p (l.flatMap f) (l.flatMap g)
  | [] => .nil _
  | x :: r => by rw [List.flatMap_cons, List.flatMap_cons]; exact (h x).append (Emb.flat h r)
theorem sm_emb (fs : List F4) {p : Bool} (c : St) {K K' : List F4 → List (List Int)} (h : ∀ ch, Emb p (K ch) (K' ch)) (ch : List F4) : Emb p (c.sm fs K ch) (c.sm fs K' ch) := by
  obtain ⟨hd, subs⟩ := c
  rw [sm_mk, sm_mk]
  by_cases h1 : hd.k = 1
  · rw [if_pos h1, if_pos h1]
    refine Emb.flat (fun f => ?_) fs
    split
    · exact h _
    · exact .nil _
  · rw [if_neg h1, if_neg h1]
    split
    · exact .nil _
    · split
      · exact .nil _
      · exact h ch
theorem emb_all {w : List Int} : ∀ N : List (List Int), (∀ n ∈ N, n ≠ [] ∧ preJ true n = w) → Emb true [w] N
  | [], _ => .nil _
  | n :: N, h => .take (fun _ => (h n List.mem_cons_self).1) (h n List.mem_cons_self).2 (emb_all N fun m hm => h m (List.mem_cons_of_mem _ hm))
/-- The matches up to a step come from those ahead of it. -/
theorem smL_emb (fs : List F4) (s : St) : ∀ (a : List St) (ch : List F4), Emb (decide (s.hd.k = 1)) (smL fs a ch) (smL fs (a ++ [s]) ch)
  | [], ch => by
    rw [smL_nil, List.nil_append, smL_cons]
    obtain ⟨hd, subs⟩ := s
    show Emb (decide (hd.k = 1)) _ _
    rw [sm_mk]
    by_cases h1 : hd.k = 1
    · rw [if_pos h1, decide_eq_true h1]
      refine emb_all _ fun n hn => ?_
      obtain ⟨f, _, hn⟩ := List.mem_flatMap.1 hn
      split at hn
      · rw [smL_nil] at hn
        rw [List.mem_singleton.1 hn]
        refine ⟨by simp, ?_⟩
        unfold preJ
        rw [if_pos rfl]
        simp
      · cases hn
    · rw [if_neg h1, decide_eq_false h1]
      split
      · exact .nil _
      · split
        · exact .nil _
        · rw [smL_nil]
          refine .take (fun h => by cases h) rfl ?_
          exact .nil _
  | c :: r, ch => by
    rw [List.cons_append, smL_cons, smL_cons]
    exact sm_emb fs c (fun ch => smL_emb fs s r ch) ch
/-- Of Pos alone: of one fact more, those without it are those that were. -/
theorem smL_more (fs : List F4) (f : F4) (hf : ∀ g ∈ fs, g.1 ≠ f.1) : ∀ (l : List St), (∀ c ∈ l, c.hd.k = 1) → ∀ ch : List F4, (smL (fs ++ [f]) l ch).filter (fun m => !(m.contains f.1)) = if (ch.map Prod.fst).contains f.1 then [] else smL fs l ch
  | [], _, ch => by
    rw [smL_nil, smL_nil]
    cases h : (ch.map Prod.fst).contains f.1
    · rw [List.filter_cons_of_pos (by rw [h]; rfl)]; rfl
    · rw [List.filter_cons_of_neg (by rw [h]; decide)]; rfl
  | .mk hd subs :: r, h, ch => by
    have h1 : hd.k = 1 := h (.mk hd subs) List.mem_cons_self
    have ih := smL_more fs f hf r (fun c hc => h c (List.mem_cons_of_mem _ hc))
    rw [smL_cons, smL_cons, sm_mk, sm_mk, if_pos h1, if_pos h1, List.flatMap_append, List.filter_append, List.filter_flatMap]
    have e2 : (List.flatMap (fun g => if meetH hd (ch.map Prod.snd) g.2 = true then smL (fs ++ [f]) r (ch ++ [g]) else []) [f]).filter (fun m => !(m.contains f.1)) = [] := by
      rw [List.flatMap_cons, List.flatMap_nil, List.append_nil]
      split
      · rw [ih, if_pos (by simp)]
      · rfl
    rw [e2, List.append_nil]
    cases hc : (ch.map Prod.fst).contains f.1
    · rw [if_neg (by decide)]
      refine flatMap_congr' fun g hg => ?_
      split
      · rw [ih, if_neg]
        rw [List.map_append, List.contains_eq_any_beq, List.any_append]
        rw [List.contains_eq_any_beq] at hc
        rw [hc]
        simp only [List.map_cons, List.map_nil, List.any_cons, List.any_nil, Bool.or_false, Bool.false_or, beq_iff_eq]
        exact fun e => hf g hg e.symm
      · rfl
    · rw [if_pos rfl]
      refine List.flatMap_eq_nil_iff.2 fun g hg => ?_
      split
      · rw [ih, if_pos]
        rw [List.map_append, List.contains_eq_any_beq, List.any_append]
        rw [List.contains_eq_any_beq] at hc
        rw [hc]; rfl
      · rfl
end Go.Proofs.Ytmpoeibkndcnnaa
