/- The law's own walk over the touched memories: the document's store, and a row of keys beside it. -/
import Derived.Test.YthiijlngoikhkaaOOpenO
namespace Go.Proofs.Ythiijlngoikhkaa
open Go.RowKit Go.Maps Go.WideMaps
set_option maxRecDepth 100000

theorem runK_len {ans : List Mem → T3 → Bool} {act : List Mem → T3 → List Mem} (ha : ∀ L k, (act L k).length = L.length) (L : List Mem) (ks : List T3) : (runK ans act ks L).1.length = L.length := by
  have : ∀ (ks : List T3) (s : List Mem × List T3), (ks.foldl (fun s k => (act s.1 k, if ans s.1 k then s.2 ++ [k] else s.2)) s).1.length = s.1.length := by
    intro ks
    induction ks with
    | nil => intro s; rfl
    | cons k r ih =>
      intro s
      rw [List.foldl_cons, ih, ha]
  exact this ks (L, [])
theorem putL_len (i : Int) (L : List Mem) (k : T3) : (putL L k i).length = L.length := by unfold putL upd; simp
theorem takeL_len (i : Int) (L : List Mem) (k : T3) : (takeL L k i).length = L.length := by unfold takeL upd; simp
section
variable {w : World} {G : Nat → Prop} {q : Nat} {L : List Mem}
theorem touchedRS_any (h : RS w G q L) (t : T3) (hl : L.length ≤ 1000) :
    Calls Try.prog 14 #[.pointer (some ⟨q, 0, none⟩), av t] w fun e w' => ∃ a' c', e = .returned (.slice a' (touched L t).length c') ∧ Row cT 30 3 w' w.heap.size (.slice a' (touched L t).length c') (touched L t) ∧ Kept Nil w w' := by
  obtain ⟨ra, rc, LV, hLV, hRS⟩ := h
  have := touchedR_any hRS t (by have : LV.length = L.length := (by rw [← hLV, List.length_map]); omega)
  rw [hLV] at this
  exact this
theorem putRS_any (h : RS w G q L) (k : T3) (x : Int) (hl : L.length ≤ 1000) (hf : Few L 900) :
    Calls Try.prog 15 #[.pointer (some ⟨q, 0, none⟩), av k, .int .i64 x] w fun e w' => e = .returned (.int .i64 (oneI (canPut L k x))) ∧ RGrew w w' G q (putL L k x) := by
  obtain ⟨ra, rc, LV, hLV, hRS⟩ := h
  have := putR_any hRS k x (by have : LV.length = L.length := (by rw [← hLV, List.length_map]); omega) (by rw [hLV]; exact hf)
  rw [hLV] at this
  exact this
theorem takeRS_any (h : RS w G q L) (k : T3) (x : Int) (hl : L.length ≤ 1000) (hf : Few L 900) :
    Calls Try.prog 16 #[.pointer (some ⟨q, 0, none⟩), av k, .int .i64 x] w fun e w' => e = .returned (.int .i64 (oneI (canTake L k x))) ∧ RGrew w w' G q (takeL L k x) := by
  obtain ⟨ra, rc, LV, hLV, hRS⟩ := h
  have := takeR_any hRS k x (by have : LV.length = L.length := (by rw [← hLV, List.length_map]); omega) (by rw [hLV]; exact hf)
  rw [hLV] at this
  exact this
end
/-- The document's store since w, and a row of keys beside it. -/
structure WR (w wk : World) (G G2 : Nat → Prop) (q : Nat) (v : Value) (L : List Mem) (T : List T3) : Prop where
  row : Row cT 30 3 wk w.heap.size v T
  rs : RS wk G2 q L
  kept : Kept G w wk
  up : ∀ k, G2 k → G k ∨ w.heap.size ≤ k
  off : ∀ b, v.ownBlock = some b → ¬ G2 b
section
variable {w wk wa wb : World} {G G2 : Nat → Prop} {q : Nat} {v : Value} {L L2 : List Mem} {T : List T3}
theorem WR.start (h : RS w G q L) : WR w w G G q (.slice none 0 0) L [] := ⟨Row.nil _ _, h, Kept.refl _ _, fun _ e => .inl e, fun b hb => by cases hb⟩
theorem WR.keptN (h : WR w wk G G2 q v L T) (k : Kept Nil wk wa) : WR w wa G G2 q v L T :=
  ⟨h.row.keptN k, h.rs.keptN k, h.kept.trans k (fun _ _ e => e.elim), h.up, h.off⟩
theorem WR.act (h : WR w wk G G2 q v L T) (g : RGrew wk wb G2 q L2) : ∃ G3, WR w wb G G3 q v L2 T := by
  obtain ⟨G3, r, up, kk⟩ := g
  refine ⟨G3, h.row.keptF kk h.off, r, h.kept.trans kk (fun i hi e => (h.up i e).elim id (fun e2 => absurd hi (Nat.not_lt.2 e2))), fun k hk => (up k hk).elim (h.up k) (fun e => .inr (Nat.le_trans h.kept.size e)), fun b hb hg => ?_⟩
  rcases up b hg with e | e
  · exact h.off b hb e
  · exact absurd e (Nat.not_le.2 (h.row.lt b hb).2)
theorem WR.push {a : Option Addr} {n cap : Nat} (h : WR w wk G G2 q (.slice a n cap) L T) (hn : n = T.length) (hl : T.length ≤ 5000) (x : T3) (cs : Array Value) (hcs : cs.toList = cT x) :
    ∃ a' cap' w', (Builtin.append_ #[46, 46] 46 #[.slice a n cap, .slice (some ⟨wk.heap.size, 0, none⟩) 1 1]).run Try.prog (wk.alloc (.cells cs 30)) = .ok (.slice a' (n + 1) cap') w' ∧
      WR w w' G G2 q (.slice a' (n + 1) cap') L (T ++ [x]) := by
  subst hn
  have h2 : Row cT 30 3 (wk.alloc (.cells cs 30)) w.heap.size (.slice a T.length cap) T := h.row.keptN ((Kept.refl _ _).alloc _)
  obtain ⟨v', w', r, o, k, ho⟩ := append_any elsK 46 h2 (At.lit wk 30 cs (cT x) hcs) (by rw [cT_len, Nat.one_mul]) (cT_one x) (by omega) (by simp; have := h.kept.size; omega)
  have o2 : Row cT 30 3 w' w.heap.size v' (T ++ [x]) := by simpa [Row] using o
  obtain ⟨a', cap', e⟩ := o2.shape
  rw [List.length_append] at e
  subst e
  have kk : Kept (fun k => (Value.slice a T.length cap).ownBlock = some k) wk w' := ((Kept.refl _ _).alloc _).trans k (fun _ _ e => e)
  refine ⟨a', cap', w', r, o2, h.rs.kept kk (fun b hb e => h.off b e hb), h.kept.trans kk (fun i hi e => absurd (h.row.lt i e).1 (Nat.not_le.2 hi)), h.up, fun b hb hg => ?_⟩
  rcases ho with e | e
  · exact h.off b (e ▸ hb) hg
  · have h1 := h.rs.inG hg
    have e2 : b = wk.heap.size + 1 := by
      have : some b = some (wk.alloc (.cells cs 30)).heap.size := hb.symm.trans e
      injection this with this
      rw [this]; simp
    omega
end
end Go.Proofs.Ythiijlngoikhkaa
