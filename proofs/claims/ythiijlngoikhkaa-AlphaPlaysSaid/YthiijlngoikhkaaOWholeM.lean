/- What memories have when all facts are added and taken away: just those that have the key; no program. -/
import Derived.Test.YthiijlngoikhkaaOBack
namespace Go.Proofs.Ythiijlngoikhkaa
open Go.RowKit Go.Maps

/-- The ids of those facts that have a key. -/
def idsK (fs : List F4) (k : T3) : List Int := (fs.filter (fun f => hasK f.2 k)).map (·.1)
/-- Facts whose ids rise. -/
def Up (fs : List F4) : Prop := fs.Pairwise (fun f g => f.1 < g.1)
theorem idsK_le (fs : List F4) (k : T3) : (idsK fs k).length ≤ fs.length := by
  unfold idsK
  rw [List.length_map]
  exact List.length_filter_le _ _
theorem idsK_snoc (fs : List F4) (f : F4) (k : T3) : idsK (fs ++ [f]) k = idsK fs k ++ if hasK f.2 k then [f.1] else [] := by
  unfold idsK
  rw [List.filter_append, List.map_append]
  congr 1
  by_cases h : hasK f.2 k = true
  · simp [h]
  · have h' : hasK f.2 k = false := by simpa using h
    simp [h']
theorem idsK_append (fs gs : List F4) (k : T3) : idsK (fs ++ gs) k = idsK fs k ++ idsK gs k := by
  unfold idsK
  rw [List.filter_append, List.map_append]
theorem idsK_mem {fs : List F4} {k : T3} {x : Int} (h : x ∈ idsK fs k) : ∃ f ∈ fs, f.1 = x ∧ hasK f.2 k = true := by
  obtain ⟨f, hf, e⟩ := List.mem_map.1 h
  exact ⟨f, (List.mem_filter.1 hf).1, e, (List.mem_filter.1 hf).2⟩
theorem beg_ids {k : T3} {fs : List F4} (h : Up fs) : beg k fs = idsK fs k := by
  have : ∀ (l : List F4) (h : List Int), Up l → (∀ x ∈ h, ∀ f ∈ l, x < f.1) → l.foldl (fun h f => if hasK f.2 k then put h f.1 else h) h = h ++ idsK l k := by
    intro l
    induction l with
    | nil => intro h _ _; simp [idsK]
    | cons f r ih =>
      intro h hu hl
      obtain ⟨a, b⟩ := List.pairwise_cons.1 hu
      rw [List.foldl_cons]
      by_cases hh : hasK f.2 k = true
      · have hx : f.1 ∉ h := fun hx => by have := hl f.1 hx f (List.mem_cons_self ..); omega
        rw [if_pos hh, put_out hx, ins_last (fun y hy => hl y hy f (List.mem_cons_self ..)), ih _ b (fun x hx g hg => by
          rcases List.mem_append.1 hx with hx | hx
          · exact hl x hx g (List.mem_cons_of_mem _ hg)
          · rw [List.mem_singleton.1 hx]; exact a g hg)]
        unfold idsK
        simp [hh]
      · have hh' : hasK f.2 k = false := by simpa using hh
        rw [if_neg hh, ih _ b (fun x hx g hg => hl x hx g (List.mem_cons_of_mem _ hg))]
        unfold idsK
        simp [hh']
  have := this fs [] h (by simp)
  simpa [beg] using this
/-- Something done at each of some keys. -/
theorem runK_map {ans : List Mem → T3 → Bool} {f : Mem → Mem} (hf : ∀ m, (f m).key = m.key) (hi : ∀ m, f (f m) = f m) (ks : List T3) (L : List Mem) :
    (runK ans (fun L k => upd L k f) ks L).1 = L.map (fun m => if m.key ∈ ks then f m else m) := by
  have : ∀ (ks : List T3) (s : List Mem × List T3), (ks.foldl (fun s k => (upd s.1 k f, if ans s.1 k then s.2 ++ [k] else s.2)) s).1 = s.1.map (fun m => if m.key ∈ ks then f m else m) := by
    intro ks
    induction ks with
    | nil => intro s; simp
    | cons k r ih =>
      intro s
      rw [List.foldl_cons, ih]
      show (upd s.1 k f).map _ = _
      unfold upd
      rw [List.map_map]
      apply List.map_congr_left
      intro m _
      show (if (if m.key = k then f m else m).key ∈ r then f (if m.key = k then f m else m) else (if m.key = k then f m else m)) = _
      by_cases e : m.key = k
      · rw [if_pos e, hf, hi]
        have e2 : m.key ∈ k :: r := by rw [e]; exact List.mem_cons_self ..
        rw [if_pos e2]
        split <;> rfl
      · rw [if_neg e]
        by_cases e2 : m.key ∈ r
        · rw [if_pos e2, if_pos (List.mem_cons_of_mem _ e2)]
        · rw [if_neg e2, if_neg (fun h => (List.mem_cons.1 h).elim e e2)]
  exact this ks (L, [])
theorem put_put (l : List Int) (x : Int) : put (put l x) x = put l x := put_in (mem_put.2 (.inl rfl))
theorem del_del (l : List Int) (x : Int) : del x (del x l) = del x l := del_out (fun h => (mem_del.1 h).2 rfl)
/-- Each memory has just the ids of the facts that have its key. -/
def Inv (L : List Mem) (fs : List F4) : Prop := ∀ m ∈ L, m.has = idsK fs m.key
theorem Inv.few {L : List Mem} {fs : List F4} (h : Inv L fs) {q : Nat} (hq : fs.length ≤ q) : Few L q := fun m hm => by
  rw [h m hm]; exact Nat.le_trans (idsK_le _ _) hq
theorem Inv.want {L : List Mem} {fs : List F4} (h : Inv L fs) (hu : Up fs) (k : T3) : Inv (wantL L k fs) fs := by
  unfold wantL
  split
  · intro m hm
    obtain ⟨z, hz, rfl⟩ := mem_of_upd hm
    have := h z hz
    split
    · exact this
    · exact this
  · intro m hm
    rcases List.mem_append.1 hm with hm | hm
    · exact h m hm
    · rw [List.mem_singleton.1 hm]
      exact beg_ids hu
theorem mem_keys {L : List Mem} {k : T3} : k ∈ keysL L ↔ (mem L k).isSome = true := by
  cases hm : mem L k with
  | none =>
    simp only [Option.isSome_none, Bool.false_eq_true, iff_false]
    intro h
    obtain ⟨m, hmL, e⟩ := List.mem_map.1 h
    exact mem_none.1 hm m hmL e
  | some m =>
    simp only [Option.isSome_some, iff_true]
    obtain ⟨a, b⟩ := mem_some hm
    exact List.mem_map.2 ⟨m, a, b⟩
theorem touched_key {L : List Mem} {t : T3} {m : Mem} (hm : m ∈ L) : m.key ∈ touched L t ↔ hasK t m.key = true := by
  rw [touched_mem, ← mem_keys]
  exact ⟨fun h => h.1, fun h => ⟨h, List.mem_map.2 ⟨m, hm, rfl⟩⟩⟩
theorem Inv.add {L : List Mem} {fs : List F4} {i : Int} {t : T3} (h : Inv L fs) (hi : ∀ f ∈ fs, f.1 < i) : Inv (runK (fun L k => canPut L k i) (fun L k => putL L k i) (touched L t) L).1 (fs ++ [(i, t)]) := by
  rw [show (fun L k => putL L k i) = (fun L k => upd L k (fun m => ⟨m.key, m.n, put m.has i⟩)) from rfl]
  rw [runK_map (f := fun m => ⟨m.key, m.n, put m.has i⟩) (fun _ => rfl) (fun m => by simp [put_put])]
  intro m hm
  obtain ⟨z, hz, rfl⟩ := List.mem_map.1 hm
  have hzz := h z hz
  by_cases e : z.key ∈ touched L t
  · rw [if_pos e, idsK_snoc]
    have hk := (touched_key hz).1 e
    show put z.has i = idsK fs z.key ++ if hasK t z.key then [i] else []
    rw [if_pos hk, hzz]
    have hl : ∀ y ∈ idsK fs z.key, y < i := fun y hy => by
      obtain ⟨f, hf, e, _⟩ := idsK_mem hy
      rw [← e]; exact hi f hf
    rw [put_out (fun hx => by have := hl i hx; omega), ins_last hl]
  · rw [if_neg e, idsK_snoc]
    have hk : ¬ hasK t z.key = true := fun hk => e ((touched_key hz).2 hk)
    show z.has = idsK fs z.key ++ if hasK t z.key then [i] else []
    rw [if_neg hk, List.append_nil, hzz]
theorem Inv.rem {L : List Mem} {fs : List F4} {i : Int} {t : T3} (h : Inv L fs) (hu : Up fs) {j : Nat} (hj : fs[j]? = some (i, t)) : Inv (runK (fun L k => canTake L k i) (fun L k => takeL L k i) (touched L t) L).1 (fs.take j ++ fs.drop (j + 1)) := by
  rw [show (fun L k => takeL L k i) = (fun L k => upd L k (fun m => ⟨m.key, m.n, del i m.has⟩)) from rfl]
  rw [runK_map (f := fun m => ⟨m.key, m.n, del i m.has⟩) (fun _ => rfl) (fun m => by simp [del_del])]
  have hlt := (List.getElem?_eq_some_iff.1 hj).1
  have hge := (List.getElem?_eq_some_iff.1 hj).2
  have hsplit : fs = fs.take j ++ (i, t) :: fs.drop (j + 1) := by
    conv => lhs; rw [← List.take_append_drop j fs]
    rw [List.drop_eq_getElem_cons hlt, hge]
  have hpw := hu
  unfold Up at hpw
  rw [hsplit, List.pairwise_append] at hpw
  obtain ⟨_, p2, p3⟩ := hpw
  obtain ⟨p4, _⟩ := List.pairwise_cons.1 p2
  have no1 : ∀ k, i ∉ idsK (fs.take j) k := fun k hx => by
    obtain ⟨f, hf, e, _⟩ := idsK_mem hx
    have := p3 f hf (i, t) (List.mem_cons_self ..)
    simp at this
    omega
  have no2 : ∀ k, i ∉ idsK (fs.drop (j + 1)) k := fun k hx => by
    obtain ⟨f, hf, e, _⟩ := idsK_mem hx
    have := p4 f hf
    simp at this
    omega
  have hids : ∀ k, idsK fs k = idsK (fs.take j) k ++ ((if hasK t k then [i] else []) ++ idsK (fs.drop (j + 1)) k) := fun k => by
    conv => lhs; rw [hsplit]
    rw [idsK_append]
    congr 1
    rw [show (i, t) :: fs.drop (j + 1) = [(i, t)] ++ fs.drop (j + 1) from rfl, idsK_append]
    congr 1
    have := idsK_snoc [] (i, t) k
    simpa [idsK] using this
  intro m hm
  obtain ⟨z, hz, rfl⟩ := List.mem_map.1 hm
  have hzz := h z hz
  by_cases e : z.key ∈ touched L t
  · rw [if_pos e, idsK_append]
    have hk := (touched_key hz).1 e
    show del i z.has = idsK (fs.take j) z.key ++ idsK (fs.drop (j + 1)) z.key
    rw [hzz, hids, if_pos hk]
    have d1 := del_out (no1 z.key)
    have d2 := del_out (no2 z.key)
    unfold del at d1 d2 ⊢
    rw [List.filter_append, List.filter_append, d1, d2]
    simp
  · rw [if_neg e, idsK_append]
    have hk : ¬ hasK t z.key = true := fun hk => e ((touched_key hz).2 hk)
    show z.has = idsK (fs.take j) z.key ++ idsK (fs.drop (j + 1)) z.key
    rw [hzz, hids, if_neg hk, List.nil_append]
theorem Up.snoc {fs : List F4} (h : Up fs) {f : F4} (hf : ∀ g ∈ fs, g.1 < f.1) : Up (fs ++ [f]) := by
  refine List.pairwise_append.2 ⟨h, List.pairwise_singleton _ _, fun x hx y hy => ?_⟩
  rw [List.mem_singleton.1 hy]
  exact hf x hx
theorem Up.less {fs : List F4} (h : Up fs) (j : Nat) : Up (fs.take j ++ fs.drop (j + 1)) := by
  refine h.sublist ?_
  conv => rhs; rw [← List.take_append_drop j fs]
  refine List.Sublist.append (List.Sublist.refl _) ?_
  exact List.drop_sublist_drop_left fs (Nat.le_succ j)
theorem less_mem {fs : List F4} {j : Nat} {f : F4} (h : f ∈ fs.take j ++ fs.drop (j + 1)) : f ∈ fs := (List.mem_append.1 h).elim List.mem_of_mem_take List.mem_of_mem_drop
theorem less_length {fs : List F4} {j : Nat} (h : j < fs.length) : (fs.take j ++ fs.drop (j + 1)).length + 1 = fs.length := by
  rw [List.length_append, List.length_take, List.length_drop]; omega
theorem keys_shape {L L' : List Mem} (h : shape L' = shape L) : keysL L' = keysL L := by
  have := congrArg (List.map Prod.fst) h
  unfold shape at this
  rw [List.map_map, List.map_map] at this
  exact this
theorem keys_want (L : List Mem) (k : T3) (fs : List F4) : k ∈ keysL (wantL L k fs) ∧ ∀ j ∈ keysL L, j ∈ keysL (wantL L k fs) := by
  unfold wantL
  split
  · rename_i m hm
    rw [keys_upd (f := fun m => ⟨m.key, m.n + 1, m.has⟩) (fun _ => rfl)]
    exact ⟨mem_keys.2 (by rw [hm]; rfl), fun j hj => hj⟩
  · unfold keysL
    rw [List.map_append]
    exact ⟨List.mem_append_right _ (List.mem_singleton.2 rfl), fun j hj => List.mem_append_left _ hj⟩
theorem Inv.items {L : List Mem} {fs : List F4} (h : Inv L fs) {k : T3} (hk : k ∈ keysL L) : items L k = idsK fs k := by
  obtain ⟨m, hm⟩ := Option.isSome_iff_exists.1 (mem_keys.1 hk)
  obtain ⟨a, b⟩ := mem_some hm
  rw [items_some hm, h m a, b]
end Go.Proofs.Ythiijlngoikhkaa
