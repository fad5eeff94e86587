/- How often a thing stands in a list; a map that says so; the keys of any type that a map can have. No program. -/
import Derived.Test.YtodghgeghpbdlaaBEls
import Derived.Maps.OwnSet
namespace Go.Proofs.Ytodghgeghpbdlaa
open Go.RowKit Go.Maps

/-! ### Lists -/
section
variable {κ : Type} [DecidableEq κ]
/-- How often a thing stands in a list. -/
def cnt (k : κ) : List κ → Nat
  | [] => 0
  | x :: r => if x = k then cnt k r + 1 else cnt k r
/-- The list without the first of a thing. -/
def drp (k : κ) : List κ → List κ
  | [] => []
  | x :: r => if x = k then r else x :: drp k r
theorem cnt_append (k : κ) : ∀ a b : List κ, cnt k (a ++ b) = cnt k a + cnt k b
  | [], b => by simp [cnt]
  | x :: r, b => by
    rw [List.cons_append, cnt, cnt, cnt_append k r b]
    split <;> omega
theorem cnt_snoc_same (k : κ) (l : List κ) : cnt k (l ++ [k]) = cnt k l + 1 := by rw [cnt_append]; simp [cnt]
theorem cnt_snoc_other {k x : κ} (h : x ≠ k) (l : List κ) : cnt k (l ++ [x]) = cnt k l := by rw [cnt_append]; simp [cnt, h]
theorem cnt_pos {k : κ} : ∀ {l : List κ}, 0 < cnt k l ↔ k ∈ l
  | [] => by simp [cnt]
  | x :: r => by
    rw [cnt]
    split
    · rename_i h; subst h; simp
    · rename_i h
      rw [cnt_pos (l := r), List.mem_cons]
      exact ⟨.inr, fun a => a.resolve_left (fun e => h e.symm)⟩
theorem cnt_zero {k : κ} {l : List κ} : cnt k l = 0 ↔ k ∉ l := by rw [← cnt_pos]; omega
theorem cnt_le (k : κ) : ∀ l : List κ, cnt k l ≤ l.length
  | [] => Nat.le_refl _
  | x :: r => by
    have := cnt_le k r
    rw [cnt, List.length_cons]
    split <;> omega
theorem drp_not {k : κ} : ∀ {l : List κ}, k ∉ l → drp k l = l
  | [], _ => rfl
  | x :: r, h => by
    rw [drp, if_neg (fun e => h (by simp [e])), drp_not (fun hm => h (List.mem_cons_of_mem _ hm))]
theorem drp_length {k : κ} : ∀ {l : List κ}, k ∈ l → (drp k l).length + 1 = l.length
  | [], h => by simp at h
  | x :: r, h => by
    rw [drp]
    split
    · rfl
    · rename_i hne
      have := drp_length (k := k) (l := r) ((List.mem_cons.1 h).resolve_left (fun e => hne e.symm))
      rw [List.length_cons, List.length_cons, this]
theorem drp_le (k : κ) (l : List κ) : (drp k l).length ≤ l.length := by
  by_cases h : k ∈ l
  · have := drp_length h; omega
  · rw [drp_not h]; exact Nat.le_refl _
theorem cnt_drp_same (k : κ) : ∀ l : List κ, cnt k (drp k l) = cnt k l - 1
  | [] => rfl
  | x :: r => by
    rw [drp, cnt]
    split
    · rfl
    · rename_i hne; rw [cnt, if_neg hne, cnt_drp_same k r]
theorem cnt_drp_other {k x : κ} (h : x ≠ k) : ∀ l : List κ, cnt x (drp k l) = cnt x l
  | [] => rfl
  | y :: r => by
    rw [drp]
    split
    · rename_i e; rw [cnt, if_neg (by rw [e]; exact fun e => h e.symm)]
    · rw [cnt, cnt, cnt_drp_other h r]
theorem drp_sub {k x : κ} {l : List κ} (h : x ∈ drp k l) : x ∈ l := by
  by_cases e : x = k
  · subst e
    have := cnt_drp_same x l
    have h1 := cnt_pos.2 h
    exact cnt_pos.1 (by omega)
  · rw [← cnt_pos, cnt_drp_other e] at h
    exact cnt_pos.1 h
theorem nodup_le : ∀ {ks l : List κ}, ks.Nodup → (∀ k ∈ ks, k ∈ l) → ks.length ≤ l.length
  | [], _, _, _ => Nat.zero_le _
  | k :: r, l, hn, hm => by
    obtain ⟨h1, h2⟩ := List.nodup_cons.1 hn
    have := nodup_le (ks := r) (l := drp k l) h2 (fun x hx => by
      have hne : x ≠ k := fun e => h1 (e ▸ hx)
      rw [← cnt_pos, cnt_drp_other hne, cnt_pos]
      exact hm x (List.mem_cons_of_mem _ hx))
    have h3 := drp_length (hm k (List.mem_cons_self ..))
    rw [List.length_cons]; omega
end

/-! ### The keys of a type -/
structure KT (P : Program) (κ : Type) where
  t : TypeId
  enc : κ → Value
  lit : κ → Lit
  ok : κ → Prop
  keyed : Keyed P t
  key : ∀ k, ok k → keyOf P t (enc k) = some (lit k)
  encInj : ∀ a b, enc a = enc b → a = b
section
variable {P : Program} {κ : Type} {K : KT P κ}
theorem KT.isKey (K : KT P κ) {k : κ} (h : K.ok k) : WideAt.IsKeyLit (K.lit k) := K.keyed.key (K.key k h)
theorem KT.ne (K : KT P κ) {a b : κ} (ha : K.ok a) (hb : K.ok b) (h : a ≠ b) : K.lit a ≠ K.lit b := fun e =>
  h (K.encInj _ _ (K.keyed.inj (K.key a ha) (e ▸ K.key b hb)))
end

/-! ### A map's datum that says how often each thing is wanted -/
section
variable {P : Program} {κ : Type} [DecidableEq κ] {K : KT P κ}
structure Cnt (K : KT P κ) (D : DataW Unit) (l : List κ) : Prop where
  tidy : Tidy D
  keys : ∃ ks : List κ, ks.Nodup ∧ (∀ k, k ∈ ks ↔ k ∈ l) ∧ Maps.size D = ks.length
  get : ∀ k, K.ok k → D.atKey (K.lit k) (.lit (.int .i64 0)) = .lit (.int .i64 (cnt k l))
  has : ∀ k, K.ok k → Maps.has D (K.lit k) = decide (k ∈ l)
theorem Cnt.nil (K : KT P κ) : Cnt K (.map []) [] := ⟨tidy_empty, ⟨[], List.nodup_nil, fun _ => Iff.rfl, rfl⟩, fun _ _ => rfl, fun _ _ => by simp [Maps.has]⟩
theorem Cnt.size_le {D : DataW Unit} {l : List κ} (h : Cnt K D l) : Maps.size D ≤ l.length := by
  obtain ⟨ks, h1, h2, h3⟩ := h.keys
  rw [h3]; exact nodup_le h1 (fun k hk => (h2 k).1 hk)
theorem Cnt.size_nil {D : DataW Unit} (h : Cnt K D []) : Maps.size D = 0 := Nat.le_zero.1 h.size_le
theorem Cnt.put {D : DataW Unit} {l : List κ} (h : Cnt K D l) {k : κ} (hk : K.ok k) : Cnt K (D.put (K.lit k) (.lit (.int .i64 ((cnt k l : Int) + 1)))) (l ++ [k]) := by
  refine ⟨h.tidy.put (K.isKey hk) _, ?_, fun x hx => ?_, fun x hx => ?_⟩
  · obtain ⟨ks, h1, h2, h3⟩ := h.keys
    rw [size_put h.tidy, h.has k hk]
    by_cases hm : k ∈ l
    · refine ⟨ks, h1, fun x => ?_, by simp [hm, h3]⟩
      rw [h2, List.mem_append, List.mem_singleton]
      exact ⟨.inl, fun e => e.elim id (fun e => e ▸ hm)⟩
    · refine ⟨ks ++ [k], ?_, fun x => by simp [h2], by simp [hm, h3]⟩
      rw [List.nodup_append]
      refine ⟨h1, by simp, fun a ha b hb e => ?_⟩
      rw [List.mem_singleton.1 hb] at e
      exact hm ((h2 k).1 (e ▸ ha))
  · by_cases e : x = k
    · subst e; rw [atKey_put_same h.tidy.isMap (K.isKey hk), cnt_snoc_same]; rfl
    · rw [atKey_put_other (K.ne hx hk e), h.get x hx, cnt_snoc_other (fun e' => e e'.symm)]
  · by_cases e : x = k
    · subst e; rw [has_put_same h.tidy.isMap (K.isKey hk)]; simp
    · rw [has_put_other (K.ne hx hk e), h.has x hx]; simp [e]
theorem Cnt.less {D : DataW Unit} {l : List κ} (h : Cnt K D l) {k : κ} (hk : K.ok k) (h1 : 1 < cnt k l) : Cnt K (D.put (K.lit k) (.lit (.int .i64 ((cnt k l : Int) - 1)))) (drp k l) := by
  have hm : k ∈ l := cnt_pos.1 (by omega)
  have hmem : ∀ x, x ∈ drp k l ↔ x ∈ l := fun x => by
    by_cases e : x = k
    · subst e; rw [← cnt_pos, cnt_drp_same, ← cnt_pos]; omega
    · rw [← cnt_pos, cnt_drp_other e, cnt_pos]
  refine ⟨h.tidy.put (K.isKey hk) _, ?_, fun x hx => ?_, fun x hx => ?_⟩
  · obtain ⟨ks, h1, h2, h3⟩ := h.keys
    exact ⟨ks, h1, fun x => by rw [h2, hmem], by rw [size_put h.tidy, h.has k hk]; simp [hm, h3]⟩
  · by_cases e : x = k
    · subst e
      rw [atKey_put_same h.tidy.isMap (K.isKey hk), cnt_drp_same]
      congr 2; omega
    · rw [atKey_put_other (K.ne hx hk e), h.get x hx, cnt_drp_other e]
  · by_cases e : x = k
    · subst e; rw [has_put_same h.tidy.isMap (K.isKey hk)]; simp [hmem, hm]
    · rw [has_put_other (K.ne hx hk e), h.has x hx]; simp [hmem]
theorem Cnt.del {D : DataW Unit} {l : List κ} (h : Cnt K D l) {k : κ} (hk : K.ok k) (h1 : cnt k l = 1) : Cnt K (D.del (K.lit k)) (drp k l) := by
  have hm : k ∈ l := cnt_pos.1 (by omega)
  have hno : k ∉ drp k l := by rw [← cnt_zero, cnt_drp_same]; omega
  have hmem : ∀ x, x ≠ k → (x ∈ drp k l ↔ x ∈ l) := fun x e => by rw [← cnt_pos, cnt_drp_other e, cnt_pos]
  refine ⟨h.tidy.del _, ?_, fun x hx => ?_, fun x hx => ?_⟩
  · obtain ⟨ks, hn0, h2, h3⟩ := h.keys
    have hs := size_del h.tidy (k := K.lit k)
    rw [h.has k hk, decide_eq_true hm, if_pos rfl, h3] at hs
    have hmk : k ∈ ks := (h2 k).2 hm
    refine ⟨drp k ks, ?_, fun x => ?_, by have := drp_length hmk; omega⟩
    · clear hs h3 h2 hmk
      induction ks with
      | nil => exact List.nodup_nil
      | cons y r ih =>
        obtain ⟨a, b⟩ := List.nodup_cons.1 hn0
        rw [drp]
        split
        · exact b
        · exact List.nodup_cons.2 ⟨fun hx => a (drp_sub hx), ih b⟩
    · by_cases e : x = k
      · subst e
        refine ⟨fun hx => ?_, fun hx => absurd hx hno⟩
        exfalso
        have c1 : ∀ {ks : List κ}, ks.Nodup → cnt x ks ≤ 1 := by
          intro ks
          induction ks with
          | nil => intro _; simp [cnt]
          | cons y r ih =>
            intro hn
            obtain ⟨a, b⟩ := List.nodup_cons.1 hn
            rw [cnt]
            split
            · rename_i e; subst e; rw [cnt_zero.2 a]; exact Nat.le_refl _
            · exact ih b
        have := cnt_pos.2 hx
        rw [cnt_drp_same] at this
        have := c1 hn0
        omega
      · rw [← cnt_pos, cnt_drp_other e, cnt_pos, h2, hmem x e]
  · by_cases e : x = k
    · subst e; rw [atKey_del_same, cnt_zero.2 hno]; rfl
    · rw [atKey_del_other (K.ne hx hk e), h.get x hx, cnt_drp_other e]
  · by_cases e : x = k
    · subst e; rw [has_del_same]; simp [hno]
    · rw [has_del_other (K.ne hx hk e), h.has x hx]; simp [hmem x e]
end

/-- A map of at most n entries is one of at most as many as it has. -/
theorem ownsMap_tight {P : Program} {k : TypeId} {R : Value → Option (DataW Unit × List MemPlace)} {w : World} {b n m : Nat} {D : DataW Unit} (h : w.ownsMap P k R b n D) (hm : Maps.size D ≤ m) : w.ownsMap P k R b m D := by
  obtain ⟨es, clock, hb, F, hs, rfl⟩ := h
  refine ⟨es, clock, hb, F, ?_, rfl⟩
  have e := length_read (P := P) (k := k) (R0 := R) es
  rw [Maps.size_eq, e] at hm
  exact hm
theorem Kept.map {F : Nat → Prop} {w w' : World} (h : Kept F w w') {P : Program} {k : TypeId} {R : Value → Option (DataW Unit × List MemPlace)} {b n : Nat} {D : DataW Unit} (ho : w.ownsMap P k R b n D) (hb : ¬ F b) : w'.ownsMap P k R b n D := by
  obtain ⟨es, clock, hbb, r⟩ := ho
  exact ⟨es, clock, by rw [h.block b (Array.getElem?_eq_some_iff.1 hbb).1 hb]; exact hbb, r⟩

/-! ### A tally in memory -/
section
variable {P : Program} {κ : Type} [DecidableEq κ] {K : KT P κ} {e tT : TypeId}
/-- The blocks of a tally. -/
def TFoot (p : Nat) (m : Value) (k : Nat) : Prop := k = p ∨ m = .map (some k)
/-- Block p is a tally of the things l; it and its map lie from block B on. -/
structure Tal (K : KT P κ) (e tT : TypeId) (w : World) (B p : Nat) (m : Value) (l : List κ) : Prop where
  len : l.length ≤ 10000
  ok : ∀ x ∈ l, K.ok x
  base : B ≤ p
  here : w.heap[p]? = some (.cells #[m, .int .i64 l.length] tT (0, 0))
  mp : (m = .map none ∧ l = []) ∨ ∃ bm D, m = .map (some bm) ∧ B ≤ bm ∧ w.ownsMap (H := Unit) P K.t (plainElem P e) bm l.length D ∧ Cnt K D l
variable {w w' : World} {B p : Nat} {m : Value} {l l' : List κ}
theorem Tal.lt (h : Tal K e tT w B p m l) : p < w.heap.size := (Array.getElem?_eq_some_iff.1 h.here).1
theorem Tal.foot (h : Tal K e tT w B p m l) {k : Nat} (hk : TFoot p m k) : B ≤ k ∧ k < w.heap.size := by
  rcases hk with rfl | rfl
  · exact ⟨h.base, h.lt⟩
  · rcases h.mp with ⟨e, _⟩ | ⟨bm, D, e, hb, ho, _⟩
    · cases e
    · cases e; exact ⟨hb, ho.lt⟩
theorem Tal.kept (h : Tal K e tT w B p m l) {F : Nat → Prop} (hk : Kept F w w') (hF : ∀ k, TFoot p m k → ¬ F k) : Tal K e tT w' B p m l := by
  refine ⟨h.len, h.ok, h.base, ?_, ?_⟩
  · rw [hk.block p h.lt (hF p (.inl rfl))]; exact h.here
  · rcases h.mp with e | ⟨bm, D, e, hb, ho, ht⟩
    · exact .inl e
    · exact .inr ⟨bm, D, e, hb, hk.map ho (hF bm (.inr e)), ht⟩
theorem Tal.keptN (h : Tal K e tT w B p m l) (hk : Kept Nil w w') : Tal K e tT w' B p m l := h.kept hk (fun _ _ g => g)
theorem Tal.cell0 (h : Tal K e tT w B p m l) : w.cell? ⟨p, 0, none⟩ = some m := by simp [World.cell?, h.here]
theorem Tal.cell1 (h : Tal K e tT w B p m l) : w.cell? ⟨p, 1, none⟩ = some (.int .i64 l.length) := by simp [World.cell?, h.here]
theorem Tal.free (h : Tal K e tT w B p m l) (o : Nat) : w.frozen? ⟨p, o, none⟩ = false := by simp [World.frozen?, h.here]
/-- A block of values of another type is none of a tally's. -/
theorem Tal.other (h : Tal K e tT w B p m l) {k : Nat} {cur : Array Value} {t : TypeId} {fr : Nat × Nat} (hb : w.heap[k]? = some (.cells cur t fr)) (ht : t ≠ tT) : ¬ TFoot p m k := by
  rintro (rfl | rfl)
  · rw [h.here] at hb; injection hb with hb; injection hb with _ h2 _; exact ht h2.symm
  · rcases h.mp with ⟨e, _⟩ | ⟨bm, D, e, _, ho, _⟩
    · cases e
    · cases e
      obtain ⟨es, clock, hbb, _⟩ := ho
      rw [hbb] at hb; cases hb
/-- The look-up of a thing: how often it is wanted. -/
theorem Tal.look (h : Tal K e tT w B p m l) (he : P.underlying e = some (.int .i64)) {tM : TypeId} (hM : P.underlying tM = some (.map K.t e)) (hz : ∀ w, (zeroValue e).run P w = .ok (.int .i64 0) w) {k : κ} (hk : K.ok k) :
    (Instr.lookup tM m (K.enc k) false).run P w = .ok (.int .i64 (cnt k l)) w := by
  rcases h.mp with ⟨rfl, rfl⟩ | ⟨bm, D, rfl, hb, ho, ht⟩
  · exact look_nil (w := w) false K.keyed hM (hz w) (K.key k hk)
  · obtain ⟨c, hrun, hat, _⟩ := ho.lookup_int K.keyed hM he (hz w) (K.key k hk)
    rw [ht.get k hk] at hat
    simp at hat
    rw [hrun, ← hat]
/-- What a tally's call that writes leaves. -/
def TGrew (K : KT P κ) (e tT : TypeId) (w w' : World) (B p : Nat) (m : Value) (l : List κ) : Prop :=
  ∃ m', Tal K e tT w' B p m' l ∧ (∀ k, TFoot p m' k → TFoot p m k ∨ w.heap.size ≤ k) ∧ Kept (TFoot p m) w w'
end
section
variable {P : Program} {κ : Type} [DecidableEq κ] {K : KT P κ} {e tT : TypeId} {w w' : World} {B p : Nat} {m : Value} {l l' : List κ}
/-- A tally whose map is made. -/
theorem Tal.withMap (h : Tal K e tT w B p (.map none) l) : Tal K e tT ((w.setCell ⟨p, 0, none⟩ (.map (some w.heap.size))).alloc (.map #[] 0)) B p (.map (some w.heap.size)) l := by
  have hp := h.lt
  have hB := h.base
  have hsz : (w.setCell ⟨p, 0, none⟩ (.map (some w.heap.size))).heap.size = w.heap.size := by simp [World.setCell]
  rcases h.mp with ⟨_, rfl⟩ | ⟨bm, D, e, _⟩
  rotate_left
  · cases e
  refine ⟨h.len, h.ok, h.base, ?_, .inr ⟨w.heap.size, .map [], rfl, by omega, ?_, Cnt.nil K⟩⟩
  · rw [Below.heap_alloc _ _ p (by rw [hsz]; exact hp)]
    simp [World.setCell, Array.getElem?_modify, h.here]
  · have := World.ownsMap_made (H := Unit) (w.setCell ⟨p, 0, none⟩ (.map (some w.heap.size))) P K.t (plainElem P e)
    rw [hsz] at this
    exact this
theorem TGrew.made (h : TGrew K e tT ((w.setCell ⟨p, 0, none⟩ (.map (some w.heap.size))).alloc (.map #[] 0)) w' B p (.map (some w.heap.size)) l) : TGrew K e tT w w' B p (.map none) l := by
  obtain ⟨m', r1, r2, r3⟩ := h
  have hsz : ((w.setCell ⟨p, 0, none⟩ (.map (some w.heap.size))).alloc (.map #[] 0)).heap.size = w.heap.size + 1 := by simp [World.setCell]
  refine ⟨m', r1, fun k hk => ?_, ?_⟩
  · rcases r2 k hk with (rfl | e) | e
    · exact .inl (.inl rfl)
    · cases e; exact .inr (Nat.le_refl _)
    · exact .inr (by rw [hsz] at e; omega)
  · refine (((Kept.refl _ w).setCell ⟨p, 0, none⟩ (.inl (.inl rfl)) _).alloc _).trans r3 (fun i hi e => ?_)
    rcases e with rfl | e
    · exact .inl rfl
    · cases e; exact absurd hi (Nat.lt_irrefl _)
/-- Behind a call on the map: the tally's own cells stay. -/
theorem Tal.mapped {bm : Nat} (h : Tal K e tT w B p (.map (some bm)) l) (hg : w.grownBy w' (some bm)) :
    w'.heap[p]? = some (.cells #[.map (some bm), .int .i64 l.length] tT (0, 0)) := by
  have hpb : p ≠ bm := fun e => by
    rcases h.mp with ⟨e2, _⟩ | ⟨bm', D, e2, _, ho, _⟩
    · cases e2
    · cases e2
      obtain ⟨es, clock, hbb, _⟩ := ho
      rw [← e, h.here] at hbb; cases hbb
  rw [hg.block p h.lt (fun e => hpb (Option.some.inj e))]
  exact h.here
theorem Tal.done {bm n : Nat} {D : DataW Unit} (h : Tal K e tT w B p (.map (some bm)) l) (hg : w.grownBy w' (some bm)) (ho : w'.ownsMap (H := Unit) P K.t (plainElem P e) bm n D) (hc : Cnt K D l') (hl : l'.length ≤ 10000) (ok : ∀ x ∈ l', K.ok x) {q : Int} (hq : q = l'.length) :
    TGrew K e tT w (w'.setCell ⟨p, 1, none⟩ (.int .i64 q)) B p (.map (some bm)) l' := by
  subst hq
  have hh := h.mapped hg
  have hbp : bm ≠ p := fun e => by
    obtain ⟨es, clock, hbb, _⟩ := ho
    rw [e, hh] at hbb; cases hbb
  have hb := (h.foot (k := bm) (.inr rfl)).1
  refine ⟨.map (some bm), ⟨hl, ok, h.base, ?_, .inr ⟨bm, D, rfl, hb, ownsMap_tight (ho.setCell (a := ⟨p, 1, none⟩) hbp _) hc.size_le, hc⟩⟩, fun k hk => .inl hk, ?_⟩
  · simp [World.setCell, Array.getElem?_modify, hh]
  · exact ((Kept.refl _ w).grown hg (fun k e => .inl (.inr (by cases e; rfl)))).setCell ⟨p, 1, none⟩ (.inl (.inl rfl)) _
end
end Go.Proofs.Ytodghgeghpbdlaa
