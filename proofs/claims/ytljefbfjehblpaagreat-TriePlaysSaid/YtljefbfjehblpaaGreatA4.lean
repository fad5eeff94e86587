/- Numbers that rise: put in, taken out; a map's datum that has just these, each with true (out of XOMath). No program. – The keys of two types: strings, numbers (out of XNKeys). -/
import Derived.Test.YtljefbfjehblpaaGreatA3
import Derived.Test.YtljefbfjehblpaaGreatA1
import Derived.StringKeys
import Derived.Defers
import Derived.Recover
namespace Go.Proofs.YtljefbfjehblpaaGreat
section
open Go.RowKit Go.Maps

/-! ### Ids that rise -/
def Rise (l : List Int) : Prop := l.Pairwise (fun x y => x < y)
def ins (x : Int) : List Int → List Int
  | [] => [x]
  | y :: r => if x < y then x :: y :: r else y :: ins x r
def put (l : List Int) (x : Int) : List Int := if x ∈ l then l else ins x l
def del (x : Int) (l : List Int) : List Int := l.filter (fun y => decide (y ≠ x))
theorem Rise.nodup {l : List Int} (h : Rise l) : l.Nodup := List.Pairwise.imp (R := fun (a b : Int) => a < b) (S := fun a b => a ≠ b) (fun {a b} (h : a < b) (e : a = b) => by omega) h
theorem rise_eq : ∀ {l l' : List Int}, Rise l → Rise l' → (∀ x, x ∈ l ↔ x ∈ l') → l = l'
  | [], [], _, _, _ => rfl
  | [], y :: r, _, _, h => by have := (h y).2 (List.mem_cons_self ..); simp at this
  | x :: r, [], _, _, h => by have := (h x).1 (List.mem_cons_self ..); simp at this
  | x :: r, y :: s, h1, h2, h => by
    obtain ⟨a1, b1⟩ := List.pairwise_cons.1 h1
    obtain ⟨a2, b2⟩ := List.pairwise_cons.1 h2
    have e : x = y := by
      rcases List.mem_cons.1 ((h x).1 (List.mem_cons_self ..)) with e | e
      · exact e
      · rcases List.mem_cons.1 ((h y).2 (List.mem_cons_self ..)) with e' | e'
        · exact e'.symm
        · have h1 := a1 y e'
          have h2 := a2 x e
          omega
    subst e
    rw [rise_eq b1 b2 (fun z => ⟨fun hz => ?_, fun hz => ?_⟩)]
    · rcases List.mem_cons.1 ((h z).1 (List.mem_cons_of_mem _ hz)) with e | e
      · subst e; have := a1 z hz; omega
      · exact e
    · rcases List.mem_cons.1 ((h z).2 (List.mem_cons_of_mem _ hz)) with e | e
      · subst e; have := a2 z hz; omega
      · exact e
theorem mem_ins {x y : Int} : ∀ {l : List Int}, y ∈ ins x l ↔ y = x ∨ y ∈ l
  | [] => by simp [ins]
  | z :: r => by
    rw [ins]
    split
    · simp
    · rw [List.mem_cons, mem_ins, List.mem_cons]
      exact ⟨fun h => h.elim (fun e => .inr (.inl e)) (fun h => h.elim .inl (fun h => .inr (.inr h))), fun h => h.elim (fun e => .inr (.inl e)) (fun h => h.elim .inl (fun h => .inr (.inr h)))⟩
theorem rise_ins {x : Int} : ∀ {l : List Int}, Rise l → x ∉ l → Rise (ins x l)
  | [], _, _ => List.pairwise_singleton _ _
  | z :: r, h, hx => by
    obtain ⟨a, b⟩ := List.pairwise_cons.1 h
    rw [ins]
    split
    · rename_i hlt
      refine List.pairwise_cons.2 ⟨fun y hy => ?_, h⟩
      rcases List.mem_cons.1 hy with rfl | hy
      · exact hlt
      · have := a y hy; omega
    · rename_i hge
      refine List.pairwise_cons.2 ⟨fun y hy => ?_, rise_ins b (fun h => hx (List.mem_cons_of_mem _ h))⟩
      rcases mem_ins.1 hy with rfl | hy
      · have : y ≠ z := fun e => hx (by rw [e]; exact List.mem_cons_self ..)
        omega
      · exact a y hy
theorem ins_length (x : Int) : ∀ l : List Int, (ins x l).length = l.length + 1
  | [] => rfl
  | z :: r => by
    rw [ins]
    split
    · rfl
    · rw [List.length_cons, ins_length x r, List.length_cons]
theorem ins_last {x : Int} : ∀ {l : List Int}, (∀ y ∈ l, y < x) → ins x l = l ++ [x]
  | [], _ => rfl
  | z :: r, h => by
    rw [ins, if_neg (by have := h z (List.mem_cons_self ..); omega), ins_last (fun y hy => h y (List.mem_cons_of_mem _ hy))]; rfl
theorem mem_put {l : List Int} {x y : Int} : y ∈ put l x ↔ y = x ∨ y ∈ l := by
  unfold put
  split
  · rename_i h
    exact ⟨.inr, fun e => e.elim (fun e => e ▸ h) id⟩
  · exact mem_ins
theorem rise_put {l : List Int} (h : Rise l) (x : Int) : Rise (put l x) := by
  unfold put
  split
  · exact h
  · rename_i hx; exact rise_ins h hx
theorem put_le (l : List Int) (x : Int) : (put l x).length ≤ l.length + 1 := by
  unfold put
  split
  · omega
  · rw [ins_length]; exact Nat.le_refl _
theorem put_in {l : List Int} {x : Int} (h : x ∈ l) : put l x = l := if_pos h
theorem put_out {l : List Int} {x : Int} (h : x ∉ l) : put l x = ins x l := if_neg h
theorem mem_del {l : List Int} {x y : Int} : y ∈ del x l ↔ y ∈ l ∧ y ≠ x := by simp [del]
theorem rise_del {l : List Int} (h : Rise l) (x : Int) : Rise (del x l) := h.filter _
theorem del_le (l : List Int) (x : Int) : (del x l).length ≤ l.length := List.length_filter_le _ _
theorem del_out {l : List Int} {x : Int} (h : x ∉ l) : del x l = l := by
  unfold del
  rw [List.filter_eq_self]
  intro y hy
  exact decide_eq_true (fun e => h (e ▸ hy))
theorem del_length {x : Int} : ∀ {l : List Int}, Rise l → x ∈ l → (del x l).length + 1 = l.length
  | [], _, h => by simp at h
  | z :: r, hr, h => by
    obtain ⟨a, b⟩ := List.pairwise_cons.1 hr
    unfold del
    rw [List.filter_cons]
    rcases List.mem_cons.1 h with rfl | h
    · have hn : x ∉ r := fun hx => by have := a x hx; omega
      have := del_out hn
      unfold del at this
      rw [if_neg (by simp), this]; rfl
    · have hne : z ≠ x := fun e => by have := a x h; omega
      have := del_length b h
      unfold del at this
      rw [if_pos (by simpa using hne), List.length_cons, List.length_cons]
      omega

/-! ### A map of ids -/
theorem int_ne {a b : Int} (h : a ≠ b) : Lit.int .i64 a ≠ .int .i64 b := fun e => h (by simpa using e)
/-- A map's datum that has just these ids, each with true. -/
structure SetD (D : DataW Unit) (l : List Int) : Prop where
  tidy : Tidy D
  size : Maps.size D = l.length
  has : ∀ x, Maps.has D (.int .i64 x) = decide (x ∈ l)
  get : ∀ x, D.atKey (.int .i64 x) (.lit (.bool false)) = .lit (.bool (decide (x ∈ l)))
theorem SetD.nil : SetD (.map []) [] := ⟨tidy_empty, rfl, fun _ => by simp [Maps.has], fun _ => rfl⟩
theorem SetD.put {D : DataW Unit} {l : List Int} (h : SetD D l) (x : Int) : SetD (D.put (.int .i64 x) (.lit (.bool true))) (put l x) := by
  refine ⟨h.tidy.put (by trivial) _, ?_, fun y => ?_, fun y => ?_⟩
  · rw [size_put h.tidy, h.has, h.size]
    unfold Proofs.YtljefbfjehblpaaGreat.put
    by_cases e : x ∈ l
    · simp [e]
    · simp [e, ins_length]
  · by_cases e : y = x
    · subst e
      rw [has_put_same h.tidy.isMap (by trivial)]
      exact (decide_eq_true (mem_put.2 (.inl rfl))).symm
    · rw [has_put_other (int_ne e), h.has]
      congr 1
      exact propext ⟨fun h => mem_put.2 (.inr h), fun h => (mem_put.1 h).resolve_left e⟩
  · by_cases e : y = x
    · subst e
      rw [atKey_put_same h.tidy.isMap (by trivial), decide_eq_true (mem_put.2 (.inl rfl))]
    · rw [atKey_put_other (int_ne e), h.get]
      congr 2
      exact decide_eq_decide.2 ⟨fun h => mem_put.2 (.inr h), fun h => (mem_put.1 h).resolve_left e⟩
theorem SetD.del {D : DataW Unit} {l : List Int} (h : SetD D l) (hr : Rise l) (x : Int) : SetD (D.del (.int .i64 x)) (del x l) := by
  refine ⟨h.tidy.del _, ?_, fun y => ?_, fun y => ?_⟩
  · have h1 := size_del h.tidy (k := .int .i64 x)
    rw [h.has, h.size] at h1
    by_cases e : x ∈ l
    · have := del_length hr e
      rw [decide_eq_true e] at h1
      simp at h1
      omega
    · rw [decide_eq_false e] at h1
      rw [del_out e]
      simpa using h1
  · by_cases e : y = x
    · subst e
      rw [has_del_same]
      exact (decide_eq_false (fun h => (mem_del.1 h).2 rfl)).symm
    · rw [has_del_other (int_ne e), h.has]
      congr 1
      exact propext ⟨fun h => mem_del.2 ⟨h, e⟩, fun h => (mem_del.1 h).1⟩
  · by_cases e : y = x
    · subst e
      rw [atKey_del_same, decide_eq_false (fun h => (mem_del.1 h).2 rfl)]
    · rw [atKey_del_other (int_ne e), h.get]
      congr 2
      exact decide_eq_decide.2 ⟨fun h => mem_del.2 ⟨h, e⟩, fun h => (mem_del.1 h).1⟩
end
section
open Go.RowKit Go.Maps Go.WideMaps
set_option maxRecDepth 100000

def KS : KT Tryz.prog ByteArray := ⟨9, .string, fun s => .string s.data.toList, fun s => s.size ≤ maxLen, string_keyed Tryz.underlying9, fun _ h => keyOf_string_mk Tryz.underlying9 h, fun _ _ h => by injection h⟩
def KI : KT Tryz.prog Int := ⟨3, .int .i64, .int .i64, fun a => (Lit.int .i64 a).wf = true, int_keyed Tryz.underlying3, fun _ h => keyOf_int_mk Tryz.underlying3 h, fun _ _ h => by injection h⟩
theorem zeroI (w : World) : (zeroValue 3).run Tryz.prog w = .ok (.int .i64 0) w := by kernel_rfl
theorem zeroS (w : World) : (zeroValue 9).run Tryz.prog w = .ok (.string ByteArray.empty) w := by kernel_rfl
end
end Go.Proofs.YtljefbfjehblpaaGreat
