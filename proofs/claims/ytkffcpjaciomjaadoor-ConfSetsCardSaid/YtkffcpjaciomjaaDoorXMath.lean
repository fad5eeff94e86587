/- Matches as pairs of a name and ids: their order; sorted, each once; what the document's sort does, and what a compacted list is. No program. -/
import Derived.Test.YtkffcpjaciomjaaDoorIn
import Derived.Sort.EncStr
import Derived.Lib.Bytealg
namespace Go.Proofs.YtkffcpjaciomjaaDoor
open Go.RowKit

theorem bytes_irrefl : ∀ x : List UInt8, Op.bytesLess x x = false
  | [] => rfl
  | a :: r => by
    show (decide (a < a) || (a == a && Op.bytesLess r r)) = false
    rw [bytes_irrefl r]
    simp
theorem bytes_trans : ∀ x y z : List UInt8, Op.bytesLess x y = true → Op.bytesLess y z = true → Op.bytesLess x z = true
  | _, [], _, h, _ => by simp [Op.bytesLess] at h
  | _, _ :: _, [], _, h => by simp [Op.bytesLess] at h
  | [], _ :: _, _ :: _, _, _ => rfl
  | a :: x, b :: y, c :: z, h1, h2 => by
    simp only [Op.bytesLess, Bool.or_eq_true, Bool.and_eq_true, beq_iff_eq, decide_eq_true_eq] at h1 h2 ⊢
    rcases h1 with h1 | ⟨rfl, h1⟩
    · rcases h2 with h2 | ⟨rfl, h2⟩
      · left; rw [UInt8.lt_iff_toNat_lt] at *; omega
      · left; exact h1
    · rcases h2 with h2 | ⟨rfl, h2⟩
      · left; exact h2
      · right; exact ⟨rfl, bytes_trans x y z h1 h2⟩
theorem bytes_total : ∀ x y : List UInt8, x ≠ y → Op.bytesLess x y = true ∨ Op.bytesLess y x = true
  | [], [], h => absurd rfl h
  | [], _ :: _, _ => .inl rfl
  | _ :: _, [], _ => .inr rfl
  | a :: x, b :: y, h => by
    simp only [Op.bytesLess, Bool.or_eq_true, Bool.and_eq_true, beq_iff_eq, decide_eq_true_eq]
    by_cases e : a = b
    · subst e
      rcases bytes_total x y (fun e => h (by rw [e])) with h | h
      · exact .inl (.inr ⟨rfl, h⟩)
      · exact .inr (.inr ⟨rfl, h⟩)
    · have hn : a.toNat ≠ b.toNat := fun e' => e (UInt8.toNat_inj.1 e')
      rcases Nat.lt_or_gt_of_ne hn with h | h
      · exact .inl (.inl (UInt8.lt_iff_toNat_lt.2 h))
      · exact .inr (.inl (UInt8.lt_iff_toNat_lt.2 h))
theorem bytes_asymm {x y : List UInt8} (h : Op.bytesLess x y = true) : Op.bytesLess y x = false := by
  cases h2 : Op.bytesLess y x with
  | false => rfl
  | true => have := bytes_trans _ _ _ h h2; rw [bytes_irrefl] at this; cases this

/-- A name is less than another. -/
def bl (x y : ByteArray) : Prop := Op.bytesLess x.toList y.toList = true
theorem toList_inj {x y : ByteArray} (h : x.toList = y.toList) : x = y := by
  rw [ByteArray.toList_eq, ByteArray.toList_eq] at h
  exact ByteArray.ext (Array.toList_inj.1 h)
theorem bl_irrefl (x : ByteArray) : ¬ bl x x := by unfold bl; rw [bytes_irrefl]; simp
theorem bl_trans {x y z : ByteArray} (h : bl x y) (k : bl y z) : bl x z := bytes_trans _ _ _ h k
theorem bl_total {x y : ByteArray} (h : x ≠ y) : bl x y ∨ bl y x := bytes_total _ _ (fun e => h (toList_inj e))
theorem bl_not {x y : ByteArray} (h : bl x y) : ¬ bl y x := fun k => bl_irrefl _ (bl_trans h k)

/-- strings.Compare by the order of bytes. -/
theorem compareBytes_eq : ∀ x y : List UInt8, Lib.compareBytes x y = if Op.bytesLess x y then -1 else if Op.bytesLess y x then 1 else 0
  | [], [] => rfl
  | [], _ :: _ => rfl
  | _ :: _, [] => rfl
  | a :: x, b :: y => by
    rw [Lib.compareBytes, compareBytes_eq x y]
    show _ = if (decide (a < b) || (a == b && Op.bytesLess x y)) then _ else if (decide (b < a) || (b == a && Op.bytesLess y x)) then _ else _
    by_cases h1 : a < b
    · simp [h1]
    · by_cases h2 : b < a
      · have : ¬ a = b := fun e => by subst e; exact h1 h2
        simp [h1, h2, this]
      · have e : a = b := by
          have h1' : ¬ a.toNat < b.toNat := fun h => h1 (UInt8.lt_iff_toNat_lt.2 h)
          have h2' : ¬ b.toNat < a.toNat := fun h => h2 (UInt8.lt_iff_toNat_lt.2 h)
          exact UInt8.toNat_inj.1 (by omega)
        subst e
        simp [h1]
theorem cmpB_eq (x y : ByteArray) : Lib.compareBytes x.data.toList y.data.toList = if Op.bytesLess x.toList y.toList then -1 else if Op.bytesLess y.toList x.toList then 1 else 0 := by
  rw [compareBytes_eq, ByteArray.toList_eq, ByteArray.toList_eq]

/-! ### Ids -/
def ltI : List Int → List Int → Bool
  | _, [] => false
  | [], _ :: _ => true
  | a :: r, b :: s => if a = b then ltI r s else decide (a < b)
theorem ltI_irrefl : ∀ x : List Int, ltI x x = false
  | [] => rfl
  | a :: r => by rw [ltI, if_pos rfl, ltI_irrefl r]
theorem ltI_trans : ∀ x y z : List Int, ltI x y = true → ltI y z = true → ltI x z = true
  | _, [], _, h, _ => by simp [ltI] at h
  | _, _ :: _, [], _, h => by simp [ltI] at h
  | [], _ :: _, _ :: _, _, _ => rfl
  | a :: x, b :: y, c :: z, h1, h2 => by
    rw [ltI] at h1 h2 ⊢
    by_cases e1 : a = b
    · subst e1
      rw [if_pos rfl] at h1
      by_cases e2 : a = c
      · subst e2
        rw [if_pos rfl] at h2 ⊢
        exact ltI_trans x y z h1 h2
      · rw [if_neg e2] at h2 ⊢; exact h2
    · rw [if_neg e1] at h1
      by_cases e2 : b = c
      · subst e2
        rw [if_neg e1]; exact h1
      · rw [if_neg e2] at h2
        simp at h1 h2
        rw [if_neg (by omega)]
        simp; omega
theorem ltI_total : ∀ x y : List Int, x ≠ y → ltI x y = true ∨ ltI y x = true
  | [], [], h => absurd rfl h
  | [], _ :: _, _ => .inl rfl
  | _ :: _, [], _ => .inr rfl
  | a :: x, b :: y, h => by
    rw [ltI, ltI]
    by_cases e : a = b
    · subst e
      rw [if_pos rfl, if_pos rfl]
      exact ltI_total x y (fun e => h (by rw [e]))
    · rw [if_neg e, if_neg (fun e' => e e'.symm)]
      simp; omega
theorem ltI_app : ∀ p x y : List Int, ltI (p ++ x) (p ++ y) = ltI x y
  | [], _, _ => rfl
  | a :: p, x, y => by
    show ltI (a :: (p ++ x)) (a :: (p ++ y)) = _
    rw [ltI, if_pos rfl, ltI_app p x y]
/-- Where the first k are alike. -/
theorem ltI_at {x y : List Int} {k : Nat} (h : x.take k = y.take k) : ltI x y = ltI (x.drop k) (y.drop k) := by
  conv => lhs; rw [← List.take_append_drop k x, ← List.take_append_drop k y, h]
  rw [ltI_app]
theorem take_more {x y : List Int} {k : Nat} {a : Int} (h : x.take k = y.take k) (hx : x[k]? = some a) (hy : y[k]? = some a) : x.take (k + 1) = y.take (k + 1) := by
  rw [List.take_add_one, List.take_add_one, h, hx, hy]
theorem drop_at {x : List Int} {k : Nat} {a : Int} (h : x[k]? = some a) : x.drop k = a :: x.drop (k + 1) := by
  obtain ⟨hk, e⟩ := List.getElem?_eq_some_iff.1 h
  rw [← e]
  exact List.drop_eq_getElem_cons hk
theorem ltI_diff {x y : List Int} {k : Nat} {a b : Int} (h : x.take k = y.take k) (hx : x[k]? = some a) (hy : y[k]? = some b) (hab : a ≠ b) : ltI x y = decide (a < b) := by
  rw [ltI_at h, drop_at hx, drop_at hy, ltI, if_neg hab]
theorem ltI_left {x y : List Int} (h : x.take x.length = y.take x.length) (hl : x.length < y.length) : ltI x y = true := by
  rw [ltI_at h, List.drop_eq_nil_of_le (Nat.le_refl _)]
  cases e : y.drop x.length with
  | nil => have := congrArg List.length e; simp at this; omega
  | cons a r => rfl
theorem ltI_right {x y : List Int} (h : x.take y.length = y.take y.length) : ltI x y = false := by
  rw [ltI_at h, List.drop_eq_nil_of_le (Nat.le_refl y.length)]
  cases x.drop y.length <;> rfl
theorem eq_of_take {x y : List Int} (h : x.take x.length = y.take x.length) (hl : y.length ≤ x.length) : x = y := by
  rw [List.take_of_length_le (Nat.le_refl _), List.take_of_length_le hl] at h; exact h
def cmpI (x y : List Int) : Int := if ltI x y then -1 else if ltI y x then 1 else 0

/-! ### Matches -/
abbrev M := ByteArray × List Int
instance : DecidableEq M := fun x y => by
  have h1 : Decidable (x.1 = y.1) := inferInstance
  have h2 : Decidable (x.2 = y.2) := inferInstance
  exact decidable_of_iff (x.1 = y.1 ∧ x.2 = y.2) ⟨fun h => Prod.ext h.1 h.2, fun h => by rw [h]; exact ⟨rfl, rfl⟩⟩
instance (m : M) (l : List M) : Decidable (m ∈ l) := @List.instDecidableMemOfLawfulBEq M instBEqOfDecidableEq inferInstance m l
def ltM (x y : M) : Bool := if x.1 = y.1 then ltI x.2 y.2 else Op.bytesLess x.1.toList y.1.toList
def cmpM (x y : M) : Int := if ltM x y then -1 else if ltM y x then 1 else 0
theorem ltM_irrefl (x : M) : ltM x x = false := by unfold ltM; rw [if_pos rfl, ltI_irrefl]
theorem ltM_trans (x y z : M) (h1 : ltM x y = true) (h2 : ltM y z = true) : ltM x z = true := by
  unfold ltM at *
  by_cases e1 : x.1 = y.1
  · rw [if_pos e1] at h1
    rw [e1]
    by_cases e2 : y.1 = z.1
    · rw [if_pos e2] at h2 ⊢
      exact ltI_trans _ _ _ h1 h2
    · rw [if_neg e2] at h2 ⊢; exact h2
  · rw [if_neg e1] at h1
    by_cases e2 : y.1 = z.1
    · rw [if_neg (by rw [← e2]; exact e1), ← e2]; exact h1
    · rw [if_neg e2] at h2
      have h3 := bytes_trans _ _ _ h1 h2
      rw [if_neg (fun e => by rw [e, bytes_irrefl] at h3; cases h3)]; exact h3
theorem ltM_total (x y : M) (h : x ≠ y) : ltM x y = true ∨ ltM y x = true := by
  unfold ltM
  by_cases e : x.1 = y.1
  · rw [if_pos e, if_pos e.symm]
    exact ltI_total _ _ (fun e2 => h (Prod.ext e e2))
  · rw [if_neg e, if_neg (fun e' => e e'.symm)]
    exact bl_total e
theorem ltM_asymm {x y : M} (h : ltM x y = true) : ltM y x = false := by
  cases h2 : ltM y x with
  | false => rfl
  | true => have := ltM_trans _ _ _ h h2; rw [ltM_irrefl] at this; cases this
theorem ltM_eq {x y : M} (h1 : ltM x y = false) (h2 : ltM y x = false) : x = y := by
  by_cases e : x = y
  · exact e
  · rcases ltM_total x y e with h | h
    · rw [h1] at h; cases h
    · rw [h2] at h; cases h
theorem cmpM_lt {x y : M} (h : ltM x y = true) : cmpM x y = -1 := by unfold cmpM; rw [if_pos h]
theorem cmpM_gt {x y : M} (h : ltM y x = true) : cmpM x y = 1 := by unfold cmpM; rw [ltM_asymm h, h]; rfl
theorem cmpM_self (x : M) : cmpM x x = 0 := by unfold cmpM; rw [ltM_irrefl]; rfl
theorem cmpM_zero {x y : M} : cmpM x y = 0 ↔ x = y := by
  constructor
  · intro h
    by_cases e : x = y
    · exact e
    · rcases ltM_total x y e with g | g
      · rw [cmpM_lt g] at h; cases h
      · rw [cmpM_gt g] at h; cases h
  · rintro rfl; exact cmpM_self _
theorem cmpM_neg {x y : M} : cmpM x y < 0 ↔ ltM x y = true := by
  constructor
  · intro h
    by_cases e : x = y
    · subst e; rw [cmpM_self] at h; omega
    · rcases ltM_total x y e with g | g
      · exact g
      · rw [cmpM_gt g] at h; omega
  · intro h; rw [cmpM_lt h]; decide
theorem cmpM_swap (x y : M) : cmpM y x = - cmpM x y := by
  by_cases e : x = y
  · subst e; rw [cmpM_self]; rfl
  · rcases ltM_total x y e with g | g
    · rw [cmpM_lt g, cmpM_gt g]; rfl
    · rw [cmpM_lt g, cmpM_gt g]
/-- Out of the two comparisons that make it. -/
theorem cmpM_names {x y : M} (h : x.1 ≠ y.1) : cmpM x y = Lib.compareBytes x.1.data.toList y.1.data.toList := by
  have e1 : ltM x y = Op.bytesLess x.1.toList y.1.toList := by unfold ltM; rw [if_neg h]
  have e2 : ltM y x = Op.bytesLess y.1.toList x.1.toList := by unfold ltM; rw [if_neg (fun e => h e.symm)]
  unfold cmpM
  rw [cmpB_eq, e1, e2]
theorem cmpM_ids {x y : M} (h : x.1 = y.1) : cmpM x y = cmpI x.2 y.2 := by
  have e1 : ltM x y = ltI x.2 y.2 := by unfold ltM; rw [if_pos h]
  have e2 : ltM y x = ltI y.2 x.2 := by unfold ltM; rw [if_pos h.symm]
  unfold cmpM cmpI
  rw [e1, e2]
theorem cmpB_zero {x y : ByteArray} : Lib.compareBytes x.data.toList y.data.toList = 0 ↔ x = y := by
  rw [cmpB_eq]
  constructor
  · intro h
    by_cases e : x = y
    · exact e
    · rcases bl_total e with g | g
      · unfold bl at g; rw [g] at h; simp at h
      · have g2 := bytes_asymm g
        unfold bl at g; rw [g2, g] at h; simp at h
  · rintro rfl; rw [bytes_irrefl]; rfl

/-! ### Rising lists -/
def Srt (l : List M) : Prop := l.Pairwise fun x y => ltM x y = true
theorem srt_eq : ∀ {l l' : List M}, Srt l → Srt l' → (∀ x, x ∈ l ↔ x ∈ l') → l = l'
  | [], [], _, _, _ => rfl
  | [], y :: r, _, _, h => by have := (h y).2 (List.mem_cons_self ..); simp at this
  | x :: r, [], _, _, h => by have := (h x).1 (List.mem_cons_self ..); simp at this
  | x :: r, y :: s, h1, h2, h => by
    obtain ⟨a1, b1⟩ := List.pairwise_cons.1 h1
    obtain ⟨a2, b2⟩ := List.pairwise_cons.1 h2
    have e : x = y := by
      rcases List.mem_cons.1 ((h x).1 (List.mem_cons_self ..)) with e | e
      · exact e
      · rcases List.mem_cons.1 ((h y).2 (List.mem_cons_self ..)) with e' | e'
        · exact e'.symm
        · have h3 := ltM_asymm (a1 y e'); rw [a2 x e] at h3; cases h3
    subst e
    have nx : ∀ {t : List M}, (∀ z ∈ t, ltM x z = true) → x ∉ t := fun ht hm => by have := ht x hm; rw [ltM_irrefl] at this; cases this
    rw [srt_eq b1 b2 (fun z => ⟨fun hz => ?_, fun hz => ?_⟩)]
    · rcases List.mem_cons.1 ((h z).1 (List.mem_cons_of_mem _ hz)) with e | e
      · subst e; exact absurd hz (nx a1)
      · exact e
    · rcases List.mem_cons.1 ((h z).2 (List.mem_cons_of_mem _ hz)) with e | e
      · subst e; exact absurd hz (nx a2)
      · exact e
theorem Srt.filter {l : List M} (h : Srt l) (p : M → Bool) : Srt (l.filter p) := List.Pairwise.filter p h
theorem Srt.nodup {l : List M} (h : Srt l) : l.Nodup := List.Pairwise.imp (S := fun a b => a ≠ b) (fun {a b} (h : ltM a b = true) (e : a = b) => by rw [e, ltM_irrefl] at h; cases h) h

/-! ### The document's sort -/
/-- One round of the inner loop: the list so far, and whether the match is in it. -/
def putM (m : M) (s : List M × Bool) (y : M) : List M × Bool :=
  let t := if s.2 = false ∧ ltM m y = true then (s.1 ++ [m], true) else s
  (t.1 ++ [y], t.2)
def endM (m : M) (s : List M × Bool) : List M := if s.2 then s.1 else s.1 ++ [m]
def insM (m : M) (out : List M) : List M := if m ∈ out then out else endM m (out.foldl (putM m) ([], false))
def sortM (l : List M) : List M := l.foldl (fun out x => insM x out) []
def insF (m : M) : List M → List M
  | [] => [m]
  | y :: r => if ltM m y then m :: y :: r else y :: insF m r
theorem putM_true (m : M) : ∀ (r n : List M), r.foldl (putM m) (n, true) = (n ++ r, true)
  | [], n => by simp
  | y :: r, n => by rw [List.foldl_cons, show putM m (n, true) y = (n ++ [y], true) from by simp [putM], putM_true m r]; simp
theorem putM_false (m : M) : ∀ (r n : List M), endM m (r.foldl (putM m) (n, false)) = n ++ insF m r
  | [], n => by simp [endM, insF]
  | y :: r, n => by
    rw [List.foldl_cons, insF]
    by_cases h : ltM m y = true
    · rw [if_pos h, show putM m (n, false) y = (n ++ [m] ++ [y], true) from by simp [putM, h], putM_true]; simp [endM]
    · rw [if_neg h, show putM m (n, false) y = (n ++ [y], false) from by simp [putM, h], putM_false m r]; simp
theorem insM_eq (m : M) (out : List M) : insM m out = if m ∈ out then out else insF m out := by unfold insM; rw [putM_false]; rfl
theorem insF_mem {m z : M} : ∀ {out : List M}, z ∈ insF m out ↔ z = m ∨ z ∈ out
  | [] => by simp [insF]
  | y :: r => by
    rw [insF]
    split
    · simp
    · rw [List.mem_cons, insF_mem (out := r), List.mem_cons]
      exact or_left_comm
theorem insF_len (m : M) : ∀ out : List M, (insF m out).length = out.length + 1
  | [] => rfl
  | y :: r => by
    rw [insF]
    split
    · rfl
    · rw [List.length_cons, insF_len m r]; rfl
theorem insF_srt {m : M} : ∀ {out : List M}, Srt out → m ∉ out → Srt (insF m out)
  | [], _, _ => by simp [insF, Srt]
  | y :: r, h, hm => by
    obtain ⟨a, b⟩ := List.pairwise_cons.1 h
    rw [insF]
    split
    · rename_i hl
      refine List.pairwise_cons.2 ⟨fun z hz => ?_, h⟩
      rcases List.mem_cons.1 hz with e | e
      · rw [e]; exact hl
      · exact ltM_trans _ _ _ hl (a z e)
    · rename_i hl
      refine List.pairwise_cons.2 ⟨fun z hz => ?_, insF_srt b (fun h => hm (List.mem_cons_of_mem _ h))⟩
      rcases insF_mem.1 hz with e | e
      · rw [e]
        exact (ltM_total m y (fun e => hm (by rw [e]; exact List.mem_cons_self ..))).resolve_left hl
      · exact a z e
theorem insM_mem {m z : M} {out : List M} : z ∈ insM m out ↔ z = m ∨ z ∈ out := by
  rw [insM_eq]
  split
  · rename_i h
    exact ⟨.inr, fun h' => h'.elim (fun e => e ▸ h) id⟩
  · exact insF_mem
theorem insM_srt {m : M} {out : List M} (h : Srt out) : Srt (insM m out) := by
  rw [insM_eq]
  split
  · exact h
  · rename_i hm; exact insF_srt h hm
theorem insM_len (m : M) (out : List M) : (insM m out).length ≤ out.length + 1 := by
  rw [insM_eq]
  split
  · omega
  · rw [insF_len]; omega
theorem foldM (l : List M) : ∀ out : List M, Srt out → Srt (l.foldl (fun out x => insM x out) out) ∧ ∀ z, z ∈ l.foldl (fun out x => insM x out) out ↔ z ∈ out ∨ z ∈ l := by
  induction l with
  | nil => intro out h; exact ⟨h, fun z => by simp⟩
  | cons x r ih =>
    intro out h
    rw [List.foldl_cons]
    obtain ⟨h1, h2⟩ := ih (insM x out) (insM_srt h)
    refine ⟨h1, fun z => ?_⟩
    rw [h2, insM_mem, List.mem_cons, or_assoc, or_left_comm]
theorem sortM_srt (l : List M) : Srt (sortM l) := (foldM l [] List.Pairwise.nil).1
theorem sortM_mem {l : List M} {z : M} : z ∈ sortM l ↔ z ∈ l := by
  have := (foldM l [] List.Pairwise.nil).2 z
  simpa [sortM] using this
theorem foldM_len (l : List M) : ∀ out : List M, (l.foldl (fun out x => insM x out) out).length ≤ out.length + l.length := by
  induction l with
  | nil => intro out; simp
  | cons x r ih =>
    intro out
    rw [List.foldl_cons]
    have := ih (insM x out)
    have := insM_len x out
    rw [List.length_cons]; omega
theorem sortM_len (l : List M) : (sortM l).length ≤ l.length := by have := foldM_len l []; simpa [sortM] using this
theorem sortM_snoc (l : List M) (x : M) : sortM (l ++ [x]) = insM x (sortM l) := by unfold sortM; rw [List.foldl_append]; rfl
theorem sortM_of_srt {l s : List M} (h : Srt s) (hm : ∀ z, z ∈ s ↔ z ∈ l) : s = sortM l := srt_eq h (sortM_srt l) (fun z => by rw [hm, sortM_mem])
def withoutM (a b : List M) : List M := (sortM a).filter fun m => decide (m ∉ b)
theorem withoutM_mem {a b : List M} {z : M} : z ∈ withoutM a b ↔ z ∈ a ∧ z ∉ b := by unfold withoutM; rw [List.mem_filter, sortM_mem]; simp
theorem withoutM_srt (a b : List M) : Srt (withoutM a b) := (sortM_srt a).filter _

/-! ### A list whose neighbours are alike but once -/
section
variable {α : Type} (f : α → M)
/-- Those unlike the one ahead of them. -/
def cpt (p : M) : List α → List α
  | [] => []
  | x :: r => if f x = p then cpt p r else x :: cpt (f x) r
def cptL : List α → List α
  | [] => []
  | x :: r => x :: cpt f (f x) r
end
theorem cpt_sub {α : Type} {f : α → M} : ∀ {p : M} {l : List α} {x : α}, x ∈ cpt f p l → x ∈ l
  | _, [], _, h => h
  | p, y :: r, x, h => by
    rw [cpt] at h
    split at h
    · exact List.mem_cons_of_mem _ (cpt_sub h)
    · rcases List.mem_cons.1 h with e | e
      · rw [e]; exact List.mem_cons_self ..
      · exact List.mem_cons_of_mem _ (cpt_sub e)
theorem cptL_sub {α : Type} {f : α → M} {l : List α} {x : α} (h : x ∈ cptL f l) : x ∈ l := by
  cases l with
  | nil => exact h
  | cons y r =>
    rcases List.mem_cons.1 h with e | e
    · rw [e]; exact List.mem_cons_self ..
    · exact List.mem_cons_of_mem _ (cpt_sub e)
/-- No later one is less. -/
def Wk (l : List M) : Prop := l.Pairwise fun x y => ltM y x = false
theorem cpt_spec {α : Type} {f : α → M} : ∀ {p : M} {l : List α}, Wk (p :: l.map f) → Srt (p :: (cpt f p l).map f) ∧ ∀ z, z ∈ p :: (cpt f p l).map f ↔ z ∈ p :: l.map f
  | p, [], _ => ⟨by simp [cpt, Srt], fun z => by simp [cpt]⟩
  | p, y :: r, h => by
    obtain ⟨a, b⟩ := List.pairwise_cons.1 h
    rw [cpt]
    by_cases e : f y = p
    · rw [if_pos e]
      have h2 : Wk (p :: r.map f) := List.pairwise_cons.2 ⟨fun z hz => a z (List.mem_cons_of_mem _ hz), (List.pairwise_cons.1 b).2⟩
      obtain ⟨s1, s2⟩ := cpt_spec h2
      refine ⟨s1, fun z => ?_⟩
      rw [s2 z, List.map_cons, e]; simp
    · rw [if_neg e]
      obtain ⟨s1, s2⟩ := cpt_spec (p := f y) (l := r) b
      have hpy : ltM p (f y) = true := (ltM_total p (f y) (fun e' => e e'.symm)).resolve_right (by rw [a (f y) (List.mem_cons_self ..)]; simp)
      refine ⟨List.pairwise_cons.2 ⟨fun z hz => ?_, s1⟩, fun z => ?_⟩
      · rcases List.mem_cons.1 hz with e1 | e1
        · rw [e1]; exact hpy
        · exact ltM_trans _ _ _ hpy ((List.pairwise_cons.1 s1).1 z e1)
      · rw [List.map_cons, List.mem_cons, s2 z, List.map_cons, List.mem_cons (a := z) (b := p)]
theorem cptL_spec {α : Type} {f : α → M} {l : List α} (h : Wk (l.map f)) : (cptL f l).map f = sortM (l.map f) := by
  cases l with
  | nil => rfl
  | cons x r =>
    obtain ⟨s1, s2⟩ := cpt_spec (p := f x) (l := r) h
    exact sortM_of_srt s1 s2
theorem cptL_len {α : Type} {f : α → M} (l : List α) : (cptL f l).length ≤ l.length := by
  have : ∀ (l : List α) (p : M), (cpt f p l).length ≤ l.length := by
    intro l
    induction l with
    | nil => intro p; exact Nat.le_refl _
    | cons y r ih =>
      intro p
      rw [cpt]
      split
      · have := ih p; rw [List.length_cons]; omega
      · have := ih (f y); rw [List.length_cons, List.length_cons]; omega
  cases l with
  | nil => exact Nat.le_refl _
  | cons y r => have := this r (f y); show _ + 1 ≤ _ + 1; omega
/-- One more at the end. -/
theorem cpt_snoc {α : Type} {f : α → M} : ∀ (l : List α) (p : M) (y x : α) , (p :: l.map f).getLast? = some (f y) → cpt f p (l ++ [x]) = if f x = f y then cpt f p l else cpt f p l ++ [x]
  | [], p, y, x, h => by
    simp at h
    subst h
    show (if f x = f y then cpt f (f y) [] else x :: cpt f (f x) []) = _
    simp [cpt]
  | z :: r, p, y, x, h => by
    have h2 : (f z :: r.map f).getLast? = some (f y) := by rw [List.map_cons] at h; simpa [List.getLast?_cons_cons] using h
    show (if f z = p then cpt f p (r ++ [x]) else z :: cpt f (f z) (r ++ [x])) = _
    by_cases e : f z = p
    · rw [if_pos e, cpt_snoc r p y x (by rw [← e]; exact h2)]
      simp [cpt, e]
    · rw [if_neg e, cpt_snoc r (f z) y x h2]
      simp only [cpt, e, if_false]
      split <;> rfl
theorem cptL_snoc {α : Type} {f : α → M} {l : List α} {k : Nat} {y x : α} (hy : l[k]? = some y) (hx : l[k + 1]? = some x) : cptL f (l.take (k + 2)) = if f x = f y then cptL f (l.take (k + 1)) else cptL f (l.take (k + 1)) ++ [x] := by
  have e2 : l.take (k + 2) = l.take (k + 1) ++ [x] := by rw [List.take_add_one (i := k + 1), hx]; rfl
  rw [e2]
  cases l with
  | nil => cases hy
  | cons z r =>
    show z :: cpt f (f z) (r.take k ++ [x]) = _
    have hl : (f z :: (r.take k).map f).getLast? = some (f y) := by
      have : ((z :: r).take (k + 1)).getLast? = some y := by
        rw [List.take_add_one, hy]; simp
      have := congrArg (Option.map f) this
      rw [← List.getLast?_map] at this
      exact this
    rw [cpt_snoc _ _ y x hl]
    show _ = if f x = f y then z :: cpt f (f z) (r.take k) else (z :: cpt f (f z) (r.take k)) ++ [x]
    split <;> rfl
end Go.Proofs.YtkffcpjaciomjaaDoor
