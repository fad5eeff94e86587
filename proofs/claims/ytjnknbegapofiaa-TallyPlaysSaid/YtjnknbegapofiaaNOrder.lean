/- The order of strings by bytes; lists that rise by it; the document's way to put a name into one. No program. -/
import Derived.Test.YtjnknbegapofiaaNMath
import Derived.Sort.EncStr
namespace Go.Proofs.Ytjnknbegapofiaa
open Go.RowKit

theorem bytes_irrefl : ∀ x : List UInt8, Op.bytesLess x x = false
  | [] => rfl
  | a :: r => by
    show (decide (a < a) || (a == a && Op.bytesLess r r)) = false
    rw [bytes_irrefl r]
    simp
theorem bytes_trans : ∀ x y z : List UInt8, Op.bytesLess x y = true → Op.bytesLess y z = true → Op.bytesLess x z = true
  | _, [], _, h, _ => by simp [Op.bytesLess] at h
  | _, _ :: _, [], _, h => by simp [Op.bytesLess] at h
  | [], _ :: _, _ :: _, _, _ => rfl
  | a :: x, b :: y, c :: z, h1, h2 => by
    simp only [Op.bytesLess, Bool.or_eq_true, Bool.and_eq_true, beq_iff_eq, decide_eq_true_eq] at h1 h2 ⊢
    rcases h1 with h1 | ⟨rfl, h1⟩
    · rcases h2 with h2 | ⟨rfl, h2⟩
      · left; rw [UInt8.lt_iff_toNat_lt] at *; omega
      · left; exact h1
    · rcases h2 with h2 | ⟨rfl, h2⟩
      · left; exact h2
      · right; exact ⟨rfl, bytes_trans x y z h1 h2⟩
theorem bytes_total : ∀ x y : List UInt8, x ≠ y → Op.bytesLess x y = true ∨ Op.bytesLess y x = true
  | [], [], h => absurd rfl h
  | [], _ :: _, _ => .inl rfl
  | _ :: _, [], _ => .inr rfl
  | a :: x, b :: y, h => by
    simp only [Op.bytesLess, Bool.or_eq_true, Bool.and_eq_true, beq_iff_eq, decide_eq_true_eq]
    by_cases e : a = b
    · subst e
      rcases bytes_total x y (fun e => h (by rw [e])) with h | h
      · exact .inl (.inr ⟨rfl, h⟩)
      · exact .inr (.inr ⟨rfl, h⟩)
    · have hn : a.toNat ≠ b.toNat := fun e' => e (UInt8.toNat_inj.1 e')
      rcases Nat.lt_or_gt_of_ne hn with h | h
      · exact .inl (.inl (UInt8.lt_iff_toNat_lt.2 h))
      · exact .inr (.inl (UInt8.lt_iff_toNat_lt.2 h))
theorem bytes_asymm {x y : List UInt8} (h : Op.bytesLess x y = true) : Op.bytesLess y x = false := by
  cases h2 : Op.bytesLess y x with
  | false => rfl
  | true => have := bytes_trans _ _ _ h h2; rw [bytes_irrefl] at this; cases this

/-- A name is less than another. -/
def bl (x y : ByteArray) : Prop := Op.bytesLess x.toList y.toList = true
theorem toList_inj {x y : ByteArray} (h : x.toList = y.toList) : x = y := by
  rw [ByteArray.toList_eq, ByteArray.toList_eq] at h
  exact ByteArray.ext (Array.toList_inj.1 h)
theorem bl_irrefl (x : ByteArray) : ¬ bl x x := by unfold bl; rw [bytes_irrefl]; simp
theorem bl_trans {x y z : ByteArray} (h : bl x y) (k : bl y z) : bl x z := bytes_trans _ _ _ h k
theorem bl_total {x y : ByteArray} (h : x ≠ y) : bl x y ∨ bl y x := bytes_total _ _ (fun e => h (toList_inj e))
theorem bl_not {x y : ByteArray} (h : bl x y) : ¬ bl y x := fun k => bl_irrefl _ (bl_trans h k)
/-- As the operations say it. -/
def leb (x y : ByteArray) : Bool := Op.bytesLess x.toList y.toList || x.toList == y.toList
theorem leb_iff {x y : ByteArray} : leb x y = true ↔ bl x y ∨ x = y := by
  unfold leb bl
  rw [Bool.or_eq_true, beq_iff_eq]
  exact ⟨fun h => h.imp id toList_inj, fun h => h.imp id (fun e => by rw [e])⟩
theorem leb_not {x y : ByteArray} (h : leb x y = false) : bl y x := by
  have h1 : ¬ (bl x y ∨ x = y) := fun e => by rw [leb_iff.2 e] at h; cases h
  exact (bl_total (fun e => h1 (.inr e))).resolve_left (fun e => h1 (.inl e))

/-- Two lists that rise and have the same names are one. -/
theorem rising_eq : ∀ {l l' : List ByteArray}, l.Pairwise bl → l'.Pairwise bl → (∀ x, x ∈ l ↔ x ∈ l') → l = l'
  | [], [], _, _, _ => rfl
  | [], y :: r, _, _, h => by have := (h y).2 (List.mem_cons_self ..); simp at this
  | x :: r, [], _, _, h => by have := (h x).1 (List.mem_cons_self ..); simp at this
  | x :: r, y :: s, h1, h2, h => by
    obtain ⟨a1, b1⟩ := List.pairwise_cons.1 h1
    obtain ⟨a2, b2⟩ := List.pairwise_cons.1 h2
    have e : x = y := by
      rcases List.mem_cons.1 ((h x).1 (List.mem_cons_self ..)) with e | e
      · exact e
      · rcases List.mem_cons.1 ((h y).2 (List.mem_cons_self ..)) with e' | e'
        · exact e'.symm
        · exact absurd (a1 y e') (bl_not (a2 x e))
    subst e
    rw [rising_eq b1 b2 (fun z => ⟨fun hz => ?_, fun hz => ?_⟩)]
    · rcases List.mem_cons.1 ((h z).1 (List.mem_cons_of_mem _ hz)) with e | e
      · subst e; exact absurd (a1 z hz) (bl_irrefl z)
      · exact e
    · rcases List.mem_cons.1 ((h z).2 (List.mem_cons_of_mem _ hz)) with e | e
      · subst e; exact absurd (a2 z hz) (bl_irrefl z)
      · exact e

/-! ### The document's Keys -/
/-- One round of the inner loop: the list so far, and whether the name is in it. -/
def putK (x : ByteArray) (s : List ByteArray × Bool) (y : ByteArray) : List ByteArray × Bool :=
  let t := if s.2 = false ∧ leb x y = true then (s.1 ++ [x], true) else s
  (if y = x then t.1 else t.1 ++ [y], t.2)
def endK (x : ByteArray) (s : List ByteArray × Bool) : List ByteArray := if s.2 then s.1 else s.1 ++ [x]
def insK (x : ByteArray) (out : List ByteArray) : List ByteArray := endK x (out.foldl (putK x) ([], false))
def keysK (l : List ByteArray) : List ByteArray := l.foldl (fun out x => insK x out) []
/-- The same, by recursion. -/
def insF (x : ByteArray) : List ByteArray → List ByteArray
  | [] => [x]
  | y :: r => if leb x y then x :: (y :: r).filter (fun z => decide (z ≠ x)) else y :: insF x r
theorem putK_true (x : ByteArray) : ∀ (r n : List ByteArray), r.foldl (putK x) (n, true) = (n ++ r.filter (fun z => decide (z ≠ x)), true)
  | [], n => by simp
  | y :: r, n => by
    rw [List.foldl_cons]
    by_cases e : y = x
    · rw [show putK x (n, true) y = (n, true) from by simp [putK, e], putK_true x r n]; simp [e]
    · rw [show putK x (n, true) y = (n ++ [y], true) from by simp [putK, e], putK_true x r]; simp [e]
theorem putK_false (x : ByteArray) : ∀ (r n : List ByteArray), endK x (r.foldl (putK x) (n, false)) = n ++ insF x r
  | [], n => by simp [endK, insF]
  | y :: r, n => by
    rw [List.foldl_cons, insF]
    by_cases h : leb x y = true
    · rw [if_pos h]
      by_cases e : y = x
      · rw [show putK x (n, false) y = (n ++ [x], true) from by simp [putK, e, e ▸ h], putK_true]; simp [endK, e]
      · rw [show putK x (n, false) y = (n ++ [x] ++ [y], true) from by simp [putK, e, h], putK_true]; simp [endK, e]
    · rw [if_neg h]
      have e : y ≠ x := fun e => h (leb_iff.2 (.inr e.symm))
      rw [show putK x (n, false) y = (n ++ [y], false) from by simp [putK, e, h], putK_false x r]; simp
theorem insK_eq (x : ByteArray) (out : List ByteArray) : insK x out = insF x out := by unfold insK; rw [putK_false]; rfl
theorem insF_mem {x z : ByteArray} : ∀ {out : List ByteArray}, z ∈ insF x out ↔ z = x ∨ z ∈ out
  | [] => by simp [insF]
  | y :: r => by
    rw [insF]
    split
    · by_cases e : z = x
      · simp [e]
      · simp [e]
    · rw [List.mem_cons, insF_mem (out := r), List.mem_cons]
      exact or_left_comm
theorem insF_rising {x : ByteArray} : ∀ {out : List ByteArray}, out.Pairwise bl → (insF x out).Pairwise bl
  | [], _ => by simp [insF]
  | y :: r, h => by
    obtain ⟨a, b⟩ := List.pairwise_cons.1 h
    rw [insF]
    split
    · rename_i hl
      refine List.pairwise_cons.2 ⟨fun z hz => ?_, h.filter _⟩
      obtain ⟨hz1, hz2⟩ := List.mem_filter.1 hz
      have hne : z ≠ x := of_decide_eq_true hz2
      rcases List.mem_cons.1 hz1 with e | e
      · subst e
        exact (leb_iff.1 hl).resolve_right (fun e => hne e.symm)
      · rcases leb_iff.1 hl with h1 | h1
        · exact bl_trans h1 (a z e)
        · rw [h1]; exact a z e
    · rename_i hl
      refine List.pairwise_cons.2 ⟨fun z hz => ?_, insF_rising b⟩
      rcases insF_mem.1 hz with e | e
      · rw [e]; exact leb_not (by simpa using hl)
      · exact a z e
theorem foldK (l : List ByteArray) : ∀ out : List ByteArray, out.Pairwise bl → (l.foldl (fun out x => insK x out) out).Pairwise bl ∧ ∀ z, z ∈ l.foldl (fun out x => insK x out) out ↔ z ∈ out ∨ z ∈ l := by
  induction l with
  | nil => intro out h; exact ⟨h, fun z => by simp⟩
  | cons x r ih =>
    intro out h
    rw [List.foldl_cons, insK_eq]
    obtain ⟨h1, h2⟩ := ih (insF x out) (insF_rising h)
    refine ⟨h1, fun z => ?_⟩
    rw [h2, insF_mem, List.mem_cons]
    rw [or_assoc, or_left_comm]
theorem keysK_rising (l : List ByteArray) : (keysK l).Pairwise bl := (foldK l [] List.Pairwise.nil).1
theorem keysK_mem {l : List ByteArray} {z : ByteArray} : z ∈ keysK l ↔ z ∈ l := by
  have := (foldK l [] List.Pairwise.nil).2 z
  simpa [keysK] using this
theorem rising_nodup {l : List ByteArray} (h : l.Pairwise bl) : l.Nodup := List.Pairwise.imp (S := fun a b => a ≠ b) (fun {a b} (h : bl a b) (e : a = b) => bl_irrefl b (by rw [e] at h; exact h)) h
end Go.Proofs.Ytjnknbegapofiaa
