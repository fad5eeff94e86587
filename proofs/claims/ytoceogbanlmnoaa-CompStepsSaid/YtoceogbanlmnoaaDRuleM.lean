/- Layer rule: plain mathematics: when a rule is wrong; fewer conditions; variables turned about. No program. -/
import Derived.Test.YtoceogbanlmnoaaCHasM
namespace Go.Proofs.Ytoceogbanlmnoaa
open Go.RowKit
set_option maxRecDepth 100000

mutual
/-- Of a variable that first stands in the condition's Subs: is it out of place there? -/
def Sh.outS : Sh → Int → Int
  | .mk _ l, v => outL l v
/-- Of a variable that first stands somewhere in these: 1: it stands behind its scope within them; 2: it is bound for all that is behind; 0: for nothing more. -/
def outL : List Sh → Int → Int
  | [], _ => 0
  | s :: r, v => if s.has v = false then outL r v else if s.hd.k = 1 then 2 else if hasL r v = true then 1 else if s.hd.k = 3 ∧ s.outS v = 1 then 1 else 0
end
theorem outS_eq (s : Sh) (v : Int) : s.outS v = outL s.subs v := by cases s; rw [Sh.outS]; rfl
theorem outL_nil (v : Int) : outL [] v = 0 := by rw [outL]
theorem outL_cons (s : Sh) (r : List Sh) (v : Int) : outL (s :: r) v = if s.has v = false then outL r v else if s.hd.k = 1 then 2 else if hasL r v = true then 1 else if s.hd.k = 3 ∧ outL s.subs v = 1 then 1 else 0 := by
  rw [outL, outS_eq]
theorem outL_drop {l : List Sh} {j : Nat} {x : Sh} (h : l[j]? = some x) (v : Int) : outL (l.drop j) v = if x.has v = false then outL (l.drop (j + 1)) v else if x.hd.k = 1 then 2 else if hasL (l.drop (j + 1)) v = true then 1 else if x.hd.k = 3 ∧ outL x.subs v = 1 then 1 else 0 := by
  obtain ⟨hl, e⟩ := List.getElem?_eq_some_iff.1 h
  rw [List.drop_eq_getElem_cons hl, e, outL_cons]
/-- Is some variable out of its place? -/
def outAny (l : List Sh) (n : Nat) : Bool := (List.range n).any fun i => decide (outL l ((i : Int) + 1) = 1)
theorem outAny_succ (l : List Sh) (n : Nat) : outAny l (n + 1) = (outAny l n || decide (outL l ((n : Int) + 1) = 1)) := by
  unfold outAny
  rw [List.range_succ, List.any_append]
  simp
theorem outAny_iff {l : List Sh} {n : Nat} : outAny l n = true ↔ ∃ v : Int, 1 ≤ v ∧ v ≤ n ∧ outL l v = 1 := by
  unfold outAny
  rw [List.any_eq_true]
  constructor
  · rintro ⟨i, hi, h⟩
    have := List.mem_range.1 hi
    exact ⟨(i : Int) + 1, by omega, by omega, by simpa using h⟩
  · rintro ⟨v, h1, h2, h⟩
    refine ⟨(v - 1).toNat, List.mem_range.2 (by omega), ?_⟩
    have : (((v - 1).toNat : Nat) : Int) + 1 = v := by omega
    rw [this]; simpa using h
/-- What is wrong with a rule, whose name is right or not. -/
def chkRule (nm : Bool) (l : List Sh) : Int := if nm = false then 1 else if l.length = 0 then 2 else if chkL l 1 ≠ 0 then chkL l 1 else if 16 < countL l then 7 else if outAny l 32 = true then 6 else 0
theorem chkRule_zero {nm : Bool} {l : List Sh} : chkRule nm l = 0 ↔ nm = true ∧ l.length ≠ 0 ∧ chkL l 1 = 0 ∧ countL l ≤ 16 ∧ outAny l 32 = false := by
  unfold chkRule
  cases nm
  · simp
  · by_cases h0 : l.length = 0
    · simp [h0]
    · by_cases h1 : chkL l 1 = 0
      · by_cases h2 : 16 < countL l
        · simp [h0, h1, h2, show ¬ countL l ≤ 16 by omega]
        · have h2' : countL l ≤ 16 := by omega
          cases h3 : outAny l 32 <;> simp [h0, h1, h2, h2']
      · simp [h0, h1]

/-! ### Fewer conditions -/
theorem chkL_take {l : List Sh} {d : Int} (h : chkL l d = 0) : ∀ k, chkL (l.take k) d = 0 := by
  induction l with
  | nil => intro k; simp [chkL]
  | cons a r ih =>
    intro k
    cases k with
    | zero => rfl
    | succ k =>
      rw [List.take_succ_cons]
      simp only [chkL] at h ⊢
      have h0 : a.chk d = 0 := by
        rcases Classical.em (a.chk d = 0) with e | e
        · exact e
        · rw [if_pos e] at h; exact h
      rw [h0, if_neg (by simp)] at h ⊢
      exact ih h k
theorem hasL_take {l : List Sh} {k : Nat} {v : Int} (h : hasL (l.take k) v = true) : hasL l v = true := by
  induction l generalizing k with
  | nil => simpa using h
  | cons a r ih =>
    cases k with
    | zero => simp [hasL] at h
    | succ k =>
      rw [List.take_succ_cons] at h
      simp only [hasL, Bool.or_eq_true] at h ⊢
      exact h.imp id ih
theorem outL_take {l : List Sh} {k : Nat} {v : Int} (h : outL (l.take k) v = 1) : outL l v = 1 := by
  induction l generalizing k with
  | nil => simpa using h
  | cons a r ih =>
    cases k with
    | zero => rw [List.take_zero, outL_nil] at h; omega
    | succ k =>
      rw [List.take_succ_cons, outL_cons] at h
      rw [outL_cons]
      by_cases h1 : a.has v = false
      · rw [if_pos h1] at h ⊢; exact ih h
      · rw [if_neg h1] at h ⊢
        by_cases h2 : a.hd.k = 1
        · rw [if_pos h2] at h; omega
        · rw [if_neg h2] at h ⊢
          by_cases h3 : hasL r v = true
          · rw [if_pos h3]
          · have h3' : ¬ hasL (r.take k) v = true := fun e => h3 (hasL_take e)
            rw [if_neg h3'] at h
            rw [if_neg h3]
            exact h
theorem chkRule_take {nm : Bool} {l : List Sh} (h : chkRule nm l = 0) {k : Nat} (hk : 1 ≤ k) : chkRule nm (l.take k) = 0 := by
  obtain ⟨h0, h1, h2, h3, h4⟩ := chkRule_zero.1 h
  refine chkRule_zero.2 ⟨h0, by rw [List.length_take]; omega, chkL_take h2 k, Nat.le_trans (countL_take_le l k) h3, ?_⟩
  cases h5 : outAny (l.take k) 32
  · rfl
  · obtain ⟨v, g1, g2, g3⟩ := outAny_iff.1 h5
    have := outAny_iff.2 ⟨v, g1, g2, outL_take g3⟩
    rw [h4] at this
    cases this
/-- How many facts a match has. -/
def idsL (l : List Sh) : Nat := (l.filter fun s => decide (s.hd.k = 1)).length
theorem idsL_take (l : List Sh) (k : Nat) : idsL (l.take k) ≤ idsL l := (List.Sublist.filter _ (List.take_sublist k l)).length_le

/-! ### Variables turned about -/
def turnN (b n : Int) : Int := (n - 1 + b) % 32 + 1
def turnT (b : Int) (x : Bool) (n : Int) : Int := if x = true ∧ 1 ≤ n ∧ n ≤ 32 then turnN b n else n
def Hd.turn (b : Int) (h : Hd) : Hd := ⟨h.k, h.x0, h.x1, h.x2, turnT b h.x0 h.n0, turnT b h.x1 h.n1, turnT b h.x2 h.n2⟩
mutual
def Sh.turn (b : Int) : Sh → Sh
  | .mk h l => .mk (h.turn b) (turnL b l)
def turnL (b : Int) : List Sh → List Sh
  | [] => []
  | s :: r => s.turn b :: turnL b r
end
theorem turnL_eq (b : Int) : ∀ l : List Sh, turnL b l = l.map (Sh.turn b)
  | [] => rfl
  | s :: r => by rw [turnL, turnL_eq b r]; rfl
theorem turn_mk (b : Int) (h : Hd) (l : List Sh) : (Sh.mk h l).turn b = .mk (h.turn b) (turnL b l) := by rw [Sh.turn]
theorem turnL_length (b : Int) (l : List Sh) : (turnL b l).length = l.length := by rw [turnL_eq, List.length_map]
theorem turnN_range {b n : Int} : 1 ≤ turnN b n ∧ turnN b n ≤ 32 := by unfold turnN; omega
theorem turnN_inj {b n m : Int} (hn : 1 ≤ n ∧ n ≤ 32) (hm : 1 ≤ m ∧ m ≤ 32) : turnN b n = turnN b m ↔ n = m := by unfold turnN; omega
theorem turnT_same {b : Int} {x : Bool} {n v : Int} (hv : 1 ≤ v ∧ v ≤ 32) : (x && turnT b x n == turnN b v) = (x && n == v) := by
  cases x
  · rfl
  · rw [Bool.true_and, Bool.true_and]
    unfold turnT
    by_cases hn : 1 ≤ n ∧ n ≤ 32
    · rw [if_pos ⟨rfl, hn⟩, Bool.eq_iff_iff, beq_iff_eq, beq_iff_eq]
      exact turnN_inj hn hv
    · rw [if_neg (fun e => hn e.2), Bool.eq_iff_iff, beq_iff_eq, beq_iff_eq]
      have := @turnN_range b v
      omega
theorem ownN_turn {b v : Int} (hv : 1 ≤ v ∧ v ≤ 32) (h : Hd) : ownN (h.turn b).x0 (h.turn b).x1 (h.turn b).x2 (h.turn b).n0 (h.turn b).n1 (h.turn b).n2 (turnN b v) = ownN h.x0 h.x1 h.x2 h.n0 h.n1 h.n2 v := by
  show ((h.x0 && turnT b h.x0 h.n0 == turnN b v) || ((h.x1 && turnT b h.x1 h.n1 == turnN b v) || (h.x2 && turnT b h.x2 h.n2 == turnN b v))) = _
  rw [turnT_same hv, turnT_same hv, turnT_same hv]
  rfl
theorem has_turn {b v : Int} (hv : 1 ≤ v ∧ v ≤ 32) : (∀ s : Sh, (s.turn b).has (turnN b v) = s.has v) ∧ ∀ l : List Sh, hasL (turnL b l) (turnN b v) = hasL l v := by
  refine Sh.ind2 (fun hd subs ih => ?_) rfl (fun a l ha hl => ?_)
  · rw [turn_mk, has_mk, has_mk, ih, ownN_turn hv]
    rfl
  · rw [turnL, hasL, hasL, ha, hl]
theorem outL_turn {b v : Int} (hv : 1 ≤ v ∧ v ≤ 32) : (∀ s : Sh, outL (s.turn b).subs (turnN b v) = outL s.subs v) ∧ ∀ l : List Sh, outL (turnL b l) (turnN b v) = outL l v := by
  refine Sh.ind2 (fun hd subs ih => ?_) ?_ (fun a l ha hl => ?_)
  · rw [turn_mk]; exact ih
  · rw [turnL, outL_nil, outL_nil]
  · have hk : (a.turn b).hd.k = a.hd.k := by cases a; rw [turn_mk]; rfl
    rw [turnL, outL_cons, outL_cons, (has_turn hv).1, (has_turn hv).2, hl, ha, hk]
theorem okTm_turn (b : Int) (x : Bool) (n : Int) : okTm x (turnT b x n) = okTm x n := by
  cases x
  · unfold turnT; simp
  · unfold turnT
    by_cases hn : 1 ≤ n ∧ n ≤ 32
    · rw [if_pos ⟨rfl, hn⟩]
      have := @turnN_range b n
      rw [(okTm_var).2 hn, (okTm_var).2 this]
    · rw [if_neg (fun e => hn e.2)]
theorem zeroT_turn (b : Int) (x : Bool) (n : Int) : (x = false ∧ turnT b x n = 0) ↔ (x = false ∧ n = 0) := by
  unfold turnT
  cases x <;> simp
theorem sameT_turn (b : Int) (h : Hd) : (h.turn b).sameT zeroH = h.sameT zeroH := by
  unfold Hd.sameT
  show decide ((h.x0 = false ∧ turnT b h.x0 h.n0 = 0) ∧ (h.x1 = false ∧ turnT b h.x1 h.n1 = 0) ∧ (h.x2 = false ∧ turnT b h.x2 h.n2 = 0)) = decide ((h.x0 = false ∧ h.n0 = 0) ∧ (h.x1 = false ∧ h.n1 = 0) ∧ (h.x2 = false ∧ h.n2 = 0))
  simp only [zeroT_turn]
theorem fine_turn (b : Int) (h : Hd) : (h.turn b).fine = h.fine := by
  show (okTm h.x0 (turnT b h.x0 h.n0) && okTm h.x1 (turnT b h.x1 h.n1) && okTm h.x2 (turnT b h.x2 h.n2)) = _
  rw [okTm_turn, okTm_turn, okTm_turn]
  rfl
theorem chk_turn (b : Int) : (∀ s : Sh, ∀ d : Int, (s.turn b).chk d = s.chk d) ∧ ∀ l : List Sh, ∀ d : Int, chkL (turnL b l) d = chkL l d := by
  refine Sh.ind2 (fun hd subs ih d => ?_) (fun d => rfl) (fun a l ha hl d => ?_)
  · rw [turn_mk, chk_mk, chk_mk]
    unfold nccT termsT
    rw [sameT_turn, fine_turn, turnL_length, ih]
    rfl
  · rw [turnL, chkL, chkL, ha, hl]
theorem count_turn (b : Int) : (∀ s : Sh, (s.turn b).count = s.count) ∧ ∀ l : List Sh, countL (turnL b l) = countL l := by
  refine Sh.ind2 (fun hd subs ih => ?_) rfl (fun a l ha hl => ?_)
  · rw [turn_mk, Sh.count, Sh.count, ih]
  · rw [turnL, countL, countL, ha, hl]
theorem chkRule_turn (b : Int) (nm : Bool) (l : List Sh) : chkRule nm (turnL b l) = chkRule nm l := by
  have ho : outAny (turnL b l) 32 = outAny l 32 := by
    rw [Bool.eq_iff_iff, outAny_iff, outAny_iff]
    constructor
    · rintro ⟨v, h1, h2, h3⟩
      obtain ⟨u, hu1, hu2, hu3⟩ : ∃ u : Int, 1 ≤ u ∧ u ≤ 32 ∧ turnN b u = v := ⟨(v - 1 - b) % 32 + 1, by omega, by omega, by unfold turnN; omega⟩
      refine ⟨u, hu1, hu2, ?_⟩
      rw [← hu3, (outL_turn ⟨hu1, hu2⟩).2] at h3
      exact h3
    · rintro ⟨v, h1, h2, h3⟩
      have := @turnN_range b v
      exact ⟨turnN b v, this.1, this.2, by rw [(outL_turn ⟨h1, h2⟩).2]; exact h3⟩
  unfold chkRule
  rw [turnL_length, (chk_turn b).2, (count_turn b).2, ho]
end Go.Proofs.Ytoceogbanlmnoaa
