/- A list of strings, whatever is asked of it: what a law is told. -/
import Derived.Test.YtpjfpmagmclldaaLAwake
import Derived.Test.YtpjfpmagmclldaaLOpen
import Derived.Test.YtpjfpmagmclldaaLRefR
namespace Go.Proofs.Ytpjfpmagmclldaa
set_option maxRecDepth 100000
open Go.RowKit Go.Maps

section
variable {w w' : World} {B p : Nat} {m : Value} {g : Nat → Nat} {row : List Nat} {vals : List ByteArray}
/-- There is such a number in the row, or not. -/
theorem in_row (row : List Nat) (k : Int) : (∃ x ∈ row, k = (x : Int)) ∨ ∀ x ∈ row, (x : Int) ≠ k := by
  by_cases h : ∃ x ∈ row, (x : Int) = k
  · obtain ⟨x, hx, e⟩ := h; exact .inl ⟨x, hx, e.symm⟩
  · exact .inr (fun x hx e => h ⟨x, hx, e⟩)
/-- What Before makes of a list, and of another one's datum alike. -/
def befRow (row : List Nat) (k : Int) (n : Nat) : List Nat := if k.toNat ∈ row ∧ 0 ≤ k then ins row k.toNat n else row
def befVals (row : List Nat) (vals : List ByteArray) (k : Int) (v : ByteArray) : List ByteArray := if k.toNat ∈ row ∧ 0 ≤ k then vals ++ [v] else vals
def befH (row : List Nat) (vals : List ByteArray) (k : Int) : Int := if k.toNat ∈ row ∧ 0 ≤ k then (vals.length : Int) + 1 else 0
theorem bef_in {x : Nat} (hx : x ∈ row) (v : ByteArray) : befRow row (x : Int) (vals.length + 1) = ins row x (vals.length + 1) ∧ befVals row vals (x : Int) v = vals ++ [v] ∧ befH row vals (x : Int) = (vals.length : Int) + 1 := by
  have : ((x : Int).toNat ∈ row ∧ (0 : Int) ≤ (x : Int)) := ⟨by simpa using hx, by omega⟩
  simp only [befRow, befVals, befH, if_pos this]
  simp
theorem bef_out {k : Int} (hk : ∀ x ∈ row, (x : Int) ≠ k) (v : ByteArray) : befRow row k (vals.length + 1) = row ∧ befVals row vals k v = vals ∧ befH row vals k = 0 := by
  have : ¬ (k.toNat ∈ row ∧ (0 : Int) ≤ k) := fun ⟨h1, h2⟩ => hk _ h1 (by omega)
  simp only [befRow, befVals, befH, if_neg this]
  simp
theorem before_any (h : LstS w B p m g row vals) (hl : vals.length ≤ 100000) {k : Int} (hw : (Lit.int .i64 k).wf = true) (v : ByteArray) :
    Calls Try.prog 12 #[.pointer (some ⟨p, 0, none⟩), .int .i64 k, .string v] w fun e w' => e = .returned (.int .i64 (befH row vals k)) ∧ GrewS w w' B p m (befRow row k (vals.length + 1)) (befVals row vals k v) := by
  rcases in_row row k with ⟨x, hx, rfl⟩ | hk
  · obtain ⟨e1, e2, e3⟩ := bef_in (vals := vals) hx v
    rw [e1, e2, e3]
    exact beforeH_s h hl hx v
  · obtain ⟨e1, e2, e3⟩ := bef_out (vals := vals) hk v
    rw [e1, e2, e3]
    exact (beforeN_s h hw hk v).mono fun e w' ⟨he, hww⟩ => ⟨he, m, g, hww ▸ h, .inl rfl, hww ▸ Kept.refl _ _⟩
/-- What Get, and Remove, answer. -/
def getV (row : List Nat) (vals : List ByteArray) (k : Int) : ByteArray := if k.toNat ∈ row ∧ 0 ≤ k then vals[k.toNat - 1]?.getD ⟨#[]⟩ else ⟨#[]⟩
def getB (row : List Nat) (k : Int) : Bool := decide (k.toNat ∈ row ∧ 0 ≤ k)
theorem get_in {x : Nat} (hx : x ∈ row) {v : ByteArray} (hv : vals[x - 1]? = some v) : getV row vals (x : Int) = v ∧ getB row (x : Int) = true := by
  have : ((x : Int).toNat ∈ row ∧ (0 : Int) ≤ (x : Int)) := ⟨by simpa using hx, by omega⟩
  unfold getV getB
  rw [if_pos this]
  exact ⟨by simp [hv], decide_eq_true this⟩
theorem get_out {k : Int} (hk : ∀ x ∈ row, (x : Int) ≠ k) : getV row vals k = ⟨#[]⟩ ∧ getB row k = false := by
  have : ¬ (k.toNat ∈ row ∧ (0 : Int) ≤ k) := fun ⟨h1, h2⟩ => hk _ h1 (by omega)
  unfold getV getB
  rw [if_neg this]
  exact ⟨rfl, decide_eq_false this⟩
theorem get_any (h : LstS w B p m g row vals) (hl : vals.length ≤ 100000) {k : Int} (hw : (Lit.int .i64 k).wf = true) :
    Calls Try.prog 16 #[.pointer (some ⟨p, 0, none⟩), .int .i64 k] w fun e w' => e = .returned (.tuple #[.string (getV row vals k), .bool (getB row k)]) ∧ Kept Nil w w' := by
  rcases in_row row k with ⟨x, hx, rfl⟩ | hk
  · obtain ⟨v, hv, _⟩ := h.cell x hx
    obtain ⟨e1, e2⟩ := get_in hx hv
    rw [e1, e2]
    exact getH_s h (by omega) hx hv
  · obtain ⟨e1, e2⟩ := get_out (vals := vals) hk
    rw [e1, e2]
    exact getN_s h hw hk
theorem remove_any (h : LstS w B p m g row vals) (hl : vals.length ≤ 100000) {k : Int} (hw : (Lit.int .i64 k).wf = true) :
    Calls Try.prog 15 #[.pointer (some ⟨p, 0, none⟩), .int .i64 k] w fun e w' => e = .returned (.tuple #[.string (getV row vals k), .bool (getB row k)]) ∧ LstS w' B p m g (rmI row k) vals ∧ Kept (FoS w B m) w w' := by
  rcases in_row row k with ⟨x, hx, rfl⟩ | hk
  · obtain ⟨v, hv, _⟩ := h.cell x hx
    obtain ⟨e1, e2⟩ := get_in hx hv
    rw [e1, e2, rmI_at]
    obtain ⟨bm, rfl⟩ : ∃ bm, m = .map (some bm) := by
      rcases h.mp with ⟨_, e⟩ | ⟨bm, _, e, _⟩
      · subst e; cases hx
      · exact ⟨bm, e⟩
    exact removeH_s h hl hx hv
  · obtain ⟨e1, e2⟩ := get_out (vals := vals) hk
    rw [e1, e2, rmI_out hk]
    exact (removeN_s h hw hk).mono fun e w' ⟨he, hk'⟩ => ⟨he, h.keptN hk', hk'.mono (fun _ _ e => e.elim)⟩
end

section
variable {w w' : World} {r v : Value} {row : List Nat} {vals : List ByteArray}
/-- The reference answers alike. -/
theorem put_ins : ∀ {row : List Nat} {i x n : Nat}, row.Nodup → row[i]? = some x → row.take i ++ n :: row.drop i = ins row x n
  | [], _, _, _, _, h => by simp at h
  | y :: r, 0, x, n, _, h => by
    have : y = x := by simpa using h
    simp [ins, this]
  | y :: r, i + 1, x, n, hn, h => by
    have h1 := List.nodup_cons.1 hn
    have hr : r[i]? = some x := by simpa using h
    have : y ≠ x := fun e => h1.1 (e ▸ List.mem_of_getElem? hr)
    simp only [List.take_succ_cons, List.drop_succ_cons, List.cons_append, ins, if_neg this]
    rw [put_ins h1.2 hr]
theorem place_of {x : Nat} (hx : x ∈ row) : ∃ i : Nat, row[i]? = some x := by
  obtain ⟨i, hi, e⟩ := List.getElem_of_mem hx
  exact ⟨i, by rw [List.getElem?_eq_getElem hi, e]⟩
theorem beforeR_any (h : RefL w r v row vals) (hl : row.length ≤ 1000) (hm : vals.length ≤ 1000) (hn : row.Nodup) (k : Int) (s : ByteArray) :
    Calls Try.prog 11 #[.agg #[r, v], .int .i64 k, .string s] w fun e w' => ∃ r' v', e = .returned (.tuple #[.agg #[r', v'], .int .i64 (befH row vals k)]) ∧ RefL w' r' v' (befRow row k (vals.length + 1)) (befVals row vals k s) ∧ Kept Nil w w' := by
  rcases in_row row k with ⟨x, hx, rfl⟩ | hk
  · obtain ⟨e1, e2, e3⟩ := bef_in (vals := vals) hx s
    obtain ⟨i, hi⟩ := place_of hx
    rw [e1, e2, e3, ← put_ins hn hi]
    exact beforeRH_any h hl hm hn hi s
  · obtain ⟨e1, e2, e3⟩ := bef_out (vals := vals) hk s
    rw [e1, e2, e3]
    exact (beforeRN_any h hl hk s).mono fun e w' ⟨he, hk'⟩ => ⟨r, v, he, h.keptN hk', hk'⟩
theorem getR_any (h : RefL w r v row vals) (hl : row.length ≤ 1000) (hm : vals.length ≤ 1000) (hn : row.Nodup) (hr : ∀ x ∈ row, 0 < x ∧ x ≤ vals.length) (k : Int) :
    Calls Try.prog 13 #[.agg #[r, v], .int .i64 k] w fun e w' => e = .returned (.tuple #[.string (getV row vals k), .bool (getB row k)]) ∧ Kept Nil w w' := by
  rcases in_row row k with ⟨x, hx, rfl⟩ | hk
  · obtain ⟨i, hi⟩ := place_of hx
    have hxr := hr x hx
    obtain ⟨s, hs⟩ : ∃ s, vals[x - 1]? = some s := ⟨vals[x - 1]'(by omega), by simp⟩
    obtain ⟨e1, e2⟩ := get_in hx hs
    rw [e1, e2]
    exact getRH_any h hl hn hi ⟨hxr.1, by omega⟩ hs
  · obtain ⟨e1, e2⟩ := get_out (vals := vals) hk
    rw [e1, e2]
    exact getRN_any h hl hk
theorem nextR1_any (h : RefL w r v row vals) (hl : row.length ≤ 1000) (hn : row.Nodup) (h0 : 0 ∉ row) (k : Int) :
    Calls Try.prog 18 #[.agg #[r, v], .int .i64 k, .int .i64 1] w fun e w' => e = .returned (.int .i64 (nxI row k : Nat)) ∧ Kept Nil w w' := by
  rcases asked row k with ⟨rfl, e1, _⟩ | ⟨x, hx, rfl, e1, _⟩ | ⟨hk0, hk, e1, _⟩
  · rw [e1]
    refine nextR_first (t := 0) h hl (by omega) (by omega) (by omega) (fun hh => ?_) (fun j hj x hx => ?_)
    · have : row = [] := List.length_eq_zero_iff.1 (by omega)
      subst this; simp [nx]
    · have : j = 0 := by omega
      subst this
      rw [← headD_nx]
      cases row with
      | nil => simp at hx
      | cons y r => simp at hx; simp [hx]
  · rw [e1]
    obtain ⟨i, hi⟩ := place_of hx
    refine nextR_at (t := (i : Int) + 1) h hl hn hi (Nat.pos_of_ne_zero (fun e => h0 (e ▸ hx))) (by omega) rfl (fun hh => ?_) (fun j hj y hy => ?_)
    · rw [nx0_at hn h0 hi, List.getElem?_eq_none (by omega)]; rfl
    · have : j = i + 1 := by omega
      subst this
      rw [nx0_at hn h0 hi, hy]; rfl
  · rw [e1]
    exact nextR_out h hl hk0 hk
theorem nextRm_any (h : RefL w r v row vals) (hl : row.length ≤ 1000) (hn : row.Nodup) (h0 : 0 ∉ row) (k : Int) :
    Calls Try.prog 18 #[.agg #[r, v], .int .i64 k, .int .i64 (-1)] w fun e w' => e = .returned (.int .i64 (pvI row k : Nat)) ∧ Kept Nil w w' := by
  rcases asked row k with ⟨rfl, _, e1⟩ | ⟨x, hx, rfl, _, e1⟩ | ⟨hk0, hk, _, e1⟩
  · rw [e1, bf_out h0]
    refine nextR_last (t := (row.length : Int) - 1) h hl (by omega) (by omega) (by omega) (fun hh => ?_) (fun j hj x hx => ?_)
    · rw [if_pos (by omega)]; rfl
    · have : j = row.length - 1 := by omega
      subst this
      rw [if_neg (by omega), hx]; rfl
  · rw [e1]
    obtain ⟨i, hi⟩ := place_of hx
    have hil := (List.getElem?_eq_some_iff.1 hi).1
    rw [bf_at hn hi]
    refine nextR_at (t := (i : Int) - 1) h hl hn hi (Nat.pos_of_ne_zero (fun e => h0 (e ▸ hx))) (by omega) (by omega) (fun hh => ?_) (fun j hj y hy => ?_)
    · rw [if_pos (by omega)]; rfl
    · have : j = i - 1 := by omega
      subst this
      rw [if_neg (by omega), hy]; rfl
  · rw [e1]
    exact nextR_out h hl hk0 hk
end
end Go.Proofs.Ytpjfpmagmclldaa
