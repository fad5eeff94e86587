/- Layer plain: a part of a slice of steps. No program. -/
import Derived.Test.YtmpoeibkndcnnaaA9
namespace Go.Proofs.Ytmpoeibkndcnnaa
open Go.RowKit
set_option maxRecDepth 100000

theorem SHolds.take {w : World} {b o n cap : Nat} {x : List St} (h : SHolds w Any2 (.slice (some ⟨b, o, none⟩) n cap) x) {m : Nat} (hm : m ≤ n) : SHolds w Any2 (.slice (some ⟨b, o, none⟩) m cap) (x.take m) := by
  have hnx := h.fits
  generalize e : Value.slice (some ⟨b, o, none⟩) n cap = v at h
  cases h with
  | nil a' cap' =>
    cases e
    obtain rfl : m = 0 := by omega
    exact .nil _ _
  | row b' o' cap' _ t u hn hok hr ht hs =>
    cases e
    have hl : (x.take m).length = m := by rw [List.length_take]; omega
    have hg : ∀ (i : Nat) y, (x.take m)[i]? = some y → x[i]? = some y := fun i y hi => by
      have hlt := (List.getElem?_eq_some_iff.1 hi).1
      rw [List.getElem?_take_of_lt (by omega)] at hi
      exact hi
    have := SHolds.row (w := w) (ok := Any2) b o cap (x.take m) t u (by omega) trivial (fun i y hi => hr i y (hg i y hi)) (fun i y hi => ht i y (hg i y hi)) (fun i y hi => hs i y (hg i y hi))
    rw [hl] at this
    exact this
theorem SHolds.drop {w : World} {b o n cap : Nat} {x : List St} (h : SHolds w Any2 (.slice (some ⟨b, o, none⟩) n cap) x) {m : Nat} (hm : m < n) : SHolds w Any2 (.slice (some ⟨b, o + m * 6, none⟩) (n - m) (cap - m)) (x.drop m) := by
  have hnx := h.fits
  generalize e : Value.slice (some ⟨b, o, none⟩) n cap = v at h
  cases h with
  | nil a' cap' => cases e; omega
  | row b' o' cap' _ t u hn hok hr ht hs =>
    cases e
    have hl : (x.drop m).length = x.length - m := List.length_drop
    have hg : ∀ (i : Nat) y, (x.drop m)[i]? = some y → x[m + i]? = some y := fun i y hi => by
      rw [List.getElem?_drop] at hi; exact hi
    have := SHolds.row (w := w) (ok := Any2) b (o + m * 6) (cap - m) (x.drop m) (fun i => t (m + i)) (fun i => u (m + i)) (by omega) trivial (fun i y hi => ?_) (fun i y hi => ht (m + i) y (hg i y hi)) (fun i y hi => hs (m + i) y (hg i y hi))
    · rw [hl] at this
      exact this
    · have := hr (m + i) y (hg i y hi)
      rwa [Nat.add_mul, ← Nat.add_assoc] at this
end Go.Proofs.Ytmpoeibkndcnnaa
