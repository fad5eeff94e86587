/- A memory of facts: All: the facts, rising by ids. -/
import Derived.Test.YtgnpclcoinndpaaWAdd
import Derived.Test.YtgnpclcoinndpaaWIn
import Derived.Test.YtgnpclcoinndpaaWShelf
import Derived.Maps.RangeWalk
namespace Go.Proofs.Ytgnpclcoinndpaa
open Go.RowKit Go.Maps Go.Shelf Go.Sort
set_option maxRecDepth 100000

/-! ### Comparing ids -/
def cmp1 (x y : Int) : Int := if x < y then -1 else if y < x then 1 else 0
theorem cmpInt_any (x y : Int) (w : World) :
    Calls Try.prog 24 #[.int .i64 x, .int .i64 y] w fun e w' => e = .returned (.int .i64 (cmp1 x y)) ∧ w' = w := by
  rcases Int.lt_trichotomy x y with h | h | h
  · have H := Lib.hid (show cmp1 x y = -1 by unfold cmp1; rw [if_pos h])
    go_enter Try.func24, Try.ntmps24
    go_wp2
    go_ret
    exact ⟨ret_int H.out.symm, rfl⟩
  · subst h
    have H := Lib.hid (show cmp1 x x = 0 by unfold cmp1; rw [if_neg (by omega), if_neg (by omega)])
    go_enter Try.func24, Try.ntmps24
    go_wp2
    go_ret
    exact ⟨ret_int H.out.symm, rfl⟩
  · have H := Lib.hid (show cmp1 x y = 1 by unfold cmp1; rw [if_neg (by omega), if_pos h])
    go_enter Try.func24, Try.ntmps24
    go_wp2
    go_ret
    exact ⟨ret_int H.out.symm, rfl⟩
/-- A fact's cells, by its id, where f tells the triples. -/
def encG (f : Int → T3) (k : Int) : List Value := encF (k, f k)
theorem encG_len (f : Int → T3) (k : Int) : (encG f k).length = 4 := rfl
theorem encG_one (f : Int → T3) (k : Int) : ∀ v ∈ encG f k, v.oneCell' = true := encF_one _
theorem closure_any (x y : F4) (w : World) :
    Calls Try.prog 23 #[.agg #[.int .i64 x.1, .int .i64 x.2.1, .int .i64 x.2.2.1, .int .i64 x.2.2.2], .agg #[.int .i64 y.1, .int .i64 y.2.1, .int .i64 y.2.2.1, .int .i64 y.2.2.2]] w fun e w' => e = .returned (.int .i64 (cmp1 x.1 y.1)) ∧
      w' = (w.alloc (.cells #[.int .i64 x.1, .int .i64 x.2.1, .int .i64 x.2.2.1, .int .i64 x.2.2.2] 60)).alloc (.cells #[.int .i64 y.1, .int .i64 y.2.1, .int .i64 y.2.2.1, .int .i64 y.2.2.2] 60) := by
  go_enter Try.func23, Try.ntmps23
  go_wp2_with (go_at_call 24; refine (cmpInt_any _ _ _).mono ?_; rintro e w1 ⟨rfl, rfl⟩)
  go_ret
  exact ⟨rfl, rfl⟩
theorem ltOf_cmp (x y : Int) : ltOf cmp1 x y = decide (x < y) := by
  unfold ltOf cmp1
  by_cases h : x < y
  · rw [if_pos h, decide_eq_true h]; rfl
  · rw [if_neg h, decide_eq_false h]
    split <;> rfl
theorem swo1 : SWO (ltOf cmp1) where
  irrefl x := by rw [ltOf_cmp]; simp
  trans x y z h1 h2 := by rw [ltOf_cmp] at *; simp at *; omega
  ntrans x y z h1 h2 := by rw [ltOf_cmp] at *; simp at *; omega
theorem tot1 (x y : Int) (h1 : ltOf cmp1 x y = false) (h2 : ltOf cmp1 y x = false) : x = y := by rw [ltOf_cmp] at *; simp at *; omega
theorem cmpLays1 (f : Int → T3) (blk off size : Nat) (w : World) : CmpLays Try.prog 23 #[] (encG f) 4 cmp1 blk off size w := fun m os dk _ x y => by
  refine (closure_any (x, f x) (y, f y) _).mono ?_
  rintro e w' ⟨he, hw⟩
  exact ⟨he, 0, _, by rw [hw, alloc_eq_grow, alloc_eq_grow, grow_grow]; rfl⟩

/-! ### What lies in a row, before and behind a sort -/
section
variable {α : Type} [Inhabited α] {cells : α → List Value} {e : TypeId} {size : Nat} {w w' : World} {B : Nat} {l : List α}
theorem Row.holdsK {g n cap : Nat} (h : Row cells e size w B (.slice (some ⟨g, 0, none⟩) n cap) l) (hsz : ∀ x, (cells x).length = size) (hs : 0 < size) : HoldsK cells size w g 0 l.toArray := by
  intro j hj
  rw [size_flatK] at hj
  rw [get_flatK _ _ _ _ hj]
  obtain ⟨cur, hh⟩ := h.block rfl
  have hj' : j < l.length * size := hj
  have hi : j / size < l.length := Nat.div_lt_of_lt_mul (by rw [Nat.mul_comm]; exact hj')
  obtain ⟨t, ht⟩ : ∃ t, l[j / size]? = some t := ⟨_, List.getElem?_eq_getElem hi⟩
  have e1 : l.toArray[j / size]! = t := by
    rw [getElem!_pos l.toArray (j / size) (by simpa using hi)]
    exact Option.some.inj ((List.getElem?_eq_getElem hi).symm.trans ht)
  refine ⟨?_, by simp [World.frozen?, hh]⟩
  have hm : j % size < (cells t).length := by rw [hsz]; exact Nat.mod_lt _ hs
  obtain ⟨b, off, eb, _, hc⟩ := (h.toIn hsz hs).at_ ht
  cases eb
  rw [e1, getElem!_pos (cells t) (j % size) hm]
  have := hc (j % size) _ (List.getElem?_eq_getElem hm)
  rw [Nat.zero_add, Nat.mul_comm, Nat.div_add_mod] at this
  rw [Nat.zero_add]
  exact this
theorem in_of_holdsK {g : Nat} {d : Array α} (h : HoldsK cells size w g 0 d) (hg : g < w.heap.size) (hsz : ∀ x, (cells x).length = size) : In cells size w (some ⟨g, 0, none⟩) d.size d.toList := by
  refine ⟨by simp, .inr ⟨g, 0, rfl, hg, fun j x i v hj hi => ?_⟩⟩
  have hjd : j < d.size := by have := (List.getElem?_eq_some_iff.1 hj).1; simpa using this
  have e1 : d[j]! = x := by
    rw [getElem!_pos d j hjd]
    have := List.getElem?_eq_getElem (l := d.toList) (i := j) (by simpa using hjd)
    rw [hj] at this
    exact (Option.some.inj this).symm
  have hi' : i < size := by rw [← hsz x]; exact (List.getElem?_eq_some_iff.1 hi).1
  have := (HoldsK.cell h hjd (c := i) hi').1
  rw [e1, getElem!_pos (cells x) i (by rw [hsz]; exact hi')] at this
  rw [this, ← hi]
  exact (List.getElem?_eq_getElem (by rw [hsz]; exact hi')).symm
/-- What a sort leaves but for its own block. -/
theorem kept_sortWorld (w : World) (g n : Nat) (d : Array α) (os : Array Obj) : Kept (fun k => k = g) w (sortWorldK cells size w g 0 n d os) := by
  unfold sortWorldK
  refine (?_ : Kept (fun k => k = g) w (putRowK cells size (Sort.ahead w n) g 0 d)).trans (Kept.mono (F := Nil) ?_ (fun _ _ h => h.elim)) (fun _ _ h => h)
  · refine ⟨rfl, rfl, rfl, by simp [putRowK, putRow, mapBlock, Sort.ahead], fun k hk hF => ?_⟩
    show (w.heap.modify g _)[k]? = _
    rw [Array.getElem?_modify, if_neg (fun e => hF e.symm)]
  · exact ⟨rfl, rfl, rfl, by simp [Sort.grow], fun k hk _ => by simp [Sort.grow, Array.getElem?_append, hk]⟩
end
end Go.Proofs.Ytgnpclcoinndpaa
