/- Whatever call comes: a tree's tokens behind it; the law's Ints. -/
import Derived.Test.YtbaplplaokbnnaaMAwake
import Derived.Test.YtbaplplaokbnnaaMOpen
namespace Go.Proofs.Ytbaplplaokbnnaa
open Go.RowKit Go.Maps Go.WideMaps
set_option maxRecDepth 100000

abbrev TWs := TW KS 78
abbrev TokS := Tok ByteArray
def delL (L : List TokS) (id : Int) : List TokS := if id = 1 ∨ tok L id = none then L else kills L (below L id)
def addL (L : List TokS) (pa : Int) (k : ByteArray) (f : Int) : List TokS := if tok L pa = none then L else L ++ [⟨pa, k, f, false⟩]
def stepL (L : List TokS) (o : Opn) : List TokS := if o.gone = true then delL L o.id else addL L o.id o.at_ o.fact
def runL (top : ByteArray) (l : List Opn) : List TokS := l.foldl stepL [⟨0, top, 0, false⟩]
theorem runL_snoc (top : ByteArray) (l : List Opn) (o : Opn) : runL top (l ++ [o]) = stepL (runL top l) o := by unfold runL; rw [List.foldl_append]; rfl
theorem delL_wf {L : List TokS} (h : WF L) (id : Int) : WF (delL L id) := by
  unfold delL; split
  · exact h
  · exact h.kills
theorem addL_wf {L : List TokS} (h : WF L) (pa : Int) (k : ByteArray) (f : Int) : WF (addL L pa k f) := by
  unfold addL; split
  · exact h
  · rename_i e
    have hb : 1 ≤ pa ∧ pa ≤ L.length := by
      cases e2 : tok L pa with
      | none => exact absurd e2 e
      | some z => exact tok_bound e2
    exact h.more rfl (by show 0 ≤ pa; omega) (by show pa ≤ (L.length : Int); omega)
theorem stepL_wf {L : List TokS} (h : WF L) (o : Opn) : WF (stepL L o) := by
  unfold stepL; split
  · exact delL_wf h _
  · exact addL_wf h _ _ _
theorem delL_len (L : List TokS) (id : Int) : (delL L id).length = L.length := by
  unfold delL; split
  · rfl
  · exact kills_length _ _
theorem addL_len (L : List TokS) (pa : Int) (k : ByteArray) (f : Int) : (addL L pa k f).length ≤ L.length + 1 := by
  unfold addL; split
  · omega
  · simp
theorem stepL_len (L : List TokS) (o : Opn) : (stepL L o).length ≤ L.length + 1 := by
  unfold stepL; split
  · rw [delL_len]; omega
  · exact addL_len _ _ _ _
theorem runL_fold : ∀ (l : List Opn) (L : List TokS), WF L → WF (l.foldl stepL L) ∧ (l.foldl stepL L).length ≤ L.length + l.length
  | [], L, h => ⟨h, by simp⟩
  | o :: r, L, h => by
    obtain ⟨a, b⟩ := runL_fold r (stepL L o) (stepL_wf h o)
    have := stepL_len L o
    exact ⟨a, by rw [List.foldl_cons, List.length_cons]; omega⟩
theorem runL_wf (top : ByteArray) (l : List Opn) : WF (runL top l) := (runL_fold l _ (WF.top _ _)).1
theorem runL_len (top : ByteArray) (l : List Opn) : (runL top l).length ≤ l.length + 1 := by
  have := (runL_fold l [(⟨0, top, 0, false⟩ : TokS)] (WF.top _ _)).2
  unfold runL; simp at this; omega
theorem runL_pos (top : ByteArray) (l : List Opn) : 1 ≤ (runL top l).length := by
  have : ∀ (l : List Opn) (L : List TokS), L.length ≤ (l.foldl stepL L).length := by
    intro l
    induction l with
    | nil => intro L; exact Nat.le_refl _
    | cons o r ih =>
      intro L
      refine Nat.le_trans ?_ (ih (stepL L o))
      unfold stepL
      split
      · rw [delL_len]; exact Nat.le_refl _
      · unfold addL; split
        · exact Nat.le_refl _
        · simp
  exact this l [⟨0, top, 0, false⟩]
theorem runL_take (top : ByteArray) {l : List Opn} {j : Nat} {o : Opn} (h : l[j]? = some o) : runL top (l.take (j + 1)) = stepL (runL top (l.take j)) o := by
  rw [List.take_add_one, h]
  exact runL_snoc top _ o

section
variable {w w1 : World} {p : Nat} {L : List TokS}
theorem del_step (T : TWs w w1 p L) (hwf : WF L) (hl : L.length ≤ 1000) {id : Int} (hw : (Lit.int .i64 id).wf = true) :
    Calls Try.prog 12 #[.pointer (some ⟨p, 0, none⟩), .int .i64 id] w1 fun e w' => ∃ a n cap er, e = .returned (.tuple #[.slice a n cap, .int .i64 er]) ∧ TWs w w' p (delL L id) ∧
      ((id = 1 ∧ n = 0 ∧ er = 13) ∨ (id ≠ 1 ∧ tok L id = none ∧ n = 0 ∧ er = 16) ∨ (id ≠ 1 ∧ tok L id ≠ none ∧ er = 0 ∧ In cG_s 3 w' a n (goneL_s L (below L id)))) := by
  obtain ⟨c, t, lo, k⟩ := T
  by_cases h1 : id = 1
  · subst h1
    refine (delete_top_s w1 p).mono ?_
    rintro e w' ⟨rfl, rfl⟩
    exact ⟨none, 0, 0, 13, rfl, by unfold delL; rw [if_pos (.inl rfl)]; exact ⟨c, t, lo, k⟩, .inl ⟨rfl, rfl, rfl⟩⟩
  · by_cases h2 : tok L id = none
    · refine (delete_no_s t hw h1 h2).mono ?_
      rintro e w' ⟨rfl, k'⟩
      exact ⟨none, 0, 0, 16, rfl, by unfold delL; rw [if_pos (.inr h2)]; exact TW.keptN ⟨c, t, lo, k⟩ k', .inr (.inl ⟨h1, h2, rfl, rfl⟩)⟩
    · refine (delete_yes_s t hwf hl h1 h2).mono ?_
      rintro e w' ⟨a, n, cap, rfl, hI, hG⟩
      exact ⟨a, n, cap, 0, rfl, by unfold delL; rw [if_neg (by simp [h1, h2])]; exact TW.grow lo k hG, .inr (.inr ⟨h1, h2, rfl, hI⟩)⟩
theorem add_step (T : TWs w w1 p L) (hl : L.length ≤ 1000) {pa : Int} (hw : (Lit.int .i64 pa).wf = true) {k : ByteArray} (hk : k.size ≤ maxLen) {f : Int} (hf : (Lit.int .i64 f).wf = true) :
    Calls Try.prog 10 #[.pointer (some ⟨p, 0, none⟩), .int .i64 pa, .string k, .int .i64 f] w1 fun e w' => ∃ r er : Int, e = .returned (.tuple #[.int .i64 r, .int .i64 er]) ∧ TWs w w' p (addL L pa k f) ∧
      ((tok L pa = none ∧ r = 0 ∧ er = 16) ∨ (tok L pa ≠ none ∧ r = (L.length : Int) + 1 ∧ er = 0)) := by
  obtain ⟨c, t, lo, kk⟩ := T
  by_cases h2 : tok L pa = none
  · refine (add_no_s t hw h2 k f).mono ?_
    rintro e w' ⟨rfl, k'⟩
    exact ⟨0, 16, rfl, by unfold addL; rw [if_pos h2]; exact TW.keptN ⟨c, t, lo, kk⟩ k', .inl ⟨h2, rfl, rfl⟩⟩
  · refine (add_yes_s t hl hw h2 hk hf).mono ?_
    rintro e w' ⟨rfl, hG⟩
    exact ⟨_, 0, rfl, by unfold addL; rw [if_neg h2]; exact TW.grow lo kk hG, .inr ⟨h2, rfl, rfl⟩⟩
end

theorem take_eq_succ {α : Type} {x y : List α} {m : Nat} {a b : α} (h : x.take m = y.take m) (ha : x[m]? = some a) (hb : y[m]? = some b) (e : a = b) : x.take (m + 1) = y.take (m + 1) := by
  rw [List.take_add_one, List.take_add_one, h, ha, hb, e]
set_option maxHeartbeats 4000000 in
theorem ints_any {w : World} {a a' : Option Addr} {n n' c c' : Nat} {x y : List Int} (hx : In cN 1 w a n x) (hy : In cN 1 w a' n' y) (hn : n ≤ 100000) (hn' : n' ≤ 100000) :
    Calls Try.prog 30 #[.slice a n c, .slice a' n' c'] w fun e w' => e = .returned (.bool (decide (x = y))) ∧ Kept Nil w w' := by
  have HX := Lib.hid hx
  have HY := Lib.hid hy
  clear hx hy
  by_cases hll : n = n'
  · subst hll
    go_enter Try.func30, Try.ntmps30
    go_wp2_with fail
    go_loopw [13] (fun i wr => ∃ j : Nat, j ≤ n ∧ i = .int .i64 j ∧ x.take j = y.take j ∧ Kept Nil w wr) (fun i _ => n - (intOf i).toNat)
    case atStart => exact ⟨0, Nat.zero_le _, rfl, by simp, Kept.refl _ _⟩
    case round =>
      obtain ⟨j, hj, rfl, hE, hK⟩ := hrel
      have HE := Lib.hid hE
      have HK := Lib.hid hK
      clear hE hK
      by_cases hlt : j < n
      · obtain ⟨u, hu⟩ : ∃ u, x[j]? = some u := ⟨_, List.getElem?_eq_getElem (by rw [HX.out.1]; exact hlt)⟩
        obtain ⟨v, hv⟩ : ∃ v, y[j]? = some v := ⟨_, List.getElem?_eq_getElem (by rw [HY.out.1]; exact hlt)⟩
        obtain ⟨b, o, rfl, hb, hc⟩ := (HX.out.kept HK.out).at_ hu
        obtain ⟨b', o', rfl, hb', hc'⟩ := (HY.out.kept HK.out).at_ hv
        have z0 := hc 0 _ rfl
        have y0 := hc' 0 _ rfl
        simp only [Nat.mul_one, Nat.add_zero] at z0 y0
        have HUV := Lib.hid (And.intro hu hv)
        clear hu hv hc hc'
        by_cases e : u = v
        · subst e
          go_wp2_with fail
          go_quiet (fail)
          go_wp2_with fail
          go_roundw
          case rel => exact ⟨j + 1, hlt, by go_num, take_eq_succ HE.out HUV.out.1 HUV.out.2 rfl, HK.out.drewN _⟩
          case measure => simp [intOf]; omega
        · have hne : (u != v) = true := bne_iff_ne.2 e
          have HN : Hid (decide (x = y) = false) := Lib.hid (decide_eq_false (fun e2 => e (by
            have h1 := HUV.out.1
            rw [e2, HUV.out.2] at h1
            injection h1 with h1
            exact h1.symm)))
          clear e
          go_wp2_with fail
          go_quiet (fail)
          go_wp2_with fail
          go_ret
          exact ⟨ret_bool HN.out.symm, HK.out.drewN _⟩
      · obtain rfl : j = n := by omega
        have hd := Lib.hid (show decide (x = y) = true from decide_eq_true (by
          have := HE.out
          rwa [List.take_of_length_le (by rw [HX.out.1]; exact Nat.le_refl _), List.take_of_length_le (by rw [HY.out.1]; exact Nat.le_refl _)] at this))
        go_wp2_with fail
        go_ret
        exact ⟨ret_bool hd.out.symm, HK.out⟩
  · have hd := Lib.hid (show decide (x = y) = false from decide_eq_false (fun e => hll (by rw [← HX.out.1, ← HY.out.1, e])))
    have hne : (n != n') = true := bne_iff_ne.2 hll
    have hne2 : ((n : Int) != (n' : Int)) = true := bne_iff_ne.2 (by omega)
    clear hll
    go_enter Try.func30, Try.ntmps30
    go_wp2_with fail
    go_ret
    exact ⟨ret_bool hd.out.symm, Kept.refl _ _⟩
end Go.Proofs.Ytbaplplaokbnnaa
