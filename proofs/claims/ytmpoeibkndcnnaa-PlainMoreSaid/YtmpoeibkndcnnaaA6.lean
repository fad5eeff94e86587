/- Layer term: the contract of the reference's Right of layer triple. – Layer test, plain mathematics: what it means that a triple meets a step; that it does just if the condition's terms fit it with what the chain's triples have bound. No program. – Layer plain, plain mathematics: the matches by terms and bindings, and by steps; they are one. No program. – Layer plain, plain mathematics of steps: how many matches they have; the steps of right conditions are good ones. No program. – Layer plain, plain mathematics of the program's walk: what is handed on, in its order; what is left to hand on, by what stands in the list of choices. No program. – Elements that lie at a slice, whatever their cells are (XWIn without facts: for every later layer). No program. -/
import Derived.Test.YtmpoeibkndcnnaaA5
import Derived.Test.YtmpoeibkndcnnaaA2
namespace Go.Proofs.Ytmpoeibkndcnnaa
section
open Go.RowKit

abbrev T3 := Int × Int × Int
/-- A symbol's number. -/
def okSy (n : Int) : Bool := decide (1 ≤ n ∧ n ≤ 4096)
def okT (t : T3) : Bool := okSy t.1 && (okSy t.2.1 && okSy t.2.2)
theorem okSy_iff {n : Int} : okSy n = true ↔ 1 ≤ n ∧ n ≤ 4096 := by unfold okSy; exact decide_eq_true_iff
theorem okT_iff {t : T3} : okT t = true ↔ (1 ≤ t.1 ∧ t.1 ≤ 4096) ∧ (1 ≤ t.2.1 ∧ t.2.1 ≤ 4096) ∧ (1 ≤ t.2.2 ∧ t.2.2 ≤ 4096) := by
  unfold okT; simp [okSy_iff]
/-- A triple, as a value. -/
def arrT (t : T3) : Value := .agg #[.int .i64 t.1, .int .i64 t.2.1, .int .i64 t.2.2]
theorem okT_bad1 {t : T3} (h : okSy t.1 = false) : okT t = false := by unfold okT; rw [h]; rfl
theorem okT_bad2 {t : T3} (h : okSy t.2.1 = false) : okT t = false := by unfold okT; rw [h]; simp
theorem okT_bad3 {t : T3} (h : okSy t.2.2 = false) : okT t = false := by unfold okT; rw [h]; simp
theorem okT_good {t : T3} (h1 : okSy t.1 = true) (h2 : okSy t.2.1 = true) (h3 : okSy t.2.2 = true) : okT t = true := by unfold okT; rw [h1, h2, h3]; rfl
theorem okSy_no {n : Int} (h : okSy n = false) : n < 1 ∨ 4096 < n := by unfold okSy at h; have := of_decide_eq_false h; omega

set_option maxHeartbeats 1000000 in
theorem refTri_any (t : T3) (w : World) :
    Calls Try.prog 30 #[arrT t] w fun e w' => e = .returned (.bool (okT t)) ∧ Kept Nil w w' := by
  obtain ⟨a, b, c⟩ := t
  show Calls Try.prog 30 #[.agg #[.int .i64 a, .int .i64 b, .int .i64 c]] w _
  go_enter Try.func30, Try.ntmps30
  go_wp2
  go_loop [3] (fun i => i = .int .i64 0 ∨ (okSy a = true ∧ i = .int .i64 1) ∨ (okSy a = true ∧ okSy b = true ∧ i = .int .i64 2) ∨ (okSy a = true ∧ okSy b = true ∧ okSy c = true ∧ i = .int .i64 3)) (fun i => (3 - intOf i).toNat)
  case atStart => exact .inl rfl
  case round =>
    rcases hrel with rfl | ⟨h1, rfl⟩ | ⟨h1, h2, rfl⟩ | ⟨h1, h2, h3, rfl⟩
    · by_cases h : okSy a = true
      · have hb := okSy_iff.1 h
        have H := Lib.hid h
        clear h
        obtain ⟨l, u⟩ := hb
        go_wp2
        go_round
        case rel => exact .inr (.inl ⟨H.out, rfl⟩)
        case measure => decide
      · have hb := okSy_no (by simpa using h)
        have H := Lib.hid (okT_bad1 (t := (a, b, c)) (by simpa using h))
        clear h
        rcases hb with hb | hb
        all_goals go_wp2
        all_goals go_ret
        all_goals exact ⟨ret_bool H.out.symm, (Kept.refl _ _).alloc _⟩
    · have H1 := Lib.hid h1
      clear h1
      by_cases h : okSy b = true
      · have hb := okSy_iff.1 h
        have H := Lib.hid h
        clear h
        obtain ⟨l, u⟩ := hb
        go_wp2
        go_round
        case rel => exact .inr (.inr (.inl ⟨H1.out, H.out, rfl⟩))
        case measure => decide
      · have hb := okSy_no (by simpa using h)
        have H := Lib.hid (okT_bad2 (t := (a, b, c)) (by simpa using h))
        clear h
        rcases hb with hb | hb
        all_goals go_wp2
        all_goals go_ret
        all_goals exact ⟨ret_bool H.out.symm, (Kept.refl _ _).alloc _⟩
    · have H1 := Lib.hid h1
      have H2 := Lib.hid h2
      clear h1 h2
      by_cases h : okSy c = true
      · have hb := okSy_iff.1 h
        have H := Lib.hid h
        clear h
        obtain ⟨l, u⟩ := hb
        go_wp2
        go_round
        case rel => exact .inr (.inr (.inr ⟨H1.out, H2.out, H.out, rfl⟩))
        case measure => decide
      · have hb := okSy_no (by simpa using h)
        have H := Lib.hid (okT_bad3 (t := (a, b, c)) (by simpa using h))
        clear h
        rcases hb with hb | hb
        all_goals go_wp2
        all_goals go_ret
        all_goals exact ⟨ret_bool H.out.symm, (Kept.refl _ _).alloc _⟩
    · have H := Lib.hid (okT_good (t := (a, b, c)) h1 h2 h3)
      clear h1 h2 h3
      go_wp2
      go_ret
      exact ⟨ret_bool H.out.symm, (Kept.refl _ _).alloc _⟩
end
section
open Go.RowKit
set_option maxRecDepth 100000

/-! ### Keys -/
def hasF (s k : Int) : Bool := decide (k = 0 ∨ k = s)
def hasK (t k : T3) : Bool := hasF t.1 k.1 && (hasF t.2.1 k.2.1 && hasF t.2.2 k.2.2)
theorem hasF_iff {s k : Int} : hasF s k = true ↔ k = 0 ∨ k = s := by unfold hasF; exact decide_eq_true_iff
theorem hasF_no {s k : Int} (h : hasF s k = false) : k ≠ 0 ∧ k ≠ s := by unfold hasF at h; have := of_decide_eq_false h; omega
theorem hasK_iff {t k : T3} : hasK t k = true ↔ (k.1 = 0 ∨ k.1 = t.1) ∧ (k.2.1 = 0 ∨ k.2.1 = t.2.1) ∧ (k.2.2 = 0 ∨ k.2.2 = t.2.2) := by unfold hasK; simp [hasF_iff]
theorem hasK_bad1 {t k : T3} (h : hasF t.1 k.1 = false) : hasK t k = false := by unfold hasK; rw [h]; rfl
theorem hasK_bad2 {t k : T3} (h : hasF t.2.1 k.2.1 = false) : hasK t k = false := by unfold hasK; rw [h]; simp
theorem hasK_bad3 {t k : T3} (h : hasF t.2.2 k.2.2 = false) : hasK t k = false := by unfold hasK; rw [h]; simp
theorem hasK_good {t k : T3} (h1 : hasF t.1 k.1 = true) (h2 : hasF t.2.1 k.2.1 = true) (h3 : hasF t.2.2 k.2.2 = true) : hasK t k = true := by unfold hasK; rw [h1, h2, h3]; rfl

/-! ### Tests -/
/-- A triple's field. -/
def fld (t : T3) (f : Int) : Int := if f = 0 then t.1 else if f = 1 then t.2.1 else t.2.2
/-- The triple that a test holds a triple against. -/
def backT (x : Tst) (bk : List T3) (t : T3) : Option T3 := if x.2.1 = -1 then some t else if 0 ≤ x.2.1 then bk[x.2.1.toNat]? else none
def tHold (bk : List T3) (t : T3) (x : Tst) : Bool := match backT x bk t with
  | some u => decide (fld t x.1 = fld u x.2.2)
  | none => false
/-- A test's fields are fields. -/
def tFine (x : Tst) : Prop := (0 ≤ x.1 ∧ x.1 ≤ 2) ∧ (0 ≤ x.2.2 ∧ x.2.2 ≤ 2)
/-- A triple meets a step. -/
def meetH (h : SH) (bk : List T3) (t : T3) : Bool := decide (h.k = 1 ∨ h.k = 2) && (hasK t (h.k0, h.k1, h.k2) && h.ts.all (tHold bk t))
theorem tHold_own {bk : List T3} {t : T3} {f g : Int} : tHold bk t (f, -1, g) = decide (fld t f = fld t g) := rfl
theorem tHold_back {bk : List T3} {t u : T3} {f g : Int} {i : Nat} (h : bk[i]? = some u) : tHold bk t (f, (i : Int), g) = decide (fld t f = fld u g) := by
  unfold tHold backT
  rw [if_neg (show ¬ ((f, (i : Int), g) : Tst).2.1 = -1 from by show ¬ (i : Int) = -1; omega), if_pos (show (0 : Int) ≤ ((f, (i : Int), g) : Tst).2.1 from by show (0 : Int) ≤ (i : Int); omega)]
  show (match bk[((i : Int)).toNat]? with | some u => _ | none => _) = _
  rw [Int.toNat_natCast, h]
/-- More triples behind change nothing of a test that asks for none of them. -/
theorem tHold_take {bk : List T3} {t : T3} {x : Tst} {n : Nat} (h : x.2.1 + 1 ≤ n) : tHold (bk.take n) t x = tHold bk t x := by
  unfold tHold backT
  by_cases e : x.2.1 = -1
  · rw [if_pos e, if_pos e]
  · rw [if_neg e, if_neg e]
    by_cases e0 : 0 ≤ x.2.1
    · rw [if_pos e0, if_pos e0, List.getElem?_take_of_lt (by omega)]
    · rw [if_neg e0, if_neg e0]
theorem tHold_nil {t : T3} {x : Tst} (h : 0 ≤ x.2.1) : tHold [] t x = false := by
  unfold tHold backT
  rw [if_neg (by omega), if_pos h]; rfl
theorem meetH_take {h : SH} {bk : List T3} {t : T3} {n : Nat} (hx : ∀ x ∈ h.ts, x.2.1 + 1 ≤ n) : meetH h (bk.take n) t = meetH h bk t := by
  unfold meetH
  have : h.ts.all (tHold (bk.take n) t) = h.ts.all (tHold bk t) := by
    rw [Bool.eq_iff_iff, List.all_eq_true, List.all_eq_true]
    exact ⟨fun a x hm => by rw [← tHold_take (hx x hm)]; exact a x hm, fun a x hm => by rw [tHold_take (hx x hm)]; exact a x hm⟩
  rw [this]
theorem meetH_nil {h : SH} {t : T3} {x : Tst} (hx : x ∈ h.ts) (h0 : 0 ≤ x.2.1) : meetH h [] t = false := by
  unfold meetH
  have : h.ts.all (tHold [] t) = false := by
    rw [Bool.eq_false_iff]
    intro a
    have := List.all_eq_true.1 a x hx
    rw [tHold_nil h0] at this
    cases this
  rw [this]; simp
/-- The tests of a step ask for so many triples. -/
def need (ts : List Tst) : Int := ts.foldl (fun n x => max n (x.2.1 + 1)) 0
theorem need_take {ts : List Tst} {j : Nat} {x : Tst} (h : ts[j]? = some x) : need (ts.take (j + 1)) = max (need (ts.take j)) (x.2.1 + 1) := by
  unfold need
  rw [List.take_add_one, h, List.foldl_append]; rfl
theorem need_aux : ∀ (ts : List Tst) (n : Int), n ≤ ts.foldl (fun n x => max n (x.2.1 + 1)) n ∧ (∀ x ∈ ts, x.2.1 + 1 ≤ ts.foldl (fun n x => max n (x.2.1 + 1)) n) ∧ (ts.foldl (fun n x => max n (x.2.1 + 1)) n = n ∨ ∃ x ∈ ts, ts.foldl (fun n x => max n (x.2.1 + 1)) n = x.2.1 + 1)
  | [], n => ⟨Int.le_refl _, fun x h => (by cases h), .inl rfl⟩
  | y :: r, n => by
    obtain ⟨h1, h2, h3⟩ := need_aux r (max n (y.2.1 + 1))
    rw [List.foldl_cons]
    refine ⟨by omega, fun x hx => ?_, ?_⟩
    · rcases List.mem_cons.1 hx with rfl | hx
      · omega
      · exact h2 x hx
    · rcases h3 with h3 | ⟨x, hx, h3⟩
      · rcases Int.le_total n (y.2.1 + 1) with h | h
        · exact .inr ⟨y, List.mem_cons_self, by rw [h3]; omega⟩
        · exact .inl (by rw [h3]; omega)
      · exact .inr ⟨x, List.mem_cons_of_mem _ hx, h3⟩
theorem need_nonneg (ts : List Tst) : 0 ≤ need ts := (need_aux ts 0).1
theorem need_le {ts : List Tst} {x : Tst} (h : x ∈ ts) : x.2.1 + 1 ≤ need ts := (need_aux ts 0).2.1 x h
theorem need_pos {ts : List Tst} (h : 0 < need ts) : ∃ x ∈ ts, 0 ≤ x.2.1 := by
  rcases (need_aux ts 0).2.2 with e | ⟨x, hx, e⟩
  · have : need ts = 0 := e
    omega
  · exact ⟨x, hx, by have : need ts = x.2.1 + 1 := e; omega⟩

/-! ### Where variables are bound -/
/-- How many Pos there are. -/
def posL : List Sh → Nat
  | [] => 0
  | s :: r => (if s.hd.k = 1 then 1 else 0) + posL r
theorem posL_append : ∀ a b : List Sh, posL (a ++ b) = posL a + posL b
  | [], b => by simp [posL]
  | x :: r, b => by rw [List.cons_append, posL, posL, posL_append r b]; omega
theorem fpL_snoc : ∀ (ch : List Sh) (c : Sh) (n : Int) (back : Nat), fpL (ch ++ [c]) n back = match fpL ch n back with
    | some p => some p
    | none => if c.hd.k = 1 then (if 0 ≤ hitF c.hd n then some (back + posL ch, hitF c.hd n) else none) else none
  | [], c, n, back => by
    show (if c.hd.k = 1 then (if 0 ≤ hitF c.hd n then some (back, hitF c.hd n) else none) else none) = _
    simp [fpL, posL]
  | s :: r, c, n, back => by
    rw [List.cons_append, fpL, fpL]
    by_cases hk : s.hd.k = 1
    · rw [if_pos hk, if_pos hk]
      by_cases hh : 0 ≤ hitF s.hd n
      · rw [if_pos hh, if_pos hh]
      · rw [if_neg hh, if_neg hh, fpL_snoc r c n (back + 1), posL, if_pos hk, Nat.add_assoc]
    · rw [if_neg hk, if_neg hk, fpL_snoc r c n back, posL, if_neg hk, Nat.zero_add]
/-- A binding is what the chain's triples have bound. -/
structure Inv (ch : List Sh) (bk : List T3) (b : Bd) : Prop where
  len : bk.length = posL ch
  ok : ∀ m : Nat, 1 ≤ m → m ≤ 32 → match fpL ch (m : Int) 0 with
    | none => b m = 0
    | some (i, g) => (0 ≤ g ∧ g ≤ 2) ∧ ∃ u, bk[i]? = some u ∧ b m = fld u g ∧ 1 ≤ fld u g
theorem Inv.nil : Inv [] [] zeroB := ⟨rfl, fun _ _ _ => rfl⟩
theorem hitF_field {h : Hd} {n g : Int} (e : hitF h n = g) (hg : 0 ≤ g) : (g = 0 ∧ h.x0 = true ∧ h.n0 = n) ∨ (g = 1 ∧ h.x1 = true ∧ h.n1 = n) ∨ (g = 2 ∧ h.x2 = true ∧ h.n2 = n) := by
  unfold hitF first3 at e
  split at e
  · rename_i h0; have := of_decide_eq_true h0; exact .inl ⟨e.symm, this.1.symm, this.2.symm⟩
  · split at e
    · rename_i h0; have := of_decide_eq_true h0; exact .inr (.inl ⟨e.symm, this.1.symm, this.2.symm⟩)
    · split at e
      · rename_i h0; have := of_decide_eq_true h0; exact .inr (.inr ⟨e.symm, this.1.symm, this.2.symm⟩)
      · omega
theorem hitF_none {h : Hd} {n : Int} (e : ¬ 0 ≤ hitF h n) : ¬ (h.x0 = true ∧ h.n0 = n) ∧ ¬ (h.x1 = true ∧ h.n1 = n) ∧ ¬ (h.x2 = true ∧ h.n2 = n) := by
  unfold hitF first3 at e
  refine ⟨fun a => e ?_, fun a => e ?_, fun a => e ?_⟩
  · rw [if_pos (decide_eq_true ⟨a.1.symm, a.2.symm⟩)]; omega
  · split
    · omega
    · rw [if_pos (decide_eq_true ⟨a.1.symm, a.2.symm⟩)]; omega
  · split
    · omega
    · split
      · omega
      · rw [if_pos (decide_eq_true ⟨a.1.symm, a.2.symm⟩)]; omega
/-- The fields of a condition, with those of a triple. -/
abbrev flH (h : Hd) (t : T3) : List (Tm × Int) := fl h.x0 h.x1 h.x2 h.n0 h.n1 h.n2 t.1 t.2.1 t.2.2
theorem mem_flH {h : Hd} {t : T3} {p : Tm × Int} : p ∈ flH h t ↔ p = ((h.x0, h.n0), t.1) ∨ p = ((h.x1, h.n1), t.2.1) ∨ p = ((h.x2, h.n2), t.2.2) := by
  show p ∈ [_, _, _] ↔ _
  simp
/-- Where all terms stand for their symbols with some greater binding, they fit. -/
theorem runL_of : ∀ (l : List (Tm × Int)) (b g : Bd), Ext b g → (∀ p ∈ l, p.2 ≠ 0) → (∀ p ∈ l, okTm p.1.1 p.1.2 = true) → (∀ p ∈ l, stand p.1 g = p.2) → ∃ g', runL l b = some g'
  | [], b, _, _, _, _, _ => ⟨b, rfl⟩
  | ((v, n), s) :: r, b, g, he, h0, hk, hs => by
    have hok : okTm v n = true := hk _ List.mem_cons_self
    have hst : stand (v, n) g = s := hs _ List.mem_cons_self
    have hs0 : s ≠ 0 := h0 _ List.mem_cons_self
    have hnext : ∀ b', step1 (v, n) s b = some b' → Ext b' g → ∃ g', runL (((v, n), s) :: r) b = some g' := fun b' e1 e2 => by
      obtain ⟨g', hg⟩ := runL_of r b' g e2 (fun p hp => h0 p (List.mem_cons_of_mem _ hp)) (fun p hp => hk p (List.mem_cons_of_mem _ hp)) (fun p hp => hs p (List.mem_cons_of_mem _ hp))
      exact ⟨g', by show (step1 (v, n) s b).bind (runL r) = _; rw [e1]; exact hg⟩
    cases v
    · rw [stand_sym hok] at hst
      exact hnext b (step1_sym hok hst) he
    · obtain ⟨l1, u1⟩ := okTm_var.1 hok
      obtain ⟨m, rfl⟩ : ∃ m : Nat, n = (m : Int) := ⟨n.toNat, by omega⟩
      rw [stand_var hok] at hst
      by_cases e : b m = 0
      · refine hnext _ (step1_new hok e) fun k hk0 => ?_
        by_cases ek : k = m
        · subst ek; rw [hst, upd_same]
        · rw [upd_other _ _ ek] at hk0 ⊢; exact he k hk0
      · exact hnext _ (step1_old hok e (by rw [← he m e]; exact hst)) he
section
variable {ch : List Sh} {bk : List T3} {b : Bd} {h : Hd} {t : T3} {sb : List Sh}
theorem Inv.val (I : Inv ch bk b) {m : Nat} (h1 : 1 ≤ m) (h2 : m ≤ 32) (hb : b m ≠ 0) : ∃ (i : Nat) (g : Int) (u : T3), fpL ch (m : Int) 0 = some (i, g) ∧ bk[i]? = some u ∧ b m = fld u g := by
  have := I.ok m h1 h2
  cases hf : fpL ch (m : Int) 0 with
  | none => rw [hf] at this; exact absurd this hb
  | some p =>
    obtain ⟨i, g⟩ := p
    rw [hf] at this
    obtain ⟨_, u, h1, h2, _⟩ := this
    exact ⟨i, g, u, rfl, h1, h2⟩
theorem Inv.zero (I : Inv ch bk b) {m : Nat} (h1 : 1 ≤ m) (h2 : m ≤ 32) (hb : b m = 0) : fpL ch (m : Int) 0 = none := by
  have := I.ok m h1 h2
  cases hf : fpL ch (m : Int) 0 with
  | none => rfl
  | some p =>
    obtain ⟨i, g⟩ := p
    rw [hf] at this
    obtain ⟨_, u, _, h2, h3⟩ := this
    omega
theorem fineH (hf : h.fine = true) : okTm h.x0 h.n0 = true ∧ okTm h.x1 h.n1 = true ∧ okTm h.x2 h.n2 = true := by
  unfold Hd.fine fine at hf
  simp only [Bool.and_eq_true] at hf
  exact ⟨hf.1.1, hf.1.2, hf.2⟩
theorem flH_ok (hf : h.fine = true) : ∀ p ∈ flH h t, okTm p.1.1 p.1.2 = true := fun p hp => by
  obtain ⟨a, b, c⟩ := fineH hf
  rcases mem_flH.1 hp with rfl | rfl | rfl
  · exact a
  · exact b
  · exact c
theorem okT_pos (ht : okT t = true) : 1 ≤ t.1 ∧ 1 ≤ t.2.1 ∧ 1 ≤ t.2.2 := by have := okT_iff.1 ht; omega
theorem flH_pos (ht : okT t = true) : ∀ p ∈ flH h t, p.2 ≠ 0 := fun p hp => by
  have := okT_pos ht
  rcases mem_flH.1 hp with rfl | rfl | rfl
  · show t.1 ≠ 0; omega
  · show t.2.1 ≠ 0; omega
  · show t.2.2 ≠ 0; omega
/-- A condition's own step. -/
abbrev stepH (ch : List Sh) (h : Hd) : SH := ⟨h.k, kF h.x0 h.n0, kF h.x1 h.n1, kF h.x2 h.n2, tstL ch h⟩
theorem stand_ne {v : Bool} {n s : Int} {g : Bd} (hk : okTm v n = true) (h : stand (v, n) g = s) : v = true → g n.toNat = s := fun e => by
  subst e
  obtain ⟨l1, u1⟩ := okTm_var.1 hk
  obtain ⟨m, rfl⟩ : ∃ m : Nat, n = (m : Int) := ⟨n.toNat, by omega⟩
  rw [stand_var hk] at h
  simpa using h
/-- The test of a field holds, if its term stands for its symbol with a greater binding. -/
theorem test_of (I : Inv ch bk b) {g : Bd} (he : Ext b g) {n s : Int} (hk : okTm true n = true) (h1 : g n.toNat = s) {i : Nat} {f' f : Int} (hf : fpL ch n 0 = some (i, f')) (hs : fld t f = s) : tHold bk t (f, (i : Int), f') = true := by
  obtain ⟨l1, u1⟩ := okTm_var.1 hk
  obtain ⟨m, rfl⟩ : ∃ m : Nat, n = (m : Int) := ⟨n.toNat, by omega⟩
  have := I.ok m (by omega) (by omega)
  rw [hf] at this
  obtain ⟨_, u, hu, hb, hp⟩ := this
  rw [tHold_back hu, hs, ← h1, Int.toNat_natCast, he m (by omega), hb]
  exact decide_eq_true rfl
theorem meets_of_fits (I : Inv ch bk b) (hk : h.k = 1 ∨ h.k = 2) (hf : h.fine = true) (ht : okT t = true) {g : Bd} (hr : runL (flH h t) b = some g) : meetH (stepH ch h) bk t = true := by
  obtain ⟨k0, k1, k2⟩ := fineH hf
  have he := runL_ext _ _ _ hr
  have hst := runL_stand _ _ _ (flH_pos ht) hr
  have s0 := hst _ (mem_flH.2 (.inl rfl))
  have s1 := hst _ (mem_flH.2 (.inr (.inl rfl)))
  have s2 := hst _ (mem_flH.2 (.inr (.inr rfl)))
  simp only at s0 s1 s2
  have key : ∀ {v : Bool} {n s : Int}, okTm v n = true → stand (v, n) g = s → kF v n = 0 ∨ kF v n = s := fun {v n s} hk hs => by
    cases v
    · rw [stand_sym hk] at hs; exact .inr hs
    · exact .inl rfl
  unfold meetH
  rw [Bool.and_eq_true, Bool.and_eq_true]
  refine ⟨decide_eq_true hk, hasK_iff.2 ⟨key k0 s0, key k1 s1, key k2 s2⟩, List.all_eq_true.2 fun x hx => ?_⟩
  have hx' : x ∈ tst0 ch h ++ tst1 ch h ++ tst2 ch h := hx
  rcases List.mem_append.1 hx' with hx' | hx'
  rcases List.mem_append.1 hx' with hx' | hx'
  · unfold tst0 at hx'
    split at hx'
    · rename_i hv
      rw [hv] at k0 s0
      cases hfp : fpL ch h.n0 0 with
      | none => rw [hfp] at hx'; cases hx'
      | some p =>
        obtain ⟨i, f'⟩ := p
        rw [hfp] at hx'
        rw [List.mem_singleton.1 hx']
        exact test_of I he k0 (stand_ne k0 s0 rfl) hfp rfl
    · cases hx'
  · unfold tst1 at hx'
    split at hx'
    · rename_i hv
      rw [hv] at k1 s1
      cases hfp : fpL ch h.n1 0 with
      | none =>
        rw [hfp] at hx'
        simp only at hx'
        split at hx'
        · rename_i e
          rw [List.mem_singleton.1 hx', tHold_own]
          rw [e.1] at k0 s0
          have a0 := stand_ne k0 s0 rfl
          have a1 := stand_ne k1 s1 rfl
          rw [e.2] at a1
          exact decide_eq_true (by show t.2.1 = t.1; omega)
        · cases hx'
      | some p =>
        obtain ⟨i, f'⟩ := p
        rw [hfp] at hx'
        rw [List.mem_singleton.1 hx']
        exact test_of I he k1 (stand_ne k1 s1 rfl) hfp rfl
    · cases hx'
  · unfold tst2 at hx'
    split at hx'
    · rename_i hv
      rw [hv] at k2 s2
      cases hfp : fpL ch h.n2 0 with
      | none =>
        rw [hfp] at hx'
        simp only at hx'
        split at hx'
        · rename_i e
          rw [List.mem_singleton.1 hx', tHold_own]
          rw [e.1] at k0 s0
          have a0 := stand_ne k0 s0 rfl
          have a1 := stand_ne k2 s2 rfl
          rw [e.2] at a1
          exact decide_eq_true (by show t.2.2 = t.1; omega)
        · split at hx'
          · rename_i e
            rw [List.mem_singleton.1 hx', tHold_own]
            rw [e.1] at k1 s1
            have a0 := stand_ne k1 s1 rfl
            have a1 := stand_ne k2 s2 rfl
            rw [e.2] at a1
            exact decide_eq_true (by show t.2.2 = t.2.1; omega)
          · cases hx'
      | some p =>
        obtain ⟨i, f'⟩ := p
        rw [hfp] at hx'
        rw [List.mem_singleton.1 hx']
        exact test_of I he k2 (stand_ne k2 s2 rfl) hfp rfl
    · cases hx'
/-- The binding that the chain's triples and this one make. -/
def bdOf (b : Bd) (h : Hd) (t : T3) : Bd := fun k => if b k ≠ 0 then b k else if h.x0 = true ∧ h.n0 = (k : Int) then t.1 else if h.x1 = true ∧ h.n1 = (k : Int) then t.2.1 else if h.x2 = true ∧ h.n2 = (k : Int) then t.2.2 else 0
theorem bdOf_ext : Ext b (bdOf b h t) := fun k hk => by unfold bdOf; rw [if_pos hk]
theorem fits_of_meets (I : Inv ch bk b) (hf : h.fine = true) (ht : okT t = true) (hm : meetH (stepH ch h) bk t = true) : ∃ g, runL (flH h t) b = some g := by
  obtain ⟨k0, k1, k2⟩ := fineH hf
  unfold meetH at hm
  rw [Bool.and_eq_true, Bool.and_eq_true] at hm
  obtain ⟨_, hkey, hts⟩ := hm
  have hts := List.all_eq_true.1 hts
  have hkey := hasK_iff.1 hkey
  -- a field that the chain has bound
  have old : ∀ {n : Int} {f : Int} {l : List Tst}, okTm true n = true → (∀ p, fpL ch n 0 = some p → ((f, (p.1 : Int), p.2) : Tst) ∈ tstL ch h) → b n.toNat ≠ 0 → b n.toNat = fld t f := fun {n f _} hk hl hb => by
    obtain ⟨l1, u1⟩ := okTm_var.1 hk
    obtain ⟨m, rfl⟩ : ∃ m : Nat, n = (m : Int) := ⟨n.toNat, by omega⟩
    rw [Int.toNat_natCast] at hb ⊢
    obtain ⟨i, g, u, e1, e2, e3⟩ := I.val (by omega) (by omega) hb
    have := hts _ (hl _ e1)
    rw [tHold_back e2] at this
    rw [e3]; exact (of_decide_eq_true this).symm
  refine runL_of _ b (bdOf b h t) bdOf_ext (flH_pos ht) (flH_ok hf) fun p hp => ?_
  have mem0 : ∀ x, x ∈ tst0 ch h → x ∈ tstL ch h := fun x hx => List.mem_append_left _ (List.mem_append_left _ hx)
  have mem1 : ∀ x, x ∈ tst1 ch h → x ∈ tstL ch h := fun x hx => List.mem_append_left _ (List.mem_append_right _ hx)
  have mem2 : ∀ x, x ∈ tst2 ch h → x ∈ tstL ch h := fun x hx => List.mem_append_right _ hx
  rcases mem_flH.1 hp with rfl | rfl | rfl
  · show stand (h.x0, h.n0) _ = t.1
    cases hv : h.x0
    · rw [hv] at k0
      rw [stand_sym k0]
      have := hkey.1
      simp only [kF, hv, Bool.false_eq_true, if_false] at this
      obtain ⟨l1, _⟩ := okTm_sym.1 k0
      omega
    · rw [hv] at k0
      have hb := old (f := 0) (l := []) k0 (fun p e => mem0 _ (by unfold tst0; rw [if_pos hv, e]; exact List.mem_singleton.2 rfl))
      obtain ⟨l1, u1⟩ := okTm_var.1 k0
      obtain ⟨m, hm⟩ : ∃ m : Nat, h.n0 = (m : Int) := ⟨h.n0.toNat, by omega⟩
      rw [hm] at k0 hb ⊢
      rw [stand_var k0]
      unfold bdOf
      by_cases e : b m = 0
      · rw [if_neg (by simpa using e), if_pos ⟨hv, hm⟩]
      · rw [if_pos e]; exact hb e
  · show stand (h.x1, h.n1) _ = t.2.1
    cases hv : h.x1
    · rw [hv] at k1
      rw [stand_sym k1]
      have := hkey.2.1
      simp only [kF, hv, Bool.false_eq_true, if_false] at this
      obtain ⟨l1, _⟩ := okTm_sym.1 k1
      omega
    · rw [hv] at k1
      have hb := old (f := 1) (l := []) k1 (fun p e => mem1 _ (by unfold tst1; rw [if_pos hv, e]; exact List.mem_singleton.2 rfl))
      obtain ⟨l1, u1⟩ := okTm_var.1 k1
      obtain ⟨m, hm⟩ : ∃ m : Nat, h.n1 = (m : Int) := ⟨h.n1.toNat, by omega⟩
      rw [hm] at k1 hb ⊢
      rw [stand_var k1]
      unfold bdOf
      by_cases e : b m = 0
      · rw [if_neg (by simpa using e)]
        by_cases e0 : h.x0 = true ∧ h.n0 = (m : Int)
        · rw [if_pos e0]
          have hz := I.zero (m := m) (by omega) (by omega) e
          have := hts _ (mem1 (1, -1, 0) (by unfold tst1; rw [if_pos hv, hm, hz]; simp only; rw [if_pos ⟨e0.1, e0.2.symm⟩]; exact List.mem_singleton.2 rfl))
          rw [tHold_own] at this
          exact (of_decide_eq_true this).symm
        · rw [if_neg e0, if_pos ⟨hv, hm⟩]
      · rw [if_pos e]; exact hb e
  · show stand (h.x2, h.n2) _ = t.2.2
    cases hv : h.x2
    · rw [hv] at k2
      rw [stand_sym k2]
      have := hkey.2.2
      simp only [kF, hv, Bool.false_eq_true, if_false] at this
      obtain ⟨l1, _⟩ := okTm_sym.1 k2
      omega
    · rw [hv] at k2
      have hb := old (f := 2) (l := []) k2 (fun p e => mem2 _ (by unfold tst2; rw [if_pos hv, e]; exact List.mem_singleton.2 rfl))
      obtain ⟨l1, u1⟩ := okTm_var.1 k2
      obtain ⟨m, hm⟩ : ∃ m : Nat, h.n2 = (m : Int) := ⟨h.n2.toNat, by omega⟩
      rw [hm] at k2 hb ⊢
      rw [stand_var k2]
      unfold bdOf
      by_cases e : b m = 0
      · rw [if_neg (by simpa using e)]
        have hz := I.zero (m := m) (by omega) (by omega) e
        by_cases e0 : h.x0 = true ∧ h.n0 = (m : Int)
        · rw [if_pos e0]
          have := hts _ (mem2 (2, -1, 0) (by unfold tst2; rw [if_pos hv, hm, hz]; simp only; rw [if_pos ⟨e0.1, e0.2.symm⟩]; exact List.mem_singleton.2 rfl))
          rw [tHold_own] at this
          exact (of_decide_eq_true this).symm
        · rw [if_neg e0]
          by_cases e1 : h.x1 = true ∧ h.n1 = (m : Int)
          · rw [if_pos e1]
            have := hts _ (mem2 (2, -1, 1) (by unfold tst2; rw [if_pos hv, hm, hz]; simp only; rw [if_neg (fun a => e0 ⟨a.1, a.2.symm⟩), if_pos ⟨e1.1, e1.2.symm⟩]; exact List.mem_singleton.2 rfl))
            rw [tHold_own] at this
            exact (of_decide_eq_true this).symm
          · rw [if_neg e1, if_pos ⟨hv, hm⟩]
      · rw [if_pos e]; exact hb e
/-- A fact meets a condition's step just if its terms fit it. -/
theorem fit_meets (I : Inv ch bk b) (hk : h.k = 1 ∨ h.k = 2) (hf : h.fine = true) (ht : okT t = true) : fitOk (flH h t) b = meetH (stepH ch h) bk t := by
  rw [Bool.eq_iff_iff]
  unfold fitOk
  rw [Option.isSome_iff_exists]
  exact ⟨fun ⟨g, hg⟩ => meets_of_fits I hk hf ht hg, fits_of_meets I hf ht⟩
/-- Behind a Neg the binding is as it was. -/
theorem Inv.skip (I : Inv ch bk b) (hk : h.k ≠ 1) : Inv (ch ++ [.mk h sb]) bk b := by
  refine ⟨?_, fun m h1 h2 => ?_⟩
  · rw [posL_append, I.len]
    show posL ch = posL ch + ((if h.k = 1 then 1 else 0) + 0)
    rw [if_neg hk]; rfl
  · have := I.ok m h1 h2
    rw [fpL_snoc]
    cases hf : fpL ch (m : Int) 0 with
    | none =>
      rw [hf] at this
      simp only
      rw [if_neg (show ¬ (Sh.mk h sb).hd.k = 1 from hk)]
      exact this
    | some p => rw [hf] at this; exact this
theorem fld_pos (ht : okT t = true) (g : Int) : 1 ≤ fld t g := by
  have := okT_pos ht
  unfold fld
  split
  · omega
  · split <;> omega
/-- Behind a Pos that fits, it is what the fact has bound, too. -/
theorem Inv.more (I : Inv ch bk b) (hk : h.k = 1) (hf : h.fine = true) (ht : okT t = true) {g : Bd} (hr : runL (flH h t) b = some g) : Inv (ch ++ [.mk h sb]) (bk ++ [t]) g := by
  obtain ⟨k0, k1, k2⟩ := fineH hf
  have he := runL_ext _ _ _ hr
  have hst := runL_stand _ _ _ (flH_pos ht) hr
  have s0 := hst _ (mem_flH.2 (.inl rfl))
  have s1 := hst _ (mem_flH.2 (.inr (.inl rfl)))
  have s2 := hst _ (mem_flH.2 (.inr (.inr rfl)))
  simp only at s0 s1 s2
  refine ⟨?_, fun m h1 h2 => ?_⟩
  · rw [posL_append, List.length_append, I.len]
    show posL ch + 1 = posL ch + ((if h.k = 1 then 1 else 0) + 0)
    rw [if_pos hk]
  · have hI := I.ok m h1 h2
    rw [fpL_snoc]
    cases hfp : fpL ch (m : Int) 0 with
    | some p =>
      obtain ⟨i, f⟩ := p
      rw [hfp] at hI
      obtain ⟨hr, u, hu, hb, hp⟩ := hI
      refine ⟨hr, u, ?_, by rw [he m (by omega)]; exact hb, hp⟩
      rw [List.getElem?_append_left (List.getElem?_eq_some_iff.1 hu).1]
      exact hu
    | none =>
      rw [hfp] at hI
      simp only
      rw [if_pos (show (Sh.mk h sb).hd.k = 1 from hk)]
      by_cases hh : 0 ≤ hitF h (m : Int)
      · rw [if_pos (show 0 ≤ hitF (Sh.mk h sb).hd (m : Int) from hh)]
        have hle := hitF_le h (m : Int)
        refine ⟨⟨hh, hle.1⟩, t, ?_, ?_, fld_pos ht _⟩
        · rw [Nat.zero_add, ← I.len, List.getElem?_append_right (Nat.le_refl _), Nat.sub_self]; rfl
        · show g m = fld t (hitF h (m : Int))
          rcases hitF_field (rfl : hitF h (m : Int) = _) hh with ⟨e, ev, en⟩ | ⟨e, ev, en⟩ | ⟨e, ev, en⟩
          · rw [e]
            rw [ev, en] at k0 s0
            exact stand_ne k0 s0 rfl
          · rw [e]
            rw [ev, en] at k1 s1
            exact stand_ne k1 s1 rfl
          · rw [e]
            rw [ev, en] at k2 s2
            exact stand_ne k2 s2 rfl
      · rw [if_neg (show ¬ 0 ≤ hitF (Sh.mk h sb).hd (m : Int) from hh)]
        obtain ⟨n0, n1, n2⟩ := hitF_none hh
        refine (runL_other _ _ _ m (fun p hp hv => ?_) hr).trans hI
        rcases mem_flH.1 hp with rfl | rfl | rfl
        · exact fun e => n0 ⟨hv, e⟩
        · exact fun e => n1 ⟨hv, e⟩
        · exact fun e => n2 ⟨hv, e⟩
/-! ### What is said of a step's own tests -/
theorem fpL_le (n : Int) : ∀ (l : List Sh) (back : Nat) (i : Nat) (g : Int), fpL l n back = some (i, g) → 0 ≤ g ∧ g ≤ 2
  | [], back, i, g, e => by cases e
  | s :: r, back, i, g, e => by
    rw [fpL] at e
    split at e
    · split at e
      · rename_i hh
        cases e
        exact ⟨hh, (hitF_le s.hd n).1⟩
      · exact fpL_le n r _ i g e
    · exact fpL_le n r _ i g e
theorem tstL_fine : ∀ x ∈ tstL ch h, tFine x ∧ -1 ≤ x.2.1 := fun x hx => by
  have hx' : x ∈ tst0 ch h ++ tst1 ch h ++ tst2 ch h := hx
  have own : ∀ {f g : Int}, 0 ≤ f ∧ f ≤ 2 → 0 ≤ g ∧ g ≤ 2 → tFine (f, -1, g) ∧ (-1 : Int) ≤ ((f, -1, g) : Tst).2.1 := fun hf hg => ⟨⟨hf, hg⟩, Int.le_refl _⟩
  have old : ∀ {f g : Int} {i : Nat}, 0 ≤ f ∧ f ≤ 2 → 0 ≤ g ∧ g ≤ 2 → tFine (f, (i : Int), g) ∧ (-1 : Int) ≤ ((f, (i : Int), g) : Tst).2.1 := fun hf hg => ⟨⟨hf, hg⟩, by show (-1 : Int) ≤ (_ : Nat); omega⟩
  rcases List.mem_append.1 hx' with hx' | hx'
  rcases List.mem_append.1 hx' with hx' | hx'
  · unfold tst0 at hx'
    split at hx'
    · cases hfp : fpL ch h.n0 0 with
      | none => rw [hfp] at hx'; cases hx'
      | some p =>
        obtain ⟨i, f'⟩ := p
        rw [hfp] at hx'
        rw [List.mem_singleton.1 hx']
        exact old (by omega) (fpL_le _ _ _ _ _ hfp)
    · cases hx'
  · unfold tst1 at hx'
    split at hx'
    · cases hfp : fpL ch h.n1 0 with
      | none =>
        rw [hfp] at hx'
        simp only at hx'
        split at hx'
        · rw [List.mem_singleton.1 hx']; exact own (by omega) (by omega)
        · cases hx'
      | some p =>
        obtain ⟨i, f'⟩ := p
        rw [hfp] at hx'
        rw [List.mem_singleton.1 hx']
        exact old (by omega) (fpL_le _ _ _ _ _ hfp)
    · cases hx'
  · unfold tst2 at hx'
    split at hx'
    · cases hfp : fpL ch h.n2 0 with
      | none =>
        rw [hfp] at hx'
        simp only at hx'
        split at hx'
        · rw [List.mem_singleton.1 hx']; exact own (by omega) (by omega)
        · split at hx'
          · rw [List.mem_singleton.1 hx']; exact own (by omega) (by omega)
          · cases hx'
      | some p =>
        obtain ⟨i, f'⟩ := p
        rw [hfp] at hx'
        rw [List.mem_singleton.1 hx']
        exact old (by omega) (fpL_le _ _ _ _ _ hfp)
    · cases hx'
/-- A step's tests, whatever its condition. -/
theorem st_fine (c : Sh) (ch : List Sh) : (∀ x ∈ (c.st ch).hd.ts, tFine x ∧ -1 ≤ x.2.1) ∧ (c.st ch).hd.ts.length ≤ 3 := by
  cases c with
  | mk h l =>
    rw [st_mk]
    split
    · exact ⟨fun x hx => (by cases hx), Nat.zero_le _⟩
    · exact ⟨tstL_fine, tstL_len _ _⟩
end
end
section
open Go.RowKit
set_option maxRecDepth 100000

/-- A fact: its id, its triple. -/
abbrev F4 := Int × T3
section
variable (fs : List F4)
mutual
/-- The matches of a condition, and of what K says behind it. -/
def Sh.tm : Sh → (Bd → List Int → List (List Int)) → Bd → List Int → List (List Int)
  | .mk h subs, K, b, ids =>
    if h.k = 1 then fs.flatMap fun f => match runL (flH h f.2) b with
      | some g => K g (ids ++ [f.1])
      | none => []
    else if h.k = 2 ∧ (fs.any fun f => fitOk (flH h f.2) b) = true then []
    else if h.k = 3 ∧ (tmL subs b []).isEmpty = false then []
    else K b ids
/-- .. of conditions. -/
def tmL : List Sh → Bd → List Int → List (List Int)
  | [], _, ids => [ids]
  | c :: r, b, ids => c.tm (tmL r) b ids
end
mutual
/-- The matches of a step, behind facts that are chosen. -/
def St.sm : St → (List F4 → List (List Int)) → List F4 → List (List Int)
  | .mk h subs, K, ch =>
    if h.k = 1 then fs.flatMap fun f => if meetH h (ch.map Prod.snd) f.2 then K (ch ++ [f]) else []
    else if h.k = 2 ∧ (fs.any fun f => meetH h (ch.map Prod.snd) f.2) = true then []
    else if h.k = 3 ∧ (smL subs ch).isEmpty = false then []
    else K ch
def smL : List St → List F4 → List (List Int)
  | [], ch => [ch.map Prod.fst]
  | s :: r, ch => s.sm (smL r) ch
end
end
theorem tm_mk (fs : List F4) (h : Hd) (subs : List Sh) (K : Bd → List Int → List (List Int)) (b : Bd) (ids : List Int) : (Sh.mk h subs).tm fs K b ids = if h.k = 1 then fs.flatMap fun f => match runL (flH h f.2) b with
      | some g => K g (ids ++ [f.1])
      | none => []
    else if h.k = 2 ∧ (fs.any fun f => fitOk (flH h f.2) b) = true then []
    else if h.k = 3 ∧ (tmL fs subs b []).isEmpty = false then []
    else K b ids := by rw [Sh.tm]
theorem tmL_nil (fs : List F4) (b : Bd) (ids : List Int) : tmL fs [] b ids = [ids] := by rw [tmL]
theorem tmL_cons (fs : List F4) (c : Sh) (r : List Sh) (b : Bd) (ids : List Int) : tmL fs (c :: r) b ids = c.tm fs (tmL fs r) b ids := by rw [tmL]
theorem sm_mk (fs : List F4) (h : SH) (subs : List St) (K : List F4 → List (List Int)) (ch : List F4) : (St.mk h subs).sm fs K ch = if h.k = 1 then fs.flatMap fun f => if meetH h (ch.map Prod.snd) f.2 then K (ch ++ [f]) else []
    else if h.k = 2 ∧ (fs.any fun f => meetH h (ch.map Prod.snd) f.2) = true then []
    else if h.k = 3 ∧ (smL fs subs ch).isEmpty = false then []
    else K ch := by rw [St.sm]
theorem smL_nil (fs : List F4) (ch : List F4) : smL fs [] ch = [ch.map Prod.fst] := by rw [smL]
theorem smL_cons (fs : List F4) (s : St) (r : List St) (ch : List F4) : smL fs (s :: r) ch = s.sm fs (smL fs r) ch := by rw [smL]
/-- What is chosen ahead stands ahead of each match. -/
theorem tm_ids (fs : List F4) : (∀ (c : Sh) (K : Bd → List Int → List (List Int)), (∀ b ids, K b ids = (K b []).map (ids ++ ·)) → ∀ b ids, c.tm fs K b ids = (c.tm fs K b []).map (ids ++ ·)) ∧ ∀ (l : List Sh) b ids, tmL fs l b ids = (tmL fs l b []).map (ids ++ ·) := by
  refine Sh.ind2 (fun h subs _ K hK b ids => ?_) (fun b ids => by rw [tmL_nil, tmL_nil]; simp) (fun c r hc hr b ids => by rw [tmL_cons, tmL_cons]; exact hc _ hr b ids)
  rw [tm_mk, tm_mk]
  by_cases h1 : h.k = 1
  · rw [if_pos h1, if_pos h1, List.map_flatMap]
    congr 1
    funext f
    cases runL (flH h f.2) b with
    | none => rfl
    | some g =>
      simp only
      rw [hK g (ids ++ [f.1]), hK g ([] ++ [f.1]), List.map_map]
      congr 1
      funext x
      simp
  · rw [if_neg h1, if_neg h1]
    split
    · rfl
    · split
      · rfl
      · exact hK b ids
theorem tmL_empty (fs : List F4) (l : List Sh) (b : Bd) (ids : List Int) : (tmL fs l b ids).isEmpty = (tmL fs l b []).isEmpty := by
  rw [(tm_ids fs).2 l b ids]; simp
mutual
/-- All conditions in it have a kind, and right terms. -/
def Sh.good : Sh → Prop
  | .mk h subs => (h.k = 1 ∨ h.k = 2 → h.fine = true) ∧ (h.k = 1 ∨ h.k = 2 ∨ h.k = 3) ∧ goodL subs
def goodL : List Sh → Prop
  | [] => True
  | c :: r => c.good ∧ goodL r
end
theorem goodL_iff : ∀ {l : List Sh}, goodL l ↔ ∀ x ∈ l, x.good
  | [] => by rw [goodL]; simp
  | c :: r => by rw [goodL, goodL_iff]; simp
theorem good_mk {h : Hd} {subs : List Sh} : (Sh.mk h subs).good ↔ (h.k = 1 ∨ h.k = 2 → h.fine = true) ∧ (h.k = 1 ∨ h.k = 2 ∨ h.k = 3) ∧ ∀ x ∈ subs, x.good := by
  rw [Sh.good, goodL_iff]
theorem flatMap_congr' {α β : Type} {f g : α → List β} : ∀ {l : List α}, (∀ x ∈ l, f x = g x) → l.flatMap f = l.flatMap g
  | [], _ => rfl
  | a :: r, h => by rw [List.flatMap_cons, List.flatMap_cons, h a List.mem_cons_self, flatMap_congr' fun x hx => h x (List.mem_cons_of_mem _ hx)]
theorem chk_good : ∀ (s : Sh) (d : Int), s.chk d = 0 → s.good := by
  refine Sh.ind fun h subs ih d hd => good_mk.2 ?_
  unfold Sh.chk at hd
  by_cases h3d : 3 < d
  · rw [if_pos h3d] at hd; omega
  rw [if_neg h3d] at hd
  by_cases h3 : h.k = 3
  · rw [if_pos h3] at hd
    refine ⟨fun a => by omega, .inr (.inr h3), fun x hx => ?_⟩
    split at hd
    · omega
    · split at hd
      · omega
      · exact ih x hx (d + 1) (chkL_all.1 hd x hx)
  rw [if_neg h3] at hd
  by_cases h12 : h.k = 1 ∨ h.k = 2
  · rw [if_pos h12] at hd
    split at hd
    · omega
    · rename_i hf
      split at hd
      · omega
      · rename_i hl
        refine ⟨fun _ => by simpa using hf, h12.imp id .inl, fun x hx => ?_⟩
        have : subs = [] := List.length_eq_zero_iff.1 (by omega)
        rw [this] at hx; cases hx
  · rw [if_neg h12] at hd; omega
theorem stepH_k (ch : List Sh) (h : Hd) : (stepH ch h).k = h.k := rfl
/-- The matches of the steps of conditions are those of their terms. -/
theorem steps_terms {fs : List F4} (hfs : ∀ f ∈ fs, okT f.2 = true) : (∀ (c : Sh), c.good → ∀ (K : List F4 → List (List Int)) (K' : Bd → List Int → List (List Int)) (ch : List Sh) (cs : List F4) (b : Bd), Inv ch (cs.map Prod.snd) b →
      (∀ cs' b', Inv (ch ++ [c]) (cs'.map Prod.snd) b' → K cs' = K' b' (cs'.map Prod.fst)) → (c.st ch).sm fs K cs = c.tm fs K' b (cs.map Prod.fst)) ∧
    ∀ (l : List Sh), (∀ x ∈ l, x.good) → ∀ (ch : List Sh) (cs : List F4) (b : Bd), Inv ch (cs.map Prod.snd) b → smL fs (stL l ch) cs = tmL fs l b (cs.map Prod.fst) := by
  refine Sh.ind2 (fun h subs hsub hg K K' ch cs b I hK => ?_) (fun _ ch cs b _ => by rw [stL_nil, smL_nil, tmL_nil]) (fun c r hc hr hg ch cs b I => ?_)
  · obtain ⟨hf, hk, hs⟩ := good_mk.1 hg
    rcases hk with h1 | h2 | h3
    · have h12 : h.k = 1 ∨ h.k = 2 := .inl h1
      have e1 : ((Sh.mk h subs).st ch).sm fs K cs = fs.flatMap fun f => if meetH (stepH ch h) (cs.map Prod.snd) f.2 then K (cs ++ [f]) else [] := by
        rw [st_mk, if_neg (by omega), sm_mk, if_pos (show (stepH ch h).k = 1 from h1)]
      rw [e1, tm_mk, if_pos h1]
      refine flatMap_congr' fun f hfm => ?_
      rw [← fit_meets I h12 (hf h12) (hfs f hfm)]
      unfold fitOk
      cases hr : runL (flH h f.2) b with
      | none => rfl
      | some g =>
        simp only [Option.isSome_some, if_true]
        rw [hK (cs ++ [f]) g (by rw [List.map_append]; exact I.more h1 (hf h12) (hfs f hfm) hr), List.map_append]
        rfl
    · have h12 : h.k = 1 ∨ h.k = 2 := .inr h2
      have ha : (fs.any fun f => meetH (stepH ch h) (cs.map Prod.snd) f.2) = fs.any fun f => fitOk (flH h f.2) b := by
        rw [Bool.eq_iff_iff, List.any_eq_true, List.any_eq_true]
        exact ⟨fun ⟨f, hfm, e⟩ => ⟨f, hfm, by rw [fit_meets I h12 (hf h12) (hfs f hfm)]; exact e⟩, fun ⟨f, hfm, e⟩ => ⟨f, hfm, by rw [← fit_meets I h12 (hf h12) (hfs f hfm)]; exact e⟩⟩
      have e1 : ((Sh.mk h subs).st ch).sm fs K cs = if (fs.any fun f => meetH (stepH ch h) (cs.map Prod.snd) f.2) = true then [] else K cs := by
        rw [st_mk, if_neg (by omega), sm_mk, if_neg (show ¬ (stepH ch h).k = 1 from by show ¬ h.k = 1; omega)]
        by_cases hx : (fs.any fun f => meetH (stepH ch h) (cs.map Prod.snd) f.2) = true
        · rw [if_pos (show (stepH ch h).k = 2 ∧ _ from ⟨h2, hx⟩), if_pos hx]
        · rw [if_neg (show ¬ ((stepH ch h).k = 2 ∧ _) from fun a => hx a.2), if_neg (show ¬ ((stepH ch h).k = 3 ∧ _) from fun a => by have : h.k = 3 := a.1; omega), if_neg hx]
      have e2 : (Sh.mk h subs).tm fs K' b (cs.map Prod.fst) = if (fs.any fun f => fitOk (flH h f.2) b) = true then [] else K' b (cs.map Prod.fst) := by
        rw [tm_mk, if_neg (by omega)]
        by_cases hx : (fs.any fun f => fitOk (flH h f.2) b) = true
        · rw [if_pos ⟨h2, hx⟩, if_pos hx]
        · rw [if_neg (fun a => hx a.2), if_neg (fun a => by omega), if_neg hx]
      rw [e1, e2, ha, hK cs b (I.skip (by omega))]
    · have e1 : ((Sh.mk h subs).st ch).sm fs K cs = if (smL fs (stL subs ch) cs).isEmpty = false then [] else K cs := by
        rw [st_mk, if_pos h3, sm_mk]
        simp only [h3]
        simp
      have e2 : (Sh.mk h subs).tm fs K' b (cs.map Prod.fst) = if (tmL fs subs b []).isEmpty = false then [] else K' b (cs.map Prod.fst) := by
        rw [tm_mk]
        simp only [h3]
        simp
      rw [e1, e2, hsub hs ch cs b I, tmL_empty fs subs b (cs.map Prod.fst), hK cs b (I.skip (by omega))]
  · rw [stL_cons, smL_cons, tmL_cons]
    exact hc (hg c List.mem_cons_self) _ _ ch cs b I fun cs' b' I' => hr (fun x hx => hg x (List.mem_cons_of_mem _ hx)) (ch ++ [c]) cs' b' I'
/-! ### How many -/
mutual
/-- How many Pos there are, in a condition and in those in it. -/
def Sh.posA : Sh → Nat
  | .mk h subs => (if h.k = 1 then 1 else 0) + posAL subs
def posAL : List Sh → Nat
  | [] => 0
  | c :: r => c.posA + posAL r
end
theorem posA_mk (h : Hd) (subs : List Sh) : (Sh.mk h subs).posA = (if h.k = 1 then 1 else 0) + posAL subs := by rw [Sh.posA]
theorem posAL_nil : posAL [] = 0 := by rw [posAL]
theorem posAL_cons (c : Sh) (r : List Sh) : posAL (c :: r) = c.posA + posAL r := by rw [posAL]
theorem posAL_append : ∀ a b : List Sh, posAL (a ++ b) = posAL a + posAL b
  | [], b => by rw [posAL_nil]; simp
  | x :: r, b => by rw [List.cons_append, posAL_cons, posAL_cons, posAL_append r b]; omega
theorem posAL_take_succ {l : List Sh} {j : Nat} {x : Sh} (h : l[j]? = some x) : posAL (l.take (j + 1)) = posAL (l.take j) + x.posA := by
  rw [List.take_add_one, h, posAL_append]
  show _ + posAL [x] = _
  rw [posAL_cons, posAL_nil]; rfl
theorem posA_le : (∀ s : Sh, s.posA ≤ s.count) ∧ ∀ l, posAL l ≤ countL l := by
  refine Sh.ind2 (fun h subs ih => ?_) (by rw [posAL_nil]; exact Nat.zero_le _) (fun a l ha hl => ?_)
  · rw [posA_mk, Sh.count]; split <;> omega
  · rw [posAL_cons, countL]; omega
theorem flatMap_len {α β : Type} {f : α → List β} {N : Nat} : ∀ {l : List α}, (∀ x ∈ l, (f x).length ≤ N) → (l.flatMap f).length ≤ l.length * N
  | [], _ => by simp
  | a :: r, h => by
    rw [List.flatMap_cons, List.length_append, List.length_cons, Nat.add_mul, Nat.one_mul]
    have h1 := h a List.mem_cons_self
    have h2 := flatMap_len fun x hx => h x (List.mem_cons_of_mem _ hx)
    omega
theorem pow_pos' (n k : Nat) : 1 ≤ (n + 1) ^ k := Nat.one_le_pow _ _ (Nat.succ_pos _)
/-- There are no more matches than choices. -/
theorem tm_len (fs : List F4) : (∀ (c : Sh) (K : Bd → List Int → List (List Int)) (N : Nat), (∀ b ids, (K b ids).length ≤ N) → ∀ b ids, (c.tm fs K b ids).length ≤ (fs.length + 1) ^ c.posA * N) ∧ ∀ (l : List Sh) b ids, (tmL fs l b ids).length ≤ (fs.length + 1) ^ posAL l := by
  refine Sh.ind2 (fun h subs _ K N hK b ids => ?_) (fun b ids => by rw [tmL_nil, posAL_nil]; simp) (fun c r hc hr b ids => ?_)
  · rw [tm_mk, posA_mk]
    have hN : N ≤ (fs.length + 1) ^ ((if h.k = 1 then 1 else 0) + posAL subs) * N := Nat.le_mul_of_pos_left _ (pow_pos' _ _)
    by_cases h1 : h.k = 1
    · rw [if_pos h1]
      have hb : ∀ f ∈ fs, (match runL (flH h f.2) b with | some g => K g (ids ++ [f.1]) | none => []).length ≤ N := fun f _ => by
        cases runL (flH h f.2) b with
        | none => exact Nat.zero_le _
        | some g => exact hK _ _
      refine Nat.le_trans (flatMap_len hb) (Nat.mul_le_mul_right N ?_)
      rw [if_pos h1, Nat.pow_add, Nat.pow_one]
      exact Nat.le_trans (Nat.le_succ _) (Nat.le_mul_of_pos_right _ (pow_pos' _ _))
    · rw [if_neg h1]
      split
      · exact Nat.zero_le _
      · split
        · exact Nat.zero_le _
        · rw [if_neg h1] at hN; exact Nat.le_trans (hK b ids) hN
  · rw [tmL_cons, posAL_cons, Nat.pow_add]
    exact hc _ _ hr b ids
theorem posA_sub {h : Hd} {subs : List Sh} : posAL subs ≤ (Sh.mk h subs).posA := by rw [posA_mk]; omega
theorem posA_mem {l : List Sh} {s : Sh} (h : s ∈ l) : s.posA ≤ posAL l := by
  induction l with
  | nil => cases h
  | cons a r ih =>
    rw [posAL_cons]
    rcases List.mem_cons.1 h with rfl | h
    · omega
    · have := ih h; omega
/-- The choices' number is small. -/
def costOk (n : Nat) (l : List Sh) : Bool := decide ((n + 1) ^ posAL l ≤ 3000)
theorem pow_le_of (n : Nat) {a b : Nat} (h : a ≤ b) : (n + 1) ^ a ≤ (n + 1) ^ b := Nat.pow_le_pow_right (Nat.succ_pos _) h
end
section
open Go.RowKit
set_option maxRecDepth 100000

mutual
/-- How many Pos there are, in a step and in those in it. -/
def St.posS : St → Nat
  | .mk h subs => (if h.k = 1 then 1 else 0) + posSL subs
def posSL : List St → Nat
  | [] => 0
  | c :: r => c.posS + posSL r
end
theorem posS_mk (h : SH) (subs : List St) : (St.mk h subs).posS = (if h.k = 1 then 1 else 0) + posSL subs := by rw [St.posS]
theorem posSL_nil : posSL [] = 0 := by rw [posSL]
theorem posSL_cons (c : St) (r : List St) : posSL (c :: r) = c.posS + posSL r := by rw [posSL]
theorem posSL_append : ∀ a b : List St, posSL (a ++ b) = posSL a + posSL b
  | [], b => by rw [posSL_nil]; simp
  | x :: r, b => by rw [List.cons_append, posSL_cons, posSL_cons, posSL_append r b]; omega
theorem posSL_take (l : List St) (n : Nat) : posSL (l.take n) ≤ posSL l := by
  have := posSL_append (l.take n) (l.drop n)
  rw [List.take_append_drop] at this
  omega
theorem posS_sub {h : SH} {subs : List St} : posSL subs ≤ (St.mk h subs).posS := by rw [posS_mk]; omega
/-- There are no more matches than choices. -/
theorem sm_len (fs : List F4) : (∀ (c : St) (K : List F4 → List (List Int)) (N : Nat), (∀ ch, (K ch).length ≤ N) → ∀ ch, (c.sm fs K ch).length ≤ (fs.length + 1) ^ c.posS * N) ∧ ∀ (l : List St) ch, (smL fs l ch).length ≤ (fs.length + 1) ^ posSL l := by
  refine St.ind2 (fun h subs _ K N hK ch => ?_) (fun ch => by rw [smL_nil, posSL_nil]; simp) (fun c r hc hr ch => ?_)
  · rw [sm_mk, posS_mk]
    have hN : N ≤ (fs.length + 1) ^ ((if h.k = 1 then 1 else 0) + posSL subs) * N := Nat.le_mul_of_pos_left _ (pow_pos' _ _)
    by_cases h1 : h.k = 1
    · rw [if_pos h1]
      have hb : ∀ f ∈ fs, (if meetH h (ch.map Prod.snd) f.2 = true then K (ch ++ [f]) else []).length ≤ N := fun f _ => by
        split
        · exact hK _
        · exact Nat.zero_le _
      refine Nat.le_trans (flatMap_len hb) (Nat.mul_le_mul_right N ?_)
      rw [if_pos h1, Nat.pow_add, Nat.pow_one]
      exact Nat.le_trans (Nat.le_succ _) (Nat.le_mul_of_pos_right _ (pow_pos' _ _))
    · rw [if_neg h1]
      rw [if_neg h1] at hN
      split
      · exact Nat.zero_le _
      · split
        · exact Nat.zero_le _
        · exact Nat.le_trans (hK ch) hN
  · rw [smL_cons, posSL_cons, Nat.pow_add]
    exact hc _ _ hr ch
mutual
/-- All steps in it have a kind, and tests whose fields are fields. -/
def St.goodS : St → Prop
  | .mk h subs => (h.k = 1 ∨ h.k = 2 ∨ h.k = 3) ∧ (∀ x ∈ h.ts, tFine x ∧ -1 ≤ x.2.1) ∧ h.ts.length ≤ 3 ∧ goodSL subs
def goodSL : List St → Prop
  | [] => True
  | c :: r => c.goodS ∧ goodSL r
end
theorem goodSL_iff : ∀ {l : List St}, goodSL l ↔ ∀ x ∈ l, x.goodS
  | [] => by rw [goodSL]; simp
  | c :: r => by rw [goodSL, goodSL_iff]; simp
theorem goodS_mk {h : SH} {subs : List St} : (St.mk h subs).goodS ↔ (h.k = 1 ∨ h.k = 2 ∨ h.k = 3) ∧ (∀ x ∈ h.ts, tFine x ∧ -1 ≤ x.2.1) ∧ h.ts.length ≤ 3 ∧ ∀ x ∈ subs, x.goodS := by
  rw [St.goodS, goodSL_iff]
/-- The steps of good conditions are good, and have as many Pos. -/
theorem st_good : (∀ (c : Sh), c.good → ∀ ch, (c.st ch).goodS ∧ (c.st ch).posS ≤ c.posA) ∧ ∀ (l : List Sh), (∀ x ∈ l, x.good) → ∀ ch, (∀ x ∈ stL l ch, x.goodS) ∧ posSL (stL l ch) ≤ posAL l := by
  refine Sh.ind2 (fun h subs ih hg ch => ?_) (fun _ ch => by rw [stL_nil, posSL_nil]; exact ⟨fun x hx => (by cases hx), Nat.zero_le _⟩) (fun c r hc hr hg ch => ?_)
  · have hf := st_fine (.mk h subs) ch
    obtain ⟨_, hk, hs⟩ := good_mk.1 hg
    rw [st_mk] at hf ⊢
    rw [posA_mk]
    by_cases h3 : h.k = 3
    · rw [if_pos h3] at hf ⊢
      obtain ⟨i1, i2⟩ := ih hs ch
      refine ⟨goodS_mk.2 ⟨.inr (.inr h3), hf.1, hf.2, i1⟩, ?_⟩
      rw [posS_mk]
      show (if h.k = 1 then 1 else 0) + _ ≤ _
      omega
    · rw [if_neg h3] at hf ⊢
      refine ⟨goodS_mk.2 ⟨hk, hf.1, hf.2, fun x hx => (by cases hx)⟩, ?_⟩
      rw [posS_mk, posSL_nil]
      show (if h.k = 1 then 1 else 0) + 0 ≤ _
      omega
  · rw [stL_cons, posSL_cons, posAL_cons]
    obtain ⟨h1, h2⟩ := hc (hg c List.mem_cons_self) ch
    obtain ⟨h3, h4⟩ := hr (fun x hx => hg x (List.mem_cons_of_mem _ hx)) (ch ++ [c])
    refine ⟨fun x hx => ?_, by omega⟩
    rcases List.mem_cons.1 hx with rfl | hx
    · exact h1
    · exact h3 x hx
end
section
open Go.RowKit
set_option maxRecDepth 100000

/-- What is handed on: how many steps, and what is chosen. -/
abbrev Ev := Nat × List F4
/-- There is what a Neg or an Ncc asks that there isn't. -/
def stopB (fs : List F4) (s : St) (ch : List F4) : Bool :=
  if s.hd.k = 3 then !(smL fs s.subs ch).isEmpty else fs.any fun f => meetH s.hd (ch.map Prod.snd) f.2
/-- What is handed on behind a step, for a Pos from the u-th fact on. -/
def nxt (fs : List F4) (s : St) (ch : List F4) (u : Nat) (K : List F4 → List Ev) : List Ev :=
  if s.hd.k = 1 then (fs.drop u).flatMap fun f => if meetH s.hd (ch.map Prod.snd) f.2 then K (ch ++ [f]) else []
  else if stopB fs s ch then [] else K ch
def evL (fs : List F4) : List St → Nat → List F4 → List Ev
  | [], n, ch => [(n, ch)]
  | s :: r, n, ch => (n, ch) :: nxt fs s ch 0 (evL fs r (n + 1))
theorem evL_nil (fs : List F4) (n : Nat) (ch : List F4) : evL fs [] n ch = [(n, ch)] := rfl
theorem evL_cons (fs : List F4) (s : St) (r : List St) (n : Nat) (ch : List F4) : evL fs (s :: r) n ch = (n, ch) :: nxt fs s ch 0 (evL fs r (n + 1)) := rfl
/-- A step has a kind. -/
def kindS (s : St) : Prop := s.hd.k = 1 ∨ s.hd.k = 2 ∨ s.hd.k = 3
theorem St.goodS.kind {s : St} (h : s.goodS) : kindS s := by
  obtain ⟨h', subs⟩ := s
  exact (goodS_mk.1 h).1
theorem sm_nxt {fs : List F4} {s : St} (hk : kindS s) (K : List F4 → List (List Int)) (ch : List F4) : s.sm fs K ch = if s.hd.k = 1 then fs.flatMap (fun f => if meetH s.hd (ch.map Prod.snd) f.2 then K (ch ++ [f]) else []) else if stopB fs s ch then [] else K ch := by
  obtain ⟨h, subs⟩ := s
  have hk' : h.k = 1 ∨ h.k = 2 ∨ h.k = 3 := hk
  rw [sm_mk]
  have e1 : (St.mk h subs).hd = h := rfl
  have e2 : (St.mk h subs).subs = subs := rfl
  unfold stopB
  rw [e1, e2]
  rcases hk' with h1 | h2 | h3
  · rw [if_pos h1, if_pos h1]
  · simp only [h2]
    simp only [true_and]
    simp
  · simp only [h3]
    simp
theorem nxt_mem {fs : List F4} {s : St} {ch : List F4} {u : Nat} {K : List F4 → List Ev} {e : Ev} (h : e ∈ nxt fs s ch u K) : ∃ ch', e ∈ K ch' := by
  unfold nxt at h
  split at h
  · obtain ⟨f, _, h⟩ := List.mem_flatMap.1 h
    split at h
    · exact ⟨_, h⟩
    · cases h
  · split at h
    · cases h
    · exact ⟨_, h⟩
theorem ev_ge {fs : List F4} : ∀ (l : List St) (n : Nat) (ch : List F4) (e : Ev), e ∈ evL fs l n ch → n ≤ e.1 ∧ e.1 ≤ n + l.length
  | [], n, ch, e, h => by rw [evL_nil] at h; rw [List.mem_singleton.1 h]; exact ⟨Nat.le_refl _, Nat.le_add_right _ _⟩
  | s :: r, n, ch, e, h => by
    rw [evL_cons] at h
    rcases List.mem_cons.1 h with rfl | h
    · exact ⟨Nat.le_refl _, Nat.le_add_right _ _⟩
    · obtain ⟨ch', h⟩ := nxt_mem h
      have := ev_ge r (n + 1) ch' e h
      rw [List.length_cons]; omega
theorem nxt_pick {fs : List F4} {s : St} (hk : kindS s) {ch : List F4} {K : List F4 → List Ev} {K' : List F4 → List (List Int)} {p : Ev → Bool} {g : Ev → List Int} (h : ∀ ch, ((K ch).filter p).map g = K' ch) : ((nxt fs s ch 0 K).filter p).map g = s.sm fs K' ch := by
  rw [sm_nxt hk]
  unfold nxt
  by_cases h1 : s.hd.k = 1
  · rw [if_pos h1, if_pos h1, List.drop_zero, List.filter_flatMap, List.map_flatMap]
    refine flatMap_congr' fun f _ => ?_
    by_cases hm : meetH s.hd (ch.map Prod.snd) f.2 = true
    · rw [if_pos hm, if_pos hm]; exact h _
    · rw [if_neg hm, if_neg hm]; rfl
  · rw [if_neg h1, if_neg h1]
    by_cases hs : stopB fs s ch = true
    · rw [if_pos hs, if_pos hs]; rfl
    · rw [if_neg hs, if_neg hs]; exact h _
/-- Those with just so many steps are the matches of so many steps. -/
theorem ev_take {fs : List F4} : ∀ (l : List St), (∀ x ∈ l, kindS x) → ∀ (k n : Nat) (ch : List F4), k ≤ l.length → ((evL fs l n ch).filter fun e => e.1 == n + k).map (fun e => e.2.map Prod.fst) = smL fs (l.take k) ch
  | [], _, k, n, ch, hk => by
    obtain rfl : k = 0 := by simpa using hk
    rw [evL_nil, List.take_nil, smL_nil]
    simp
  | s :: r, hg, k, n, ch, hk => by
    rw [evL_cons]
    cases k with
    | zero =>
      rw [List.take_zero, smL_nil, List.filter_cons_of_pos (by simp), List.map_cons]
      have : (nxt fs s ch 0 (evL fs r (n + 1))).filter (fun e => e.1 == n + 0) = [] := by
        rw [List.filter_eq_nil_iff]
        intro e he
        obtain ⟨ch', he⟩ := nxt_mem he
        have := (ev_ge r (n + 1) ch' e he).1
        simp; omega
      rw [this]; rfl
    | succ k =>
      rw [List.take_succ_cons, smL_cons, List.filter_cons_of_neg (by simp)]
      refine nxt_pick (hg s List.mem_cons_self) fun ch' => ?_
      have := ev_take (fs := fs) r (fun x hx => hg x (List.mem_cons_of_mem _ hx)) k (n + 1) ch' (by simpa using hk)
      rw [← this]
      congr 2
      funext e
      rw [show n + (k + 1) = n + 1 + k by omega]
/-- .. all of them. -/
theorem ev_all {fs : List F4} {l : List St} (hg : ∀ x ∈ l, kindS x) (ch : List F4) : ((evL fs l 0 ch).filter fun e => e.1 == l.length).map (fun e => e.2.map Prod.fst) = smL fs l ch := by
  have := ev_take (fs := fs) l hg l.length 0 ch (Nat.le_refl _)
  rw [List.take_length] at this
  rw [← this]
  congr 2
  funext e
  rw [Nat.zero_add]
theorem ev_any {fs : List F4} {l : List St} (hg : ∀ x ∈ l, kindS x) (ch : List F4) : ((evL fs l 0 ch).any fun e => e.1 == l.length) = !(smL fs l ch).isEmpty := by
  rw [← ev_all hg ch, Bool.eq_iff_iff, List.any_eq_true]
  constructor
  · rintro ⟨e, h1, h2⟩
    simp only [Bool.not_eq_true', List.isEmpty_eq_false_iff]
    exact List.ne_nil_of_mem (List.mem_map_of_mem (List.mem_filter.2 ⟨h1, h2⟩))
  · intro h
    simp only [Bool.not_eq_true', List.isEmpty_eq_false_iff] at h
    obtain ⟨x, hx⟩ := List.exists_mem_of_ne_nil _ h
    obtain ⟨e, he, _⟩ := List.mem_map.1 hx
    exact ⟨e, (List.mem_filter.1 he).1, (List.mem_filter.1 he).2⟩

/-! ### Till no more is wanted -/
def upto (more : Ev → Bool) : List Ev → List Ev
  | [] => []
  | e :: r => if more e then e :: upto more r else [e]
theorem upto_all {more : Ev → Bool} : ∀ {E : List Ev}, (∀ e ∈ E, more e = true) → upto more E = E
  | [], _ => rfl
  | e :: r, h => by rw [upto, if_pos (h e List.mem_cons_self), upto_all fun x hx => h x (List.mem_cons_of_mem _ hx)]
theorem upto_stop {more : Ev → Bool} {e : Ev} {r : List Ev} (he : more e = false) : ∀ {D : List Ev}, (∀ x ∈ D, more x = true) → upto more (D ++ e :: r) = D ++ [e]
  | [], _ => by rw [List.nil_append, upto, if_neg (by rw [he]; decide)]; rfl
  | x :: D, h => by rw [List.cons_append, upto, if_pos (h x List.mem_cons_self), upto_stop he fun y hy => h y (List.mem_cons_of_mem _ hy), List.cons_append]
theorem upto_any {p : Ev → Bool} : ∀ E : List Ev, (upto (fun e => !p e) E).any p = E.any p
  | [] => rfl
  | e :: r => by
    rw [upto]
    cases h : p e
    · rw [if_pos (by rfl), List.any_cons, List.any_cons, upto_any r]
    · rw [if_neg (by simp), List.any_cons, List.any_cons, h]; rfl

/-! ### The list of choices -/
/-- Choices, the last one first: at which step which fact, and the fact. -/
abbrev Stk := List (Nat × Nat × F4)
def chOf (b0 : List F4) : Stk → List F4
  | [] => b0
  | c :: r => chOf b0 r ++ [c.2.2]
def idsOf : Stk → List Int
  | [] => []
  | c :: r => idsOf r ++ [c.2.2.1]
def hOf : Stk → List (Int × Int)
  | [] => []
  | c :: r => hOf r ++ [((c.1 : Int), (c.2.1 : Int))]
theorem chOf_app (b0 : List F4) : ∀ s : Stk, chOf b0 s = b0 ++ chOf [] s
  | [] => by simp [chOf]
  | c :: r => by rw [chOf, chOf, chOf_app b0 r, List.append_assoc]
theorem idsOf_ch : ∀ s : Stk, (chOf [] s).map Prod.fst = idsOf s
  | [] => rfl
  | c :: r => by rw [chOf, idsOf, List.map_append, idsOf_ch r]; rfl
theorem ids_drop (b0 : List F4) (s : Stk) : ((chOf b0 s).drop b0.length).map Prod.fst = idsOf s := by
  rw [chOf_app, List.drop_left, idsOf_ch]
theorem idsOf_len : ∀ s : Stk, (idsOf s).length = s.length
  | [] => rfl
  | c :: r => by rw [idsOf, List.length_append, idsOf_len r]; rfl
theorem hOf_len : ∀ s : Stk, (hOf s).length = s.length
  | [] => rfl
  | c :: r => by rw [hOf, List.length_append, hOf_len r]; rfl
theorem chOf_len (b0 : List F4) : ∀ s : Stk, (chOf b0 s).length = b0.length + s.length
  | [] => rfl
  | c :: r => by rw [chOf, List.length_append, chOf_len b0 r]; rfl
/-- What is handed on behind so many steps, for a Pos from the u-th fact on. -/
def kidsAt (fs : List F4) (l : List St) (n : Nat) (ch : List F4) (u : Nat) : List Ev := match l[n]? with
  | none => []
  | some s => nxt fs s ch u (evL fs (l.drop (n + 1)) (n + 1))
def todo (fs : List F4) (l : List St) (b0 : List F4) : Stk → List Ev
  | [] => []
  | c :: r => kidsAt fs l c.1 (chOf b0 r) (c.2.1 + 1) ++ todo fs l b0 r
theorem ev_kids {fs : List F4} {l : List St} {n : Nat} {ch : List F4} : n ≤ l.length → evL fs (l.drop n) n ch = (n, ch) :: kidsAt fs l n ch 0 := by
  intro h
  unfold kidsAt
  rcases Nat.lt_or_ge n l.length with hn | hn
  · rw [List.drop_eq_getElem_cons hn, evL_cons, List.getElem?_eq_getElem hn]
  · rw [List.drop_eq_nil_of_le hn, List.getElem?_eq_none hn]; rfl
theorem kids_some {fs : List F4} {l : List St} {n : Nat} {ch : List F4} {u : Nat} {s : St} (h : l[n]? = some s) : kidsAt fs l n ch u = nxt fs s ch u (evL fs (l.drop (n + 1)) (n + 1)) := by unfold kidsAt; rw [h]
theorem kids_none {fs : List F4} {l : List St} {n : Nat} {ch : List F4} {u : Nat} (h : l.length ≤ n) : kidsAt fs l n ch u = [] := by unfold kidsAt; rw [List.getElem?_eq_none h]
theorem nxt_end {fs : List F4} {s : St} {ch : List F4} {u : Nat} {K : List F4 → List Ev} (hk : s.hd.k = 1) (h : fs.length ≤ u) : nxt fs s ch u K = [] := by
  unfold nxt
  rw [if_pos hk, List.drop_eq_nil_of_le h]; rfl
theorem nxt_skip {fs : List F4} {s : St} {ch : List F4} {u : Nat} {K : List F4 → List Ev} {f : F4} (hk : s.hd.k = 1) (hf : fs[u]? = some f) (hm : meetH s.hd (ch.map Prod.snd) f.2 = false) : nxt fs s ch u K = nxt fs s ch (u + 1) K := by
  unfold nxt
  obtain ⟨hl, e⟩ := List.getElem?_eq_some_iff.1 hf
  rw [if_pos hk, if_pos hk, List.drop_eq_getElem_cons hl, e, List.flatMap_cons, if_neg (by rw [hm]; decide)]; rfl
theorem nxt_hit {fs : List F4} {s : St} {ch : List F4} {u : Nat} {K : List F4 → List Ev} {f : F4} (hk : s.hd.k = 1) (hf : fs[u]? = some f) (hm : meetH s.hd (ch.map Prod.snd) f.2 = true) : nxt fs s ch u K = K (ch ++ [f]) ++ nxt fs s ch (u + 1) K := by
  unfold nxt
  obtain ⟨hl, e⟩ := List.getElem?_eq_some_iff.1 hf
  rw [if_pos hk, if_pos hk, List.drop_eq_getElem_cons hl, e, List.flatMap_cons, if_pos hm]
theorem nxt_stop {fs : List F4} {s : St} {ch : List F4} {u : Nat} {K : List F4 → List Ev} (hk : s.hd.k ≠ 1) : nxt fs s ch u K = if stopB fs s ch then [] else K ch := by
  unfold nxt
  rw [if_neg hk]
/-- The choices fit: each at a Pos ahead of what comes, each of a fact. -/
def WfS (fs : List F4) (l : List St) : Nat → Stk → Prop
  | _, [] => True
  | n, c :: r => c.1 < n ∧ (∃ s, l[c.1]? = some s ∧ s.hd.k = 1) ∧ fs[c.2.1]? = some c.2.2 ∧ WfS fs l c.1 r
theorem WfS.mono {fs : List F4} {l : List St} {n m : Nat} {s : Stk} (h : WfS fs l n s) (hm : n ≤ m) : WfS fs l m s := by
  cases s with
  | nil => trivial
  | cons c r => exact ⟨Nat.lt_of_lt_of_le h.1 hm, h.2⟩
theorem WfS.len {fs : List F4} {l : List St} : ∀ {n : Nat} {s : Stk}, WfS fs l n s → s.length ≤ n
  | _, [], _ => Nat.zero_le _
  | n, c :: r, h => by
    have := h.2.2.2.len
    have := h.1
    rw [List.length_cons]; omega

/-! ### Sizes of good steps -/
theorem mass_good : (∀ s : St, s.goodS → s.mass ≤ 4 * s.cnt) ∧ ∀ l : List St, (∀ x ∈ l, x.goodS) → massL l ≤ 4 * cntL l := by
  refine St.ind2 (fun h subs ih hg => ?_) (fun _ => Nat.zero_le _) (fun a l ha hl hg => ?_)
  · obtain ⟨_, _, h3, h4⟩ := goodS_mk.1 hg
    have := ih h4
    rw [St.mass, St.cnt]; omega
  · have := ha (hg a List.mem_cons_self)
    have := hl fun x hx => hg x (List.mem_cons_of_mem _ hx)
    rw [massL, cntL]; omega
/-- A good step that may stand in a chain. -/
def St.okS (s : St) : Prop := s.goodS ∧ s.right = true
theorem St.okS.cnt {s : St} (h : s.okS) : s.cnt ≤ 16 := by
  have := h.2
  unfold St.right at this
  simp only [Bool.and_eq_true, decide_eq_true_iff] at this
  exact this.2
theorem St.okS.mass {s : St} (h : s.okS) : s.mass ≤ 64 := by
  have := mass_good.1 s h.1
  have := h.cnt
  omega
theorem cntL_okS : ∀ {l : List St}, (∀ x ∈ l, x.okS) → cntL l ≤ 16 * l.length
  | [], _ => Nat.zero_le _
  | a :: r, h => by
    have := cntL_okS fun x hx => h x (List.mem_cons_of_mem _ hx)
    have := (h a List.mem_cons_self).cnt
    rw [cntL, List.length_cons]; omega
end
section
open Go.RowKit

/-- Elements that lie at a slice. -/
def In {α : Type} (cells : α → List Value) (size : Nat) (w : World) (a : Option Addr) (len : Nat) (xs : List α) : Prop :=
  xs.length = len ∧ (len = 0 ∨ ∃ b off, a = some ⟨b, off, none⟩ ∧ b < w.heap.size ∧ ∀ j x i v, xs[j]? = some x → (cells x)[i]? = some v → w.cell? ⟨b, off + j * size + i, none⟩ = some v)
/-- A number's cells. -/
def cN (x : Int) : List Value := [.int .i64 x]
section
variable {α : Type} {cells : α → List Value} {size : Nat} {w w' : World} {a : Option Addr} {len cap : Nat} {xs : List α}
theorem In.kept (h : In cells size w a len xs) (hk : Kept Nil w w') : In cells size w' a len xs :=
  ⟨h.1, h.2.imp id fun ⟨b, off, e, hb, hc⟩ => ⟨b, off, e, Nat.lt_of_lt_of_le hb hk.size, fun j x i v hj hi => (hk.cell (p := ⟨b, off + j * size + i, none⟩) hb (fun e => e)).trans (hc j x i v hj hi)⟩⟩
/-- .. where the block that they lie in stays. -/
theorem In.keptF {F : Nat → Prop} (h : In cells size w a len xs) (hk : Kept F w w') (hF : ∀ b, (Value.slice a len cap).ownBlock = some b → ¬ F b) : In cells size w' a len xs :=
  ⟨h.1, h.2.imp id fun ⟨b, off, e, hb, hc⟩ => ⟨b, off, e, Nat.lt_of_lt_of_le hb hk.size, fun j x i v hj hi => (hk.cell (p := ⟨b, off + j * size + i, none⟩) hb (hF b (by rw [e]; rfl))).trans (hc j x i v hj hi)⟩⟩
theorem In.at_ (h : In cells size w a len xs) {j : Nat} {x : α} (hj : xs[j]? = some x) : ∃ b off, a = some ⟨b, off, none⟩ ∧ b < w.heap.size ∧ ∀ i v, (cells x)[i]? = some v → w.cell? ⟨b, off + j * size + i, none⟩ = some v := by
  rcases h.2 with e | ⟨b, off, e, hb, hc⟩
  · have := h.1
    rw [e] at this
    rw [List.length_eq_zero_iff.1 this] at hj; cases hj
  · exact ⟨b, off, e, hb, fun i v hi => hc j x i v hj hi⟩
theorem flat_len (hsz : ∀ x, (cells x).length = size) : ∀ l : List α, (l.flatMap cells).length = l.length * size
  | [] => by simp
  | x :: r => by rw [List.flatMap_cons, List.length_append, hsz, flat_len hsz r, List.length_cons, Nat.add_mul]; omega
theorem flat_get (hsz : ∀ x, (cells x).length = size) : ∀ (l : List α) (i j : Nat) (x : α), l[i]? = some x → j < size → (l.flatMap cells)[i * size + j]? = (cells x)[j]?
  | [], i, j, x, h, _ => by simp at h
  | y :: r, 0, j, x, h, hj => by
    simp only [List.getElem?_cons_zero, Option.some.injEq] at h
    subst h
    rw [List.flatMap_cons, Nat.zero_mul, Nat.zero_add, List.getElem?_append_left (by rw [hsz]; exact hj)]
  | y :: r, i + 1, j, x, h, hj => by
    rw [List.flatMap_cons, List.getElem?_append_right (by rw [hsz, Nat.add_mul]; omega), hsz, show (i + 1) * size + j - size = i * size + j by rw [Nat.add_mul]; omega]
    exact flat_get hsz r i j x (by simpa using h) hj
theorem In.toAt (h : In cells size w a len xs) (hsz : ∀ x, (cells x).length = size) (hs : 0 < size) : At w (.slice a len cap) len (xs.flatMap cells) := by
  refine ⟨a, cap, rfl, ?_⟩
  rcases h.2 with e | ⟨b, off, e, hb, hc⟩
  · left
    have := h.1
    rw [e] at this
    rw [List.length_eq_zero_iff.1 this]; rfl
  · refine .inr ⟨b, off, e, fun j v hj => ?_⟩
    have hl := (List.getElem?_eq_some_iff.1 hj).1
    rw [flat_len hsz] at hl
    have hd : j / size < xs.length := Nat.div_lt_of_lt_mul (by rw [Nat.mul_comm]; exact hl)
    obtain ⟨x, hx⟩ : ∃ x, xs[j / size]? = some x := ⟨_, List.getElem?_eq_getElem hd⟩
    have hm : j % size < size := Nat.mod_lt _ hs
    have e2 : j / size * size + j % size = j := by rw [Nat.mul_comm]; exact Nat.div_add_mod j size
    have := flat_get hsz xs (j / size) (j % size) x hx hm
    rw [e2, hj] at this
    have := hc _ x _ v hx this.symm
    rwa [Nat.add_assoc, e2] at this
/-- A row of a call's own. -/
theorem In.own {B : Nat} {e : TypeId} (h : w.ownsRow B e size (.slice a len cap) len (xs.flatMap cells)) (hsz : ∀ x, (cells x).length = size) (hs : 0 < size) : In cells size w a len xs := by
  have hl : xs.length = len := by
    have := h.1
    rw [flat_len hsz] at this
    exact Nat.eq_of_mul_eq_mul_right hs this
  refine ⟨hl, ?_⟩
  rcases h.2 with ⟨e1, e0⟩ | ⟨g, c, cur, e1, hb, hg, _⟩
  · exact .inl e0
  · cases e1
    refine .inr ⟨g, 0, rfl, (Array.getElem?_eq_some_iff.1 hg).1, fun j x i v hj hi => ?_⟩
    have hi' : i < size := by rw [← hsz x]; exact (List.getElem?_eq_some_iff.1 hi).1
    have := h.cells (g := g) rfl (j * size + i) v (by rw [flat_get hsz xs j i x hj hi']; exact hi)
    rw [Addr.add_mid] at this
    rw [Nat.add_assoc]
    exact this
end
theorem cN_len (x : Int) : (cN x).length = 1 := rfl
theorem cN_one (x : Int) : ∀ v ∈ cN x, v.oneCell' = true := fun v hv => by
  simp only [cN, List.mem_cons, List.not_mem_nil, or_false] at hv
  subst hv; rfl
theorem flatN_one (l : List Int) : ∀ u ∈ l.flatMap cN, u.oneCell' = true := by
  intro u hu
  obtain ⟨x, _, hx⟩ := List.mem_flatMap.1 hu
  exact cN_one x u hx
/-- A row of a call's own that holds elements. -/
def Row {α : Type} (cells : α → List Value) (e : TypeId) (size : Nat) (w : World) (B : Nat) (v : Value) (l : List α) : Prop := w.ownsRow B e size v l.length (l.flatMap cells)
section
variable {α : Type} {cells : α → List Value} {e : TypeId} {size : Nat} {w w' : World} {B : Nat} {v : Value} {l : List α}
theorem Row.shape (h : Row cells e size w B v l) : ∃ a cap, v = .slice a l.length cap := by
  rcases h.2 with ⟨e, e0⟩ | ⟨g, cap, cur, e, _⟩
  · exact ⟨none, 0, by rw [e, e0]⟩
  · exact ⟨_, _, e⟩
theorem Row.nil (w : World) (B : Nat) : Row cells e size w B (.slice none 0 0) [] := World.ownsRow_nil _ _ _ _
theorem Row.keptN (h : Row cells e size w B v l) (k : Kept Nil w w') : Row cells e size w' B v l := k.row h (fun _ _ g => g)
theorem Row.keptF {F : Nat → Prop} (h : Row cells e size w B v l) (k : Kept F w w') (hF : ∀ b, v.ownBlock = some b → ¬ F b) : Row cells e size w' B v l := k.row h hF
theorem Row.down {B' : Nat} (h : Row cells e size w B v l) (hB : B' ≤ B) : Row cells e size w B' v l := by
  refine ⟨h.1, ?_⟩
  rcases h.2 with e | ⟨g, cap, cur, e, hb, rest⟩
  · exact .inl e
  · exact .inr ⟨g, cap, cur, e, Nat.le_trans hB hb, rest⟩
theorem Row.block (h : Row cells e size w B v l) {k : Nat} (hk : v.ownBlock = some k) : ∃ cur, w.heap[k]? = some (.cells cur e (0, 0)) := by
  rcases h.2 with ⟨rfl, _⟩ | ⟨g, cap, cur, rfl, _, hg, _⟩
  · cases hk
  · cases hk; exact ⟨cur, hg⟩
theorem Row.toIn {a : Option Addr} {n cap : Nat} (h : Row cells e size w B (.slice a n cap) l) (hsz : ∀ x, (cells x).length = size) (hs : 0 < size) : In cells size w a n l := by
  obtain ⟨a', c', e'⟩ := h.shape
  have hn : n = l.length := by injection e'
  have h' := h
  unfold Row at h'
  rw [← hn] at h'
  exact In.own h' hsz hs
/-- One element more, out of a literal in new memory. -/
theorem Row.push {P : Program} {t : TypeId} (T : Els P t e size) (hsz : ∀ x, (cells x).length = size) (h1 : ∀ x, ∀ u ∈ cells x, u.oneCell' = true) (ty : TypeId) {wr : World} {n cap : Nat} {a : Option Addr} (hk : Kept Nil w wr) (h : Row cells e size wr w.heap.size (.slice a n cap) l) (hn : n = l.length) (hl : l.length ≤ 5000) (x : α) (cs : Array Value) (hcs : cs.toList = cells x) :
    ∃ a' cap' w', (Builtin.append_ #[t, t] ty #[.slice a n cap, .slice (some ⟨wr.heap.size, 0, none⟩) 1 1]).run P (wr.alloc (.cells cs e)) = .ok (.slice a' (n + 1) cap') w' ∧
      Row cells e size w' w.heap.size (.slice a' (n + 1) cap') (l ++ [x]) ∧ Kept Nil w w' ∧ Kept (fun k => (Value.slice a n cap).ownBlock = some k) wr w' := by
  subst hn
  have h2 : Row cells e size (wr.alloc (.cells cs e)) w.heap.size (.slice a l.length cap) l := h.keptN ((Kept.refl _ _).alloc _)
  obtain ⟨v', w', r, o, k, _⟩ := append_any T ty h2 (At.lit wr e cs (cells x) hcs) (by rw [hsz, Nat.one_mul]) (h1 x) (by omega) (by simp; have := hk.size; omega)
  have o2 : Row cells e size w' w.heap.size v' (l ++ [x]) := by simpa [Row] using o
  obtain ⟨a', cap', e⟩ := o2.shape
  rw [List.length_append] at e
  subst e
  exact ⟨a', cap', w', r, o2, (hk.alloc _).trans k (fun i hi e => absurd (h.lt i e).1 (Nat.not_le.2 hi)), ((Kept.refl _ _).alloc _).trans k (fun _ _ e => e)⟩
/-- All that lies at a slice, behind what is there. -/
theorem Row.pushAll {P : Program} {t : TypeId} (T : Els P t e size) (hsz : ∀ x, (cells x).length = size) (h1 : ∀ x, ∀ u ∈ cells x, u.oneCell' = true) (hs : 0 < size) (ty : TypeId) {wr : World} {n cap : Nat} {a : Option Addr} (hk : Kept Nil w wr) (h : Row cells e size wr w.heap.size (.slice a n cap) l) (hn : n = l.length) (hl : l.length ≤ 5000)
    {a2 : Option Addr} {n2 c2 : Nat} {l2 : List α} (h2 : In cells size wr a2 n2 l2) (hl2 : l2.length ≤ 5000) :
    ∃ a' cap' w', (Builtin.append_ #[t, t] ty #[.slice a n cap, .slice a2 n2 c2]).run P wr = .ok (.slice a' (n + n2) cap') w' ∧
      Row cells e size w' w.heap.size (.slice a' (n + n2) cap') (l ++ l2) ∧ Kept Nil w w' ∧ Kept (fun k => (Value.slice a n cap).ownBlock = some k) wr w' := by
  subst hn
  obtain ⟨v', w', r, o, k, _⟩ := append_any T ty h (h2.toAt (cap := c2) hsz hs) (by rw [flat_len hsz, h2.1]) (fun u hu => by obtain ⟨x, _, hx⟩ := List.mem_flatMap.1 hu; exact h1 x u hx) (by have := h2.1; omega) hk.size
  have o2 : Row cells e size w' w.heap.size v' (l ++ l2) := by
    have := h2.1
    subst this
    simpa [Row] using o
  obtain ⟨a', cap', e⟩ := o2.shape
  rw [List.length_append, h2.1] at e
  subst e
  exact ⟨a', cap', w', r, o2, hk.trans k (fun i hi e => absurd (h.lt i e).1 (Nat.not_le.2 hi)), k⟩
end
end
end Go.Proofs.Ytmpoeibkndcnnaa
