/- Layer cond: conditions as trees, and what it means that a slice in memory holds some. -/
import Derived.Test.YtefojaeinhgeiaaCTerm
namespace Go.Proofs.Ytefojaeinhgeiaa
open Go.RowKit
set_option maxRecDepth 100000

/-- What a condition says by itself: its kind, its terms. -/
structure Hd where
  k : Int
  x0 : Bool
  x1 : Bool
  x2 : Bool
  n0 : Int
  n1 : Int
  n2 : Int
inductive Sh where
  | mk (h : Hd) (subs : List Sh)
def Sh.hd : Sh → Hd
  | .mk h _ => h
def Sh.subs : Sh → List Sh
  | .mk _ l => l
theorem Sh.eta (s : Sh) : Sh.mk s.hd s.subs = s := by cases s; rfl
theorem Sh.ind {P : Sh → Prop} (h : ∀ hd subs, (∀ x ∈ subs, P x) → P (.mk hd subs)) : ∀ s, P s := by
  intro s
  exact Sh.rec (motive_1 := P) (motive_2 := fun l => ∀ x ∈ l, P x) (fun hd subs ih => h hd subs ih) (by simp) (fun a l ha hl x hx => by
    rcases List.mem_cons.1 hx with rfl | hx
    · exact ha
    · exact hl x hx) s
/-- All of them, in a list as in a tree. -/
theorem Sh.ind2 {P : Sh → Prop} {Q : List Sh → Prop} (h : ∀ hd subs, Q subs → P (.mk hd subs)) (h0 : Q []) (h1 : ∀ a l, P a → Q l → Q (a :: l)) : (∀ s, P s) ∧ ∀ l, Q l :=
  ⟨fun s => Sh.rec (motive_1 := P) (motive_2 := Q) h h0 h1 s, fun l => by
    induction l with
    | nil => exact h0
    | cons a l ih => exact h1 a l (Sh.rec (motive_1 := P) (motive_2 := Q) h h0 h1 a) ih⟩

mutual
def Sh.count : Sh → Nat
  | .mk _ l => 1 + countL l
def countL : List Sh → Nat
  | [] => 0
  | s :: r => s.count + countL r
end
theorem countL_append (a b : List Sh) : countL (a ++ b) = countL a + countL b := by
  induction a with
  | nil => simp [countL]
  | cons x r ih => simp only [List.cons_append, countL, ih]; omega
theorem count_pos (s : Sh) : 0 < s.count := by cases s; unfold Sh.count; omega
theorem length_countL : ∀ l : List Sh, l.length ≤ countL l
  | [] => by simp
  | s :: r => by
    have := length_countL r
    have := count_pos s
    simp only [List.length_cons, countL]; omega
theorem count_mem {l : List Sh} {s : Sh} (h : s ∈ l) : s.count ≤ countL l := by
  induction l with
  | nil => cases h
  | cons a r ih =>
    simp only [countL]
    rcases List.mem_cons.1 h with rfl | h
    · omega
    · have := ih h; omega
theorem countL_take_succ {l : List Sh} {i : Nat} {s : Sh} (h : l[i]? = some s) : countL (l.take (i + 1)) = countL (l.take i) + s.count := by
  rw [List.take_add_one, h, countL_append]
  simp [countL]
theorem countL_take_le (l : List Sh) (i : Nat) : countL (l.take i) ≤ countL l := by
  have := countL_append (l.take i) (l.drop i)
  rw [List.take_append_drop] at this
  omega

/-- The cells of a condition: of the program's, of the reference's. -/
abbrev cA (h : Hd) (v : Value) : List Value := [.int .i64 h.k, .bool h.x0, .int .i64 h.n0, .bool h.x1, .int .i64 h.n1, .bool h.x2, .int .i64 h.n2, v]
abbrev cR (h : Hd) (v : Value) : List Value := [.int .i64 h.k, .int .i64 (isV h.x0), .int .i64 h.n0, .int .i64 (isV h.x1), .int .i64 h.n1, .int .i64 (isV h.x2), .int .i64 h.n2, v]

/-- A slice in memory that holds conditions; 'ok' names the places where rows begin. -/
inductive Holds (E : Hd → Value → List Value) (w : World) (ok : Nat → Nat → Prop) : Value → List Sh → Prop
  | nil (a : Option Addr) (cap : Nat) : Holds E w ok (.slice a 0 cap) []
  | row (b o cap : Nat) (subs : List Sh) (u : Nat → Value) (hn : subs.length ≤ cap) (hok : ok b o)
      (hr : ∀ i x, subs[i]? = some x → w.rangeAt b (o + i * 8) (E x.hd (u i)))
      (hs : ∀ i x, subs[i]? = some x → Holds E w ok (u i) x.subs) : Holds E w ok (.slice (some ⟨b, o, none⟩) subs.length cap) subs

section
variable {E : Hd → Value → List Value} {w w' : World} {ok ok' : Nat → Nat → Prop} {v : Value} {subs : List Sh}
theorem Holds.shape (h : Holds E w ok v subs) : ∃ a cap, v = .slice a subs.length cap := by
  cases h with
  | nil a cap => exact ⟨a, cap, rfl⟩
  | row b o cap _ u => exact ⟨_, cap, rfl⟩
theorem Holds.fits {a : Option Addr} {n cap : Nat} (h : Holds E w ok (.slice a n cap) subs) : n = subs.length ∧ n ≤ cap := by
  generalize e : Value.slice a n cap = v at h
  cases h with
  | nil a' cap' => cases e; exact ⟨rfl, Nat.zero_le _⟩
  | row b o cap' _ u hn => cases e; exact ⟨rfl, hn⟩
theorem Holds.at_ {a : Option Addr} {n cap : Nat} (h : Holds E w ok (.slice a n cap) subs) {i : Nat} {hd : Hd} {sb : List Sh} (hi : subs[i]? = some (.mk hd sb)) :
    ∃ b o a' cap', a = some ⟨b, o, none⟩ ∧ ok b o ∧ w.rangeAt b (o + i * 8) (E hd (.slice a' sb.length cap')) ∧ Holds E w ok (.slice a' sb.length cap') sb := by
  generalize e : Value.slice a n cap = v at h
  cases h with
  | nil a' cap' => simp at hi
  | row b o cap' _ u hn hok hr hs =>
    cases e
    obtain ⟨a', cap2, e2⟩ := (hs i _ hi).shape
    have h1 := hr i _ hi
    have h2 := hs i _ hi
    rw [e2] at h1 h2
    exact ⟨b, o, a', cap2, rfl, hok, h1, h2⟩
theorem Holds.move (h : Holds E w ok v subs) (hr : ∀ b o l, ok b o → ∀ i, w.rangeAt b (o + i * 8) l → w'.rangeAt b (o + i * 8) l) (ho : ∀ b o, ok b o → ok' b o) : Holds E w' ok' v subs := by
  induction h with
  | nil a cap => exact .nil a cap
  | row b o cap subs u hn hok hr' _ ih => exact .row b o cap subs u hn (ho b o hok) (fun i x hi => hr b o _ hok i (hr' i x hi)) ih
theorem Holds.mono (h : Holds E w ok v subs) (ho : ∀ b o, ok b o → ok' b o) : Holds E w ok' v subs := h.move (fun _ _ _ _ _ h => h) ho
theorem rangeAt_kept {F : Nat → Prop} (k : Kept F w w') {b o : Nat} (hF : ¬ F b) {l : List Value} (h : w.rangeAt b o l) : w'.rangeAt b o l := fun j u hu => by
  have := h j u hu
  rw [k.cell (World.block_lt_of_cell? w _ this) hF]
  exact this
theorem Holds.kept {F : Nat → Prop} (h : Holds E w ok v subs) (k : Kept F w w') (hF : ∀ b o, ok b o → ¬ F b) : Holds E w' ok v subs :=
  h.move (fun b o _ hb _ hr => rangeAt_kept k (hF b o hb) hr) (fun _ _ h => h)
theorem Holds.keptN (h : Holds E w ok v subs) (k : Kept Nil w w') : Holds E w' ok v subs := h.kept k (fun _ _ _ g => g)
end
theorem cA_len (h : Hd) (v : Value) : (cA h v).length = 8 := rfl
theorem cR_len (h : Hd) (v : Value) : (cR h v).length = 8 := rfl
theorem infoA8 : (Try.prog.info? 38).map (·.size) = some 8 := by kernel_rfl
theorem infoR8 : (Try.prog.info? 45).map (·.size) = some 8 := by kernel_rfl

/-- A condition of the program loaded out of a row; one of the reference. -/
theorem wpList_load_A {ops : Array Oper} {rest : List Oper} {o : Oper} {a : Act} {w : World} {Q : Exit → Act → World → Prop} (hgd : o.guard = none) (x : Operand) (ho : o.op = .load 38 x)
    (b p : Nat) (hx : a.eval x = .pointer (some ⟨b, p, none⟩)) (h : Hd) (u : Value) (hr : w.rangeAt b p (cA h u))
    (hn : wpList Try.prog ops Q rest (a.put o.dst (.agg #[.int .i64 h.k, .bool h.x0, .int .i64 h.n0, .bool h.x1, .int .i64 h.n1, .bool h.x2, .int .i64 h.n2, u])) w) : wpList Try.prog ops Q (o :: rest) a w :=
  wpList_load_mid hgd _ x ho b p hx (cA h u) _ hr Try.underlying38 rfl infoA8 hn
theorem wpList_load_R {ops : Array Oper} {rest : List Oper} {o : Oper} {a : Act} {w : World} {Q : Exit → Act → World → Prop} (hgd : o.guard = none) (x : Operand) (ho : o.op = .load 45 x)
    (b p : Nat) (hx : a.eval x = .pointer (some ⟨b, p, none⟩)) (h : Hd) (u : Value) (hr : w.rangeAt b p (cR h u))
    (hn : wpList Try.prog ops Q rest (a.put o.dst (.agg #[.int .i64 h.k, .int .i64 (isV h.x0), .int .i64 h.n0, .int .i64 (isV h.x1), .int .i64 h.n1, .int .i64 (isV h.x2), .int .i64 h.n2, u])) w) : wpList Try.prog ops Q (o :: rest) a w :=
  wpList_load_mid hgd _ x ho b p hx (cR h u) _ hr Try.underlying45 rfl infoR8 hn
theorem wpList_load_AG {ops : Array Oper} {rest : List Oper} {o : Oper} {a : Act} {w : World} {Q : Exit → Act → World → Prop} (hw : Region.wanted o (yielded ops a.tmps) = true) (x : Operand) (ho : o.op = .load 38 x)
    (b p : Nat) (hx : a.eval x = .pointer (some ⟨b, p, none⟩)) (h : Hd) (u : Value) (hr : w.rangeAt b p (cA h u))
    (hn : wpList Try.prog ops Q rest (a.put o.dst (.agg #[.int .i64 h.k, .bool h.x0, .int .i64 h.n0, .bool h.x1, .int .i64 h.n1, .bool h.x2, .int .i64 h.n2, u])) w) : wpList Try.prog ops Q (o :: rest) a w :=
  BigFrame.wpList_want hw fun _ hK => wp_load_mid _ x ho b p hx (cA h u) _ hr Try.underlying38 rfl infoA8 (hK _ _ hn)
/-- A condition as a value. -/
abbrev vA (h : Hd) (v : Value) : Value := .agg #[.int .i64 h.k, .bool h.x0, .int .i64 h.n0, .bool h.x1, .int .i64 h.n1, .bool h.x2, .int .i64 h.n2, v]
abbrev vR (h : Hd) (v : Value) : Value := .agg #[.int .i64 h.k, .int .i64 (isV h.x0), .int .i64 h.n0, .int .i64 (isV h.x1), .int .i64 h.n1, .int .i64 (isV h.x2), .int .i64 h.n2, v]
end Go.Proofs.Ytefojaeinhgeiaa
