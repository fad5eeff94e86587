/- The document's own tree in memory: New, There, Add, Delete. -/
import Derived.Test.YtbaplplaokbnnaaMStep
namespace Go.Proofs.Ytbaplplaokbnnaa
open Go.RowKit Go.Maps Go.WideMaps
set_option maxRecDepth 100000

def outI (b : Bool) : Int := if b = true then 1 else 0
/-- A token's cells in the document's own tree. -/
def cR (x : TokS) : List Value := [.int .i64 x.par, .string x.loc, .int .i64 x.fact, .int .i64 (outI x.out)]
theorem cR_len (x : TokS) : (cR x).length = 4 := rfl
theorem cR_one (x : TokS) : ∀ u ∈ cR x, u.oneCell' = true := by
  intro u hu
  simp only [cR, List.mem_cons, List.not_mem_nil, or_false] at hu
  rcases hu with rfl | rfl | rfl | rfl <;> rfl
theorem infoR : (Try.prog.info? 43).map (fun i => (i.zero, i.size, i.bytes)) = some (some (.agg #[.int .i64 0, .string (⟨#[]⟩ : ByteArray), .int .i64 0, .int .i64 0]), 4, 40) := by kernel_rfl
theorem elsR : Els Try.prog 44 43 4 := Els.of Try.underlying44 infoR rfl (by decide) (by decide)
/-- Block q is the document's own tree, of these tokens. -/
structure RTx (w : World) (B q : Nat) (a : Option Addr) (cap : Nat) (L : List TokS) : Prop where
  here : Blk w q 46 #[.slice a L.length cap]
  low : B ≤ q
  row : Row cR 43 4 w B (.slice a L.length cap) L
/-- Its blocks. -/
def RF (q : Nat) (a : Option Addr) (n cap : Nat) (b : Nat) : Prop := b = q ∨ (Value.slice a n cap).ownBlock = some b
section
variable {w w' : World} {B q : Nat} {a : Option Addr} {cap : Nat} {L : List TokS}
theorem RTx.kept (h : RTx w B q a cap L) {F : Nat → Prop} (k : Kept F w w') (hF : ∀ b, RF q a L.length cap b → ¬ F b) : RTx w' B q a cap L :=
  ⟨h.here.kept k (hF q (.inl rfl)), h.low, h.row.keptF k (fun b e => hF b (.inr e))⟩
theorem RTx.keptN (h : RTx w B q a cap L) (k : Kept Nil w w') : RTx w' B q a cap L := h.kept k (fun _ _ e => e)
theorem RTx.cell (h : RTx w B q a cap L) : w.cell? ⟨q, 0, none⟩ = some (.slice a L.length cap) := by have := h.here.cell 0; simpa using this
theorem RTx.foot (h : RTx w B q a cap L) {b : Nat} (hb : RF q a L.length cap b) : B ≤ b ∧ b < w.heap.size := by
  rcases hb with rfl | e
  · exact ⟨h.low, h.here.lt⟩
  · exact h.row.lt b e
theorem RTx.ne (h : RTx w B q a cap L) {b : Nat} (hb : (Value.slice a L.length cap).ownBlock = some b) : b ≠ q := by
  rintro rfl
  rcases h.row.2 with ⟨e, _⟩ | ⟨g, c, cur, e, _, hg, _⟩
  · rw [e] at hb; cases hb
  · rw [e] at hb; cases hb
    have := h.here
    unfold Blk at this
    rw [hg] at this
    injection this with this
    injection this with _ this _
    exact absurd this (by decide)
theorem RTx.at_ (h : RTx w B q a cap L) {j : Nat} {x : TokS} (hx : L[j]? = some x) : ∃ b o, a = some ⟨b, o, none⟩ ∧ w.cell? ⟨b, o + j * 4, none⟩ = some (.int .i64 x.par) ∧ w.cell? ⟨b, o + j * 4 + 1, none⟩ = some (.string x.loc) ∧ w.cell? ⟨b, o + j * 4 + 2, none⟩ = some (.int .i64 x.fact) ∧ w.cell? ⟨b, o + j * 4 + 3, none⟩ = some (.int .i64 (outI x.out)) := by
  obtain ⟨b, o, e, _, hc⟩ := (h.row.toIn cR_len (by decide)).at_ hx
  exact ⟨b, o, e, hc 0 _ rfl, hc 1 _ rfl, hc 2 _ rfl, hc 3 _ rfl⟩
theorem idsG_snoc (f : TokS → Bool) (x : TokS) : ∀ (l : List TokS) (n : Int), idsG f n (l ++ [x]) = idsG f n l ++ (if (!x.out && f x) = true then [n + l.length] else [])
  | [], n => by
    rw [List.nil_append, idsG, idsG]
    split <;> simp [idsG]
  | y :: r, n => by
    rw [List.cons_append, idsG, idsG, idsG_snoc f x r (n + 1), List.length_cons]
    have e : n + 1 + (r.length : Int) = n + ((r.length + 1 : Nat) : Int) := by push_cast; omega
    split
    · rw [List.cons_append, e]
    · rw [e]
theorem ids_take (L : List TokS) (f : TokS → Bool) {j : Nat} {x : TokS} (hx : L[j]? = some x) : ids (L.take (j + 1)) f = ids (L.take j) f ++ (if (!x.out && f x) = true then [(j : Int) + 1] else []) := by
  have hj := (List.getElem?_eq_some_iff.1 hx).1
  rw [List.take_add_one, hx]
  show ids (L.take j ++ [x]) f = _
  unfold ids
  rw [idsG_snoc, List.length_take, Nat.min_eq_left (by omega)]
  congr 1
  split
  · congr 1; omega
  · rfl
set_option maxHeartbeats 2000000 in
theorem refNew_any (w : World) (k : ByteArray) :
    Calls Try.prog 9 #[.string k] w fun e w' => ∃ q a cap, e = .returned (.pointer (some ⟨q, 0, none⟩)) ∧ RTx w' w.heap.size q a cap [⟨0, k, 0, false⟩] ∧ Kept Nil w w' := by
  have r0 := Row.lit1 (cells := cR) (e := 43) (size := 4) w (⟨0, k, 0, false⟩ : TokS) #[.int .i64 0, .string k, .int .i64 0, .int .i64 0] rfl rfl
  have k1 := (Kept.refl Nil (w.alloc (.cells #[.int .i64 0, .string k, .int .i64 0, .int .i64 0] 43))).alloc (.cells #[.slice (some ⟨w.heap.size, 0, none⟩) 1 1] 46)
  have b0 := Blk.new (w.alloc (.cells #[.int .i64 0, .string k, .int .i64 0, .int .i64 0] 43)) 46 #[.slice (some ⟨w.heap.size, 0, none⟩) 1 1]
  have hR : Hid (RTx ((w.alloc (.cells #[.int .i64 0, .string k, .int .i64 0, .int .i64 0] 43)).alloc (.cells #[.slice (some ⟨w.heap.size, 0, none⟩) 1 1] 46)) w.heap.size (w.heap.size + 1) (some ⟨w.heap.size, 0, none⟩) 1 [⟨0, k, 0, false⟩]) := Lib.hid ⟨by
    rwa [show (w.alloc (.cells #[.int .i64 0, .string k, .int .i64 0, .int .i64 0] 43)).heap.size = w.heap.size + 1 from Array.size_push _] at b0, by omega, r0.keptN k1⟩
  have K := Lib.hid (((Kept.refl Nil w).alloc (.cells #[.int .i64 0, .string k, .int .i64 0, .int .i64 0] 43)).trans k1 (fun _ _ e => e))
  clear r0 k1 b0
  go_enter Try.func9, Try.ntmps9
  go_wp2
  go_ret
  exact ⟨_, _, _, rfl, hR.out, K.out⟩
set_option maxHeartbeats 2000000 in
theorem refThere_any (h : RTx w B q a cap L) (hl : L.length ≤ 1000) (id : Int) :
    Calls Try.prog 13 #[.pointer (some ⟨q, 0, none⟩), .int .i64 id] w fun e w' => e = .returned (.bool (tok L id).isSome) ∧ w' = w := by
  have HR := Lib.hid h
  have c0 := h.cell
  obtain ⟨n, hn⟩ : ∃ n, L.length = n := ⟨_, rfl⟩
  rw [hn] at c0 hl
  have HL := Lib.hid hn
  clear h hn
  by_cases h1 : 1 ≤ id
  rotate_left
  · have hb : decide ((1 : Int) ≤ id) = false := decide_eq_false h1
    rw [tok_low (by omega)]
    go_enter Try.func13, Try.ntmps13
    go_wp2
    go_ret
    exact ⟨rfl, rfl⟩
  have hb : decide ((1 : Int) ≤ id) = true := decide_eq_true h1
  by_cases h2 : id ≤ n
  rotate_left
  · have hb2 : decide (id ≤ (n : Int)) = false := decide_eq_false h2
    rw [tok_high (by rw [HL.out]; omega)]
    go_enter Try.func13, Try.ntmps13
    go_wp2
    go_ret
    exact ⟨rfl, rfl⟩
  have hb2 : decide (id ≤ (n : Int)) = true := decide_eq_true h2
  obtain ⟨j, hj⟩ : ∃ j : Nat, id - 1 = (j : Int) := ⟨(id - 1).toNat, by omega⟩
  obtain ⟨⟨xp, xl, xf, xo⟩, hx⟩ : ∃ x, L[j]? = some x := ⟨_, List.getElem?_eq_getElem (by rw [HL.out]; omega)⟩
  obtain ⟨b, o, rfl, z0, z1, z2, z3⟩ := HR.out.at_ hx
  have s1 : IntKind.i64.wrap (id - 1) = (j : Int) := by rw [IntKind.wrap_i64]; omega
  have g0 : (0 : Int) ≤ (j : Int) := by omega
  have g1 : (j : Int) < (n : Int) := by omega
  have ht : (tok L id).isSome = !xo := by
    unfold tok
    rw [if_pos h1, show (id - 1).toNat = j by omega, hx]
    cases xo <;> rfl
  rw [ht]
  clear hx ht hj h1 h2 hl
  cases xo
  · have ho : (outI false == 0) = true := by rfl
    go_enter Try.func13, Try.ntmps13
    go_wp2
    go_ret
    exact ⟨rfl, rfl⟩
  · have ho : (outI true == 0) = false := by rfl
    go_enter Try.func13, Try.ntmps13
    go_wp2
    go_ret
    exact ⟨rfl, rfl⟩
end
end Go.Proofs.Ytbaplplaokbnnaa
