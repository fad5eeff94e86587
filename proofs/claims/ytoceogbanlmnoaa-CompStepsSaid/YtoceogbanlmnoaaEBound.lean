/- Layer scope: the program's Bound: where each variable is bound, rising. -/
import Derived.Test.YtoceogbanlmnoaaEPlace
namespace Go.Proofs.Ytoceogbanlmnoaa
open Go.RowKit
set_option maxRecDepth 100000

abbrev Pl := Int × Nat × Int
/-- Where the first variables are bound. -/
def bdL (l : List Sh) : Nat → List Pl
  | 0 => []
  | m + 1 => bdL l m ++ (match fpL l ((m : Int) + 1) 0 with | some (b, f) => [((m : Int) + 1, b, f)] | none => [])
theorem bdL_len (l : List Sh) (m : Nat) : (bdL l m).length ≤ m := by
  induction m with
  | zero => simp [bdL]
  | succ m ih =>
    rw [bdL, List.length_append]
    split <;> simp <;> omega
theorem infoPl : (Try.prog.info? 102).map (fun i => (i.zero, i.size, i.bytes)) = some (some (.agg #[.int .i64 0, .int .i64 0, .int .i64 0]), 3, 24) := by kernel_rfl
theorem elsPl : Els Try.prog 100 102 3 := Els.of Try.underlying100 infoPl rfl (by decide) (by decide)
abbrev cP (p : Pl) : List Value := [.int .i64 p.1, .int .i64 (p.2.1 : Int), .int .i64 p.2.2]
def flatP (ps : List Pl) : List Value := ps.flatMap cP
theorem flatP_len : ∀ ps : List Pl, (flatP ps).length = ps.length * 3
  | [] => rfl
  | p :: r => by
    show (cP p ++ flatP r).length = _
    rw [List.length_append, flatP_len r, List.length_cons]
    simp; omega
theorem flatP_get : ∀ (ps : List Pl) (i j : Nat) (p : Pl), ps[i]? = some p → j < 3 → (flatP ps)[i * 3 + j]? = (cP p)[j]?
  | [], i, j, p, h, _ => by simp at h
  | x :: r, 0, j, p, h, hj => by
    simp only [List.getElem?_cons_zero, Option.some.injEq] at h
    subst h
    show (cP x ++ flatP r)[0 * 3 + j]? = _
    rw [Nat.zero_mul, Nat.zero_add, List.getElem?_append_left (by simp; omega)]
  | x :: r, i + 1, j, p, h, hj => by
    show (cP x ++ flatP r)[(i + 1) * 3 + j]? = _
    rw [List.getElem?_append_right (by simp; omega), show (i + 1) * 3 + j - (cP x).length = i * 3 + j by simp; omega]
    exact flatP_get r i j p (by simpa using h) hj
abbrev PRow (w : World) (B : Nat) (v : Value) (ps : List Pl) : Prop := w.ownsRow B 102 3 v ps.length (flatP ps)
/-- What a law sees of places. -/
def Places (w : World) (v : Value) (ps : List Pl) : Prop := ∃ a c, v = .slice a ps.length c ∧ ∀ (i : Nat) p, ps[i]? = some p → ∃ g, a = some ⟨g, 0, none⟩ ∧ w.rangeAt g (i * 3) (cP p)
theorem PRow.places {w : World} {B : Nat} {v : Value} {ps : List Pl} (h : PRow w B v ps) : Places w v ps := by
  rcases h.2 with ⟨e1, e0⟩ | ⟨g, cap, cur, e1, _⟩
  · obtain rfl := List.length_eq_zero_iff.1 e0
    exact ⟨none, 0, e1, fun i x hi => by simp at hi⟩
  · refine ⟨_, cap, e1, fun i p hi => ⟨g, rfl, fun j u hj => ?_⟩⟩
    have hj3 : j < 3 := by have := (List.getElem?_eq_some_iff.1 hj).1; simpa using this
    have := h.cells (g := g) (by rw [e1]; rfl) (i * 3 + j) u (by rw [flatP_get ps i j p hi hj3]; exact hj)
    rwa [Addr.add_mid, Nat.zero_add] at this
theorem PRow.append_one {w : World} {B : Nat} {v : Value} {ps : List Pl} (h : PRow w B v ps) (hB : B ≤ w.heap.size) (hl : ps.length ≤ 10000) (x : Pl) :
    ∃ a n c w', (Builtin.append_ #[100, 100] 100 #[v, .slice (some ⟨w.heap.size, 0, none⟩) 1 1]).run Try.prog (w.alloc (.cells (cP x).toArray 102)) = .ok (.slice a n c) w' ∧ PRow w' B (.slice a n c) (ps ++ [x]) ∧ Kept (fun k => v.ownBlock = some k) w w' := by
  have ka := (Kept.refl Nil w).alloc (.cells (cP x).toArray 102)
  obtain ⟨v', w', r, o, k, _⟩ := append_any (P := Try.prog) elsPl 100 (Kept.row ka h (fun _ _ g => g)) (At.lit w 102 (cP x).toArray (cP x) rfl) rfl (fun y hy => by simp at hy; rcases hy with rfl | rfl | rfl <;> rfl) (by omega) (by simp; omega)
  obtain ⟨a, n, c, rfl⟩ : ∃ a n c, v' = .slice a n c := by obtain ⟨y, z, e⟩ := (At.own o).shape; exact ⟨y, _, z, e⟩
  refine ⟨a, n, c, w', r, ?_, (ka.mono (fun _ _ g => g.elim)).trans k (fun _ _ g => g)⟩
  show World.ownsRow _ _ _ _ _ _ _
  rw [List.length_append, show flatP (ps ++ [x]) = flatP ps ++ cP x by unfold flatP; simp]
  exact o
set_option maxHeartbeats 2000000 in
theorem bound_any (l : List Sh) (hc : l.length ≤ 100) (ok : Nat → Nat → Prop) (a : Option Addr) (cap : Nat) (w : World) (h : Holds cA w ok (.slice a l.length cap) l) :
    Calls Try.prog 54 #[.slice a l.length cap] w fun e w' => ∃ a' n' c', e = .returned (.slice a' n' c') ∧ Places w' (.slice a' n' c') (bdL l 32) ∧ Kept Nil w w' := by
  have CF := Lib.hid (fun v w' (k : Kept Nil w w') => firstPlace_any l hc v ok a cap w' (h.keptN k))
  generalize l.length = len at CF ⊢
  clear h hc
  go_enter Try.func54, Try.ntmps54
  go_wp2_with fail
  go_loopw [3, 4] (fun u v wr => ∃ m : Nat, m ≤ 32 ∧ v = .int .i64 ((m : Int) + 1) ∧ PRow wr w.heap.size u (bdL l m) ∧ Kept Nil w wr) (fun _ v _ => 34 - (intOf v).toNat)
  case atStart => exact ⟨0, by omega, rfl, World.ownsRow_nil _ _ _ _, Kept.refl _ _⟩
  case round =>
    obtain ⟨m, hm, rfl, hR, hK⟩ := hrel
    have HK := Lib.hid hK
    have HR := Lib.hid hR
    clear hK hR
    obtain ⟨ar, nr, cr, rfl⟩ : ∃ ar nr cr, u3 = .slice ar nr cr := by obtain ⟨x, y, e⟩ := (At.own HR.out).shape; exact ⟨x, _, y, e⟩
    have hw : IntKind.i64.wrap ((m : Int) + 1 + 1) = ((m + 1 : Nat) : Int) + 1 := by rw [IntKind.wrap_i64]; omega
    by_cases hlt : m < 32
    · have CX := Lib.hid (CF.out ((m : Int) + 1) wr HK.out)
      unfold FpEnd at CX
      have HE : Hid (bdL l (m + 1) = bdL l m ++ (match fpL l ((m : Int) + 1) 0 with | some (b, f) => [((m : Int) + 1, b, f)] | none => [])) := Lib.hid (by rw [bdL])
      cases ho : fpL l ((m : Int) + 1) 0 with
      | none =>
        rw [ho] at CX HE
        have HE2 : Hid (bdL l (m + 1) = bdL l m) := Lib.hid (by rw [HE.out]; simp)
        have CX2 : Hid (Calls Try.prog 69 #[.slice a len cap, .int .i64 ((m : Int) + 1)] wr fun e w' => e = .returned (.tuple #[.agg #[.int .i64 0, .int .i64 0, .int .i64 0], .bool false]) ∧ Kept Nil wr w') := CX
        clear HE ho CX
        go_wp2_with fail
        refine CX2.out.mono ?_
        rintro e w3 ⟨rfl, k3⟩
        have K3 := Lib.hid (HK.out.trans (k3.alloc (.cells #[.int .i64 0, .int .i64 0, .int .i64 0] 102)) (fun _ _ g => g))
        have R3 := Lib.hid (Kept.row (k3.alloc (.cells #[.int .i64 0, .int .i64 0, .int .i64 0] 102)) HR.out (fun _ _ g => g))
        clear k3
        go_wp2_with fail
        go_roundw
        case rel => exact ⟨m + 1, by omega, by go_num, by rw [HE2.out]; exact R3.out, K3.out⟩
        case measure => simp [intOf]; omega
      | some q =>
        obtain ⟨b, f⟩ := q
        rw [ho] at CX HE
        have HE2 : Hid (bdL l (m + 1) = bdL l m ++ [((m : Int) + 1, b, f)]) := HE
        have CX2 : Hid (Calls Try.prog 69 #[.slice a len cap, .int .i64 ((m : Int) + 1)] wr fun e w' => e = .returned (.tuple #[.agg #[.int .i64 ((m : Int) + 1), .int .i64 (b : Int), .int .i64 f], .bool true]) ∧ Kept Nil wr w') := CX
        clear HE ho CX
        go_wp2_with fail
        refine CX2.out.mono ?_
        rintro e w3 ⟨rfl, k3⟩
        obtain ⟨W4, hW4⟩ : ∃ W4, w3.alloc (.cells #[.int .i64 ((m : Int) + 1), .int .i64 (b : Int), .int .i64 f] 102) = W4 := ⟨_, rfl⟩
        have k4 : Kept Nil wr W4 := by rw [← hW4]; exact k3.alloc _
        have B4 : Blk W4 w3.heap.size 102 #[.int .i64 ((m : Int) + 1), .int .i64 (b : Int), .int .i64 f] := by rw [← hW4]; exact Blk.new _ _ _
        obtain ⟨a5, n5, c5, w5, r5, o5, k5⟩ := PRow.append_one (Kept.row k4 HR.out (fun _ _ g => g)) (by have := HK.out.size; have := k4.size; omega) (by have := bdL_len l m; omega) ((m : Int) + 1, b, f)
        have RR5 := Lib.hid r5
        have O5 := Lib.hid o5
        have K5 := Lib.hid ((HK.out.trans k4 (fun _ _ g => g)).trans k5 (fun i hi e => by have := (ownsBlk HR.out i e).1; omega))
        have z0 := B4.cell 0
        have z1 := B4.cell 1
        have z2 := B4.cell 2
        simp at z0 z1 z2
        clear k3 k4 B4 r5 o5 k5
        go_wp2_with (at_builtin; refine wpList_append_run rfl (.tmp 18) (.tmp 20) 100 rfl _ _ rfl rfl RR5.out ?_)
        go_roundw
        case rel => exact ⟨m + 1, by omega, by go_num, by rw [HE2.out]; exact O5.out, K5.out⟩
        case measure => simp [intOf]; omega
    · obtain rfl : m = 32 := by omega
      go_wp2_with fail
      go_ret
      exact ⟨ar, nr, cr, rfl, HR.out.places, HK.out⟩
end Go.Proofs.Ytoceogbanlmnoaa
