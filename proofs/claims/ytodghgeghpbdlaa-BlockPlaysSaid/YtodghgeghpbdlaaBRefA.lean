/- Layer block: the document's own answer in memory; what it tells; two texts compared. -/
import Derived.Test.YtodghgeghpbdlaaBpR
import Derived.Test.YtodghgeghpbdlaaBDis
import Derived.Deep.DeepCutAuto
import Derived.Laws.StructEq
namespace Go.Proofs.Ytodghgeghpbdlaa
open Go.RowKit Go.Maps Go.WideMaps
set_option maxRecDepth 100000

/-- A pair's cells. -/
def cPr (x : ByteArray × Int) : List Value := [.string x.1, .int .i64 x.2]
theorem cPr_len (x : ByteArray × Int) : (cPr x).length = 2 := rfl
theorem cPr_one (x : ByteArray × Int) : ∀ u ∈ cPr x, u.oneCell' = true := fun u hu => by
  simp only [cPr, List.mem_cons, List.not_mem_nil, or_false] at hu
  rcases hu with rfl | rfl <;> rfl
theorem elsPr : Els Try.prog 63 75 2 := ⟨Try.underlying63, ⟨_, _, _, rfl, rfl, rfl, rfl, by kernel_rfl, by decide +kernel⟩, by decide⟩
/-- The blocks that the document's answer lies in. -/
def FR (w : World) (B k : Nat) : Prop := B ≤ k ∧ ∃ cs t f, w.heap[k]? = some (.cells cs t f) ∧ (t = 65 ∨ t = 9 ∨ t = 75)
structure RBs (w : World) (B q : Nat) (R : List ByteArray) (Ps : List (ByteArray × Int)) (a1 : Option Addr) (c1 : Nat) (a2 : Option Addr) (c2 : Nat) : Prop where
  base : B ≤ q
  here : Blk w q 65 #[.slice a1 R.length c1, .slice a2 Ps.length c2]
  row : Row cKP 9 1 w B (.slice a1 R.length c1) R
  prs : Row cPr 75 2 w B (.slice a2 Ps.length c2) Ps
def RB (w : World) (B q : Nat) (R : List ByteArray) (Ps : List (ByteArray × Int)) : Prop := ∃ a1 c1 a2 c2, RBs w B q R Ps a1 c1 a2 c2
section
variable {w w' : World} {B q : Nat} {R : List ByteArray} {Ps : List (ByteArray × Int)} {a1 a2 : Option Addr} {c1 c2 : Nat}
theorem RBs.kept {F : Nat → Prop} (h : RBs w B q R Ps a1 c1 a2 c2) (k : Kept F w w') (hF : ∀ b cs t, w.heap[b]? = some (.cells cs t (0, 0)) → (t = 65 ∨ t = 9 ∨ t = 75) → ¬ F b) : RBs w' B q R Ps a1 c1 a2 c2 :=
  ⟨h.base, h.here.kept k (hF _ _ _ h.here (.inl rfl)), h.row.keptF k (fun b e => by obtain ⟨cur, hc⟩ := h.row.block e; exact hF _ _ _ hc (.inr (.inl rfl))), h.prs.keptF k (fun b e => by obtain ⟨cur, hc⟩ := h.prs.block e; exact hF _ _ _ hc (.inr (.inr rfl)))⟩
theorem RBs.keptN (h : RBs w B q R Ps a1 c1 a2 c2) (k : Kept Nil w w') : RBs w' B q R Ps a1 c1 a2 c2 := h.kept k (fun _ _ _ _ _ e => e)
theorem RB.keptN (h : RB w B q R Ps) (k : Kept Nil w w') : RB w' B q R Ps := by obtain ⟨a1, c1, a2, c2, h⟩ := h; exact ⟨a1, c1, a2, c2, h.keptN k⟩
theorem RB.keptP (h : RB w B q R Ps) {B' : Nat} (k : Kept (FBP w B') w w') : RB w' B q R Ps := by
  obtain ⟨a1, c1, a2, c2, h⟩ := h
  exact ⟨a1, c1, a2, c2, h.kept k (fun b cs t hb ht => by
    rcases ht with rfl | rfl | rfl <;> exact FBP.other hb (by decide) (by decide) (by decide))⟩
/-- Is. -/
theorem is_r (h : RB w B q R Ps) (hl : R.length ≤ 5000) (k : ByteArray) :
    Calls Try.prog 28 #[.pointer (some ⟨q, 0, none⟩), .string k] w fun e w' => e = .returned (.bool (isIn k R)) ∧ Kept Nil w w' := by
  obtain ⟨a1, c1, a2, c2, h⟩ := h
  have HIn := Lib.hid (h.row.toIn cKP_len (by decide))
  have p0 := h.here.cell 0
  simp only [List.getElem?_toArray, List.getElem?_cons_zero] at p0
  obtain ⟨n, hn⟩ : ∃ n, R.length = n := ⟨_, rfl⟩
  have HN := Lib.hid hn
  simp only [hn] at HIn p0 hl
  clear h hn
  go_enter Try.func28, Try.ntmps28
  go_wp2_with fail
  go_loopw [12] (fun i wr => ∃ j : Nat, j ≤ n ∧ i = .int .i64 j ∧ k ∉ R.take j ∧ Kept Nil w wr) (fun i _ => n - (intOf i).toNat)
  case atStart => exact ⟨0, Nat.zero_le _, rfl, by simp, Kept.refl _ _⟩
  case round =>
    obtain ⟨j, hj, rfl, hno, hk⟩ := hrel
    have HK := Lib.hid hk
    have HNo := Lib.hid hno
    clear hk hno
    by_cases hlt : j < n
    · obtain ⟨x, hx⟩ : ∃ x, R[j]? = some x := ⟨_, List.getElem?_eq_getElem (by have := HN.out; omega)⟩
      obtain ⟨b, off, rfl, hb, hc⟩ := (HIn.out.kept HK.out).at_ hx
      have q0 := hc 0 _ rfl
      rw [Nat.add_zero, Nat.mul_one] at q0
      have HT := Lib.hid (take_snoc hx)
      have HX := Lib.hid (List.mem_of_getElem? hx)
      clear hx hc
      by_cases e : x = k
      · have hs := str_eq e
        have hi : isIn k R = true := isIn_t (e ▸ HX.out)
        have HI := Lib.hid hi
        clear e hi
        go_wp2_with fail
        go_ret
        exact ⟨by rw [HI.out]; rfl, HK.out⟩
      · have hs := str_ne e
        have HE := Lib.hid e
        clear e
        go_wp2_with fail
        go_roundw
        case rel => exact ⟨j + 1, hlt, by go_num, by rw [HT.out, List.mem_append, List.mem_singleton]; exact fun f => f.elim HNo.out (fun e => HE.out e.symm), HK.out⟩
        case measure => simp [intOf]; omega
    · obtain rfl : j = n := by omega
      have hno := HNo.out
      rw [List.take_of_length_le (by rw [HN.out]; exact Nat.le_refl _)] at hno
      have HI := Lib.hid (isIn_f hno)
      clear hno
      go_wp2_with fail
      go_ret
      exact ⟨by rw [HI.out]; rfl, HK.out⟩
/-- Has. -/
theorem has_r (h : RB w B q R Ps) (hl : Ps.length ≤ 5000) (k : ByteArray) (v : Int) :
    Calls Try.prog 29 #[.pointer (some ⟨q, 0, none⟩), .string k, .int .i64 v] w fun e w' => e = .returned (.bool (isIn (k, v) Ps)) ∧ Kept Nil w w' := by
  obtain ⟨a1, c1, a2, c2, h⟩ := h
  have HIn := Lib.hid (h.prs.toIn cPr_len (by decide))
  have p0 := h.here.cell 1
  simp only [List.getElem?_toArray, List.getElem?_cons_zero, List.getElem?_cons_succ] at p0
  obtain ⟨n, hn⟩ : ∃ n, Ps.length = n := ⟨_, rfl⟩
  have HN := Lib.hid hn
  simp only [hn] at HIn p0 hl
  clear h hn
  go_enter Try.func29, Try.ntmps29
  go_wp2_with fail
  go_loopw [14] (fun i wr => ∃ j : Nat, j ≤ n ∧ i = .int .i64 j ∧ (k, v) ∉ Ps.take j ∧ Kept Nil w wr) (fun i _ => n - (intOf i).toNat)
  case atStart => exact ⟨0, Nat.zero_le _, rfl, by simp, Kept.refl _ _⟩
  case round =>
    obtain ⟨j, hj, rfl, hno, hk⟩ := hrel
    have HK := Lib.hid hk
    have HNo := Lib.hid hno
    clear hk hno
    by_cases hlt : j < n
    · obtain ⟨⟨x, y⟩, hx⟩ : ∃ x, Ps[j]? = some x := ⟨_, List.getElem?_eq_getElem (by have := HN.out; omega)⟩
      obtain ⟨b, off, rfl, hb, hc⟩ := (HIn.out.kept HK.out).at_ hx
      have q0 := hc 0 _ rfl
      have q1 := hc 1 _ rfl
      rw [Nat.add_zero] at q0
      simp only at q0 q1
      have HT := Lib.hid (take_snoc hx)
      have HX := Lib.hid (List.mem_of_getElem? hx)
      have KA := Lib.hid ((Kept.refl Nil wr).alloc (.cells #[.string x, .int .i64 y] 75))
      clear hx hc
      by_cases e : x = k
      · have hs := str_eq e
        by_cases ey : y = v
        · have hv : (y == v) = true := by simp [ey]
          have HI := Lib.hid (isIn_t (R := Ps) (k := (k, v)) (by rw [← e, ← ey]; exact HX.out))
          clear e ey
          go_wp2_with fail
          go_ret
          exact ⟨by rw [HI.out]; rfl, HK.out.trans KA.out (fun _ _ e => e)⟩
        · have hv : (y == v) = false := by simpa using ey
          have HE := Lib.hid (show (x, y) ≠ (k, v) from fun f => ey (Prod.mk.inj f).2)
          clear e ey
          go_wp2_with fail
          go_roundw
          case rel => exact ⟨j + 1, hlt, by go_num, by rw [HT.out, List.mem_append, List.mem_singleton]; exact fun f => f.elim HNo.out (fun e => HE.out e.symm), HK.out.trans KA.out (fun _ _ e => e)⟩
          case measure => simp [intOf]; omega
      · have hs := str_ne e
        have HE := Lib.hid (show (x, y) ≠ (k, v) from fun f => e (Prod.mk.inj f).1)
        clear e
        go_wp2_with fail
        go_roundw
        case rel => exact ⟨j + 1, hlt, by go_num, by rw [HT.out, List.mem_append, List.mem_singleton]; exact fun f => f.elim HNo.out (fun e => HE.out e.symm), HK.out.trans KA.out (fun _ _ e => e)⟩
        case measure => simp [intOf]; omega
    · obtain rfl : j = n := by omega
      have hno := HNo.out
      rw [List.take_of_length_le (by rw [HN.out]; exact Nat.le_refl _)] at hno
      have HI := Lib.hid (isIn_f hno)
      clear hno
      go_wp2_with fail
      go_ret
      exact ⟨by rw [HI.out]; rfl, HK.out⟩
theorem bls_take_snoc {j : Nat} {x : ByteArray} {y : Int} (hx : Ps[j]? = some (x, y)) (k : ByteArray) : (bls (Ps.take (j + 1)) k).length = (bls (Ps.take j) k).length + (if x = k then 1 else 0) := by
  rw [take_snoc hx, bls_snoc]
  split <;> simp
/-- Count. -/
theorem count_r (h : RB w B q R Ps) (hl : Ps.length ≤ 5000) (k : ByteArray) :
    Calls Try.prog 34 #[.pointer (some ⟨q, 0, none⟩), .string k] w fun e w' => e = .returned (.int .i64 (bls Ps k).length) ∧ Kept Nil w w' := by
  obtain ⟨a1, c1, a2, c2, h⟩ := h
  have HIn := Lib.hid (h.prs.toIn cPr_len (by decide))
  have p0 := h.here.cell 1
  simp only [List.getElem?_toArray, List.getElem?_cons_zero, List.getElem?_cons_succ] at p0
  obtain ⟨n, hn⟩ : ∃ n, Ps.length = n := ⟨_, rfl⟩
  have HN := Lib.hid hn
  simp only [hn] at HIn p0 hl
  clear h hn
  go_enter Try.func34, Try.ntmps34
  go_wp2_with fail
  go_loopw [5, 13] (fun c i wr => ∃ j : Nat, j ≤ n ∧ i = .int .i64 j ∧ c = .int .i64 ((bls (Ps.take j) k).length : Nat) ∧ Kept Nil w wr) (fun _ i _ => n - (intOf i).toNat)
  case atStart => exact ⟨0, Nat.zero_le _, rfl, rfl, Kept.refl _ _⟩
  case round =>
    obtain ⟨j, hj, rfl, rfl, hk⟩ := hrel
    have HK := Lib.hid hk
    have hble := bls_le (Ps.take j) k
    rw [List.length_take] at hble
    have hb5 : (bls (Ps.take j) k).length ≤ 5000 := by omega
    clear hk hble
    by_cases hlt : j < n
    · obtain ⟨⟨x, y⟩, hx⟩ : ∃ x, Ps[j]? = some x := ⟨_, List.getElem?_eq_getElem (by have := HN.out; omega)⟩
      obtain ⟨b, off, rfl, hb, hc⟩ := (HIn.out.kept HK.out).at_ hx
      have q0 := hc 0 _ rfl
      have q1 := hc 1 _ rfl
      rw [Nat.add_zero] at q0
      simp only at q0 q1
      have HS := Lib.hid (bls_take_snoc hx k)
      have KA := Lib.hid ((Kept.refl Nil wr).alloc (.cells #[.string x, .int .i64 y] 75))
      obtain ⟨L, hL⟩ : ∃ L, (bls (Ps.take j) k).length = L := ⟨_, rfl⟩
      simp only [hL] at HS hb5 ⊢
      clear hx hc hL
      by_cases e : x = k
      · have hs := str_eq e
        rw [if_pos e] at HS
        clear e
        go_wp2_with fail
        go_roundw
        case rel => exact ⟨j + 1, hlt, by go_num, by rw [HS.out]; go_num, HK.out.trans KA.out (fun _ _ e => e)⟩
        case measure => simp [intOf]; omega
      · have hs := str_ne e
        rw [if_neg e] at HS
        clear e
        go_wp2_with fail
        go_roundw
        case rel => exact ⟨j + 1, hlt, by go_num, by rw [HS.out]; rfl, HK.out.trans KA.out (fun _ _ e => e)⟩
        case measure => simp [intOf]; omega
    · obtain rfl : j = n := by omega
      rw [List.take_of_length_le (by rw [HN.out]; exact Nat.le_refl _)]
      obtain ⟨L, hL⟩ : ∃ L, (bls Ps k).length = L := ⟨_, rfl⟩
      have HL := Lib.hid hL
      simp only [hL]
      clear hL
      go_wp2_with fail
      go_ret
      exact ⟨by rw [HL.out]; rfl, HK.out⟩
/-- Two texts that are one. -/
theorem texts_any {a a' : Option Addr} {n c n' c' : Nat} {xs : List ByteArray} (hx : In cKP 1 w a n xs) (hy : In cKP 1 w a' n' xs) (hn : n ≤ 100000) :
    Calls Try.prog 41 #[.slice a n c, .slice a' n' c'] w fun e w' => e = .returned (.bool true) ∧ Kept Nil w w' := by
  obtain rfl : n = n' := by rw [← hx.1, hy.1]
  have HX := Lib.hid hx
  have HY := Lib.hid hy
  clear hx hy
  go_enter Try.func41, Try.ntmps41
  go_wp2_with fail
  go_loopw [13] (fun i wr => ∃ j : Nat, j ≤ n ∧ i = .int .i64 j ∧ Kept Nil w wr) (fun i _ => n - (intOf i).toNat)
  case atStart => exact ⟨0, Nat.zero_le _, rfl, Kept.refl _ _⟩
  case round =>
    obtain ⟨j, hj, rfl, hK⟩ := hrel
    have HK := Lib.hid hK
    clear hK
    by_cases hjn : j < n
    · obtain ⟨x, hxj⟩ : ∃ x, xs[j]? = some x := ⟨_, List.getElem?_eq_getElem (by have := HX.out.1; omega)⟩
      obtain ⟨b, o, rfl, hb, q⟩ := (HX.out.kept HK.out).at_ hxj
      obtain ⟨b', o', rfl, hb', q'⟩ := (HY.out.kept HK.out).at_ hxj
      have q0 := q 0 _ rfl
      have q1 := q' 0 _ rfl
      rw [Nat.add_zero, Nat.mul_one] at q0 q1
      have hself := str_eq (rfl : x = x)
      clear hxj q q'
      go_wp2_with fail
      go_quiet (fail)
      go_wp2_with fail
      go_roundw
      case rel => exact ⟨j + 1, hjn, by go_num, HK.out.drewN _⟩
      case measure => simp [intOf]; omega
    · obtain rfl : j = n := by omega
      go_wp2_with fail
      go_ret
      exact ⟨rfl, HK.out⟩
end
end Go.Proofs.Ytodghgeghpbdlaa
