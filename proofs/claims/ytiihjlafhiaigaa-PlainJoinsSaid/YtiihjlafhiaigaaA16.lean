/- Layer scope: the law's own Ref of conditions: the reference's conditions, in new memory. – Layer rule: plain mathematics: when a rule is wrong; fewer conditions; variables turned about. No program. – Layer rule: the reference's rest and Out. – Layer rule: the reference's Check of a rule. – Layer rule: the law's own Ref of a rule: the reference's rule, in new memory. – Layer cond: the law's own Small: what it lets through has at most so many conditions in it. – Layer rule: the law's own Small and Fine. -/
import Derived.Test.YtiihjlafhiaigaaA2
import Derived.Test.YtiihjlafhiaigaaA15
import Derived.Test.YtiihjlafhiaigaaA1
namespace Go.Proofs.Ytiihjlafhiaigaa
section
open Go.RowKit
set_option maxRecDepth 100000

theorem mem_count {l : List Sh} {x : Sh} {n : Nat} (hc : countL l ≤ n) (h : x ∈ l) : x.count ≤ n := Nat.le_trans (count_mem h) hc
/-- The reference's conditions, in memory behind the call's beginning. -/
def ListEnd (l : List Sh) (w : World) (e : Ending) (w' : World) : Prop :=
  ∃ a' cap', e = .returned (.slice a' l.length cap') ∧ Holds cR w' (okM w.heap.size w') (.slice a' l.length cap') l ∧ Kept Nil w w'
set_option maxHeartbeats 4000000 in
theorem refL_any (l : List Sh) (hc : countL l ≤ 5000) (ok : Nat → Nat → Prop) (a : Option Addr) (cap : Nat) (w : World) (h : Holds cA w ok (.slice a l.length cap) l) :
    Calls Try.prog 27 #[.slice a l.length cap] w (ListEnd l w) := by
  have HH := Lib.hid h
  have HC := Lib.hid hc
  obtain ⟨len, hlen⟩ : ∃ len, l.length = len := ⟨_, rfl⟩
  rw [hlen] at HH ⊢
  have HL := Lib.hid hlen
  have hLen : len ≤ 5000 := by have := length_countL l; omega
  clear h hc hlen
  go_enter Try.func27, Try.ntmps27
  go_wp2_with fail
  go_loopw [3, 8] (fun u i wr => ∃ (j : Nat) (ps : Prs), j ≤ len ∧ i = .int .i64 j ∧ ps.map (·.1) = l.take j ∧ CRow cR 77 wr w.heap.size u ps ∧ Kept Nil w wr) (fun _ i _ => len - (intOf i).toNat)
  case atStart => exact ⟨0, [], by omega, rfl, rfl, .nil _ _ _ _, Kept.refl _ _⟩
  case round =>
    obtain ⟨j, ps, hj, rfl, hps, hCr, hK⟩ := hrel
    have HCr := Lib.hid hCr
    have HK := Lib.hid hK
    have HP := Lib.hid hps
    clear hCr hps hK
    by_cases hlt : j < len
    · obtain ⟨⟨⟨k', x0', x1', x2', n0', n1', n2'⟩, sb⟩, hx⟩ : ∃ x, l[j]? = some x := ⟨_, List.getElem?_eq_getElem (by have := HL.out; omega)⟩
      obtain ⟨b, o, a', cap', rfl, hok, hr, hs⟩ := (HH.out.keptN HK.out).at_ hx
      have hcx : (Sh.mk ⟨k', x0', x1', x2', n0', n1', n2'⟩ sb).count ≤ 5000 := mem_count HC.out (List.mem_of_getElem? hx)
      have HX2 : Hid (∀ w, Holds cA w ok (.slice a' sb.length cap') sb → Calls Try.prog 28 #[vA ⟨k', x0', x1', x2', n0', n1', n2'⟩ (.slice a' sb.length cap')] w fun e w' => ∃ a2 c2, e = .returned (vR ⟨k', x0', x1', x2', n0', n1', n2'⟩ (.slice a2 sb.length c2)) ∧ Holds cR w' (okM w.heap.size w') (.slice a2 sb.length c2) sb ∧ Kept Nil w w') := Lib.hid fun w h => refT_any (.mk ⟨k', x0', x1', x2', n0', n1', n2'⟩ sb) hcx ok a' cap' w h
      have HRow := Lib.hid hr
      have HS := Lib.hid hs
      have HN : Hid (l.take (j + 1) = l.take j ++ [Sh.mk ⟨k', x0', x1', x2', n0', n1', n2'⟩ sb]) := Lib.hid (by rw [List.take_add_one, hx]; rfl)
      have HPL : Hid (ps.length ≤ 5000) := Lib.hid (by have := congrArg List.length HP.out; rw [List.length_map, List.length_take] at this; omega)
      clear hx hr hs hok hcx
      generalize hl' : sb.length = len' at HRow HS HX2
      clear hl'
      go_wp2_with ((with_reducible refine wpList_load_A rfl (.tmp 10) rfl _ _ rfl ⟨k', x0', x1', x2', n0', n1', n2'⟩ (.slice a' len' cap') ?_ ?_)
                   · exact HRow.out)
      have KA := Lib.hid ((Kept.refl Nil wr).alloc (.cells (arrA ⟨k', x0', x1', x2', n0', n1', n2'⟩ (.slice a' len' cap')) 72))
      refine (HX2.out _ (HS.out.keptN KA.out)).mono ?_
      rintro e w2 ⟨a2, c2, rfl, h2, k2⟩
      have K02 := Lib.hid (KA.out.trans k2 (fun _ _ g => g))
      obtain ⟨W3, hW3⟩ : ∃ W3, w2.alloc (.cells (arrR ⟨k', x0', x1', x2', n0', n1', n2'⟩ (.slice a2 len' c2)) 77) = W3 := ⟨_, rfl⟩
      have k3 : Kept Nil w2 W3 := by rw [← hW3]; exact (Kept.refl Nil w2).alloc _
      have b3 : Blk W3 w2.heap.size 77 (arrR ⟨k', x0', x1', x2', n0', n1', n2'⟩ (.slice a2 len' c2)) := by rw [← hW3]; exact Blk.new _ _ _
      have hsz := HK.out.size
      have hs0 := KA.out.size
      have hs2 := k2.size
      have hs3 := k3.size
      obtain ⟨g, cap3, w4, r4, c4, k4⟩ := appendR ((HCr.out.kept K02.out).kept k3) HPL.out (by omega) (.mk ⟨k', x0', x1', x2', n0', n1', n2'⟩ sb) (.slice a2 len' c2) w2.heap.size (fun i x hi => by rw [b3.cell i]; simpa [Sh.hd] using hi)
        ((h2.keptN k3).mono (fun b' o hb' => ⟨(hb'.kept k3 id).less (by omega), fun eo => by have := HCr.out.lt b' eo; have := hb'.1; omega⟩))
      have RR := Lib.hid r4
      have C4 := Lib.hid c4
      have K4 := Lib.hid ((HK.out.trans (K02.out.trans k3 (fun _ _ g => g)) (fun _ _ g => g)).trans k4 (fun i hi eo => by have := HCr.out.base i eo; omega))
      rw [← hW3] at RR
      clear r4 c4 k4 k3 b3 hW3 h2 k2 hs0 hs2 hs3 hsz
      go_wp2_with (at_builtin; refine wpList_append_run rfl (.tmp 12) (.tmp 15) 31 rfl _ _ rfl rfl RR.out ?_)
      go_roundw
      case rel =>
        refine ⟨j + 1, _, by omega, by go_num, ?_, C4.out, K4.out⟩
        rw [List.map_append, HP.out, HN.out]; rfl
      case measure => simp [intOf]; omega
    · obtain rfl : j = len := by omega
      have HE : Hid (ps.map (·.1) = l) := Lib.hid (by rw [HP.out, ← HL.out]; simp)
      obtain ⟨av, capv, rfl⟩ := HCr.out.shape
      have HPl : Hid (ps.length = j) := Lib.hid (by rw [← HL.out, ← HE.out]; simp)
      rw [HPl.out] at HCr ⊢
      go_wp2_with fail
      go_ret
      have hh := HCr.out.holds kindR
      rw [HE.out] at hh
      exact ⟨av, capv, by rw [HL.out]; rfl, by rw [HL.out]; exact hh, HK.out⟩
end
section
open Go.RowKit
set_option maxRecDepth 100000

mutual
/-- Of a variable that first stands in the condition's Subs: is it out of place there? -/
def Sh.outS : Sh → Int → Int
  | .mk _ l, v => outL l v
/-- Of a variable that first stands somewhere in these: 1: it stands behind its scope within them; 2: it is bound for all that is behind; 0: for nothing more. -/
def outL : List Sh → Int → Int
  | [], _ => 0
  | s :: r, v => if s.has v = false then outL r v else if s.hd.k = 1 then 2 else if hasL r v = true then 1 else if s.hd.k = 3 ∧ s.outS v = 1 then 1 else 0
end
theorem outS_eq (s : Sh) (v : Int) : s.outS v = outL s.subs v := by cases s; rw [Sh.outS]; rfl
theorem outL_nil (v : Int) : outL [] v = 0 := by rw [outL]
theorem outL_cons (s : Sh) (r : List Sh) (v : Int) : outL (s :: r) v = if s.has v = false then outL r v else if s.hd.k = 1 then 2 else if hasL r v = true then 1 else if s.hd.k = 3 ∧ outL s.subs v = 1 then 1 else 0 := by
  rw [outL, outS_eq]
theorem outL_drop {l : List Sh} {j : Nat} {x : Sh} (h : l[j]? = some x) (v : Int) : outL (l.drop j) v = if x.has v = false then outL (l.drop (j + 1)) v else if x.hd.k = 1 then 2 else if hasL (l.drop (j + 1)) v = true then 1 else if x.hd.k = 3 ∧ outL x.subs v = 1 then 1 else 0 := by
  obtain ⟨hl, e⟩ := List.getElem?_eq_some_iff.1 h
  rw [List.drop_eq_getElem_cons hl, e, outL_cons]
/-- Is some variable out of its place? -/
def outAny (l : List Sh) (n : Nat) : Bool := (List.range n).any fun i => decide (outL l ((i : Int) + 1) = 1)
theorem outAny_succ (l : List Sh) (n : Nat) : outAny l (n + 1) = (outAny l n || decide (outL l ((n : Int) + 1) = 1)) := by
  unfold outAny
  rw [List.range_succ, List.any_append]
  simp
theorem outAny_iff {l : List Sh} {n : Nat} : outAny l n = true ↔ ∃ v : Int, 1 ≤ v ∧ v ≤ n ∧ outL l v = 1 := by
  unfold outAny
  rw [List.any_eq_true]
  constructor
  · rintro ⟨i, hi, h⟩
    have := List.mem_range.1 hi
    exact ⟨(i : Int) + 1, by omega, by omega, by simpa using h⟩
  · rintro ⟨v, h1, h2, h⟩
    refine ⟨(v - 1).toNat, List.mem_range.2 (by omega), ?_⟩
    have : (((v - 1).toNat : Nat) : Int) + 1 = v := by omega
    rw [this]; simpa using h
/-- What is wrong with a rule, whose name is right or not. -/
def chkRule (nm : Bool) (l : List Sh) : Int := if nm = false then 1 else if l.length = 0 then 2 else if chkL l 1 ≠ 0 then chkL l 1 else if 16 < countL l then 7 else if outAny l 32 = true then 6 else 0
theorem chkRule_zero {nm : Bool} {l : List Sh} : chkRule nm l = 0 ↔ nm = true ∧ l.length ≠ 0 ∧ chkL l 1 = 0 ∧ countL l ≤ 16 ∧ outAny l 32 = false := by
  unfold chkRule
  cases nm
  · simp
  · by_cases h0 : l.length = 0
    · simp [h0]
    · by_cases h1 : chkL l 1 = 0
      · by_cases h2 : 16 < countL l
        · simp [h0, h1, h2, show ¬ countL l ≤ 16 by omega]
        · have h2' : countL l ≤ 16 := by omega
          cases h3 : outAny l 32 <;> simp [h0, h1, h2, h2']
      · simp [h0, h1]

/-! ### Fewer conditions -/
theorem hasL_take {l : List Sh} {k : Nat} {v : Int} (h : hasL (l.take k) v = true) : hasL l v = true := by
  induction l generalizing k with
  | nil => simpa using h
  | cons a r ih =>
    cases k with
    | zero => simp [hasL] at h
    | succ k =>
      rw [List.take_succ_cons] at h
      simp only [hasL, Bool.or_eq_true] at h ⊢
      exact h.imp id ih
theorem outL_take {l : List Sh} {k : Nat} {v : Int} (h : outL (l.take k) v = 1) : outL l v = 1 := by
  induction l generalizing k with
  | nil => simpa using h
  | cons a r ih =>
    cases k with
    | zero => rw [List.take_zero, outL_nil] at h; omega
    | succ k =>
      rw [List.take_succ_cons, outL_cons] at h
      rw [outL_cons]
      by_cases h1 : a.has v = false
      · rw [if_pos h1] at h ⊢; exact ih h
      · rw [if_neg h1] at h ⊢
        by_cases h2 : a.hd.k = 1
        · rw [if_pos h2] at h; omega
        · rw [if_neg h2] at h ⊢
          by_cases h3 : hasL r v = true
          · rw [if_pos h3]
          · have h3' : ¬ hasL (r.take k) v = true := fun e => h3 (hasL_take e)
            rw [if_neg h3'] at h
            rw [if_neg h3]
            exact h
theorem chkRule_take {nm : Bool} {l : List Sh} (h : chkRule nm l = 0) {k : Nat} (hk : 1 ≤ k) : chkRule nm (l.take k) = 0 := by
  obtain ⟨h0, h1, h2, h3, h4⟩ := chkRule_zero.1 h
  refine chkRule_zero.2 ⟨h0, by rw [List.length_take]; omega, chkL_take h2 k, Nat.le_trans (countL_take_le l k) h3, ?_⟩
  cases h5 : outAny (l.take k) 32
  · rfl
  · obtain ⟨v, g1, g2, g3⟩ := outAny_iff.1 h5
    have := outAny_iff.2 ⟨v, g1, g2, outL_take g3⟩
    rw [h4] at this
    cases this
/-- How many facts a match has. -/
def idsL (l : List Sh) : Nat := (l.filter fun s => decide (s.hd.k = 1)).length
theorem idsL_take (l : List Sh) (k : Nat) : idsL (l.take k) ≤ idsL l := (List.Sublist.filter _ (List.take_sublist k l)).length_le

/-! ### Variables turned about -/
def turnN (b n : Int) : Int := (n - 1 + b) % 32 + 1
def turnT (b : Int) (x : Bool) (n : Int) : Int := if x = true ∧ 1 ≤ n ∧ n ≤ 32 then turnN b n else n
def Hd.turn (b : Int) (h : Hd) : Hd := ⟨h.k, h.x0, h.x1, h.x2, turnT b h.x0 h.n0, turnT b h.x1 h.n1, turnT b h.x2 h.n2⟩
mutual
def Sh.turn (b : Int) : Sh → Sh
  | .mk h l => .mk (h.turn b) (turnL b l)
def turnL (b : Int) : List Sh → List Sh
  | [] => []
  | s :: r => s.turn b :: turnL b r
end
theorem turnL_eq (b : Int) : ∀ l : List Sh, turnL b l = l.map (Sh.turn b)
  | [] => rfl
  | s :: r => by rw [turnL, turnL_eq b r]; rfl
theorem turn_mk (b : Int) (h : Hd) (l : List Sh) : (Sh.mk h l).turn b = .mk (h.turn b) (turnL b l) := by rw [Sh.turn]
theorem turnL_length (b : Int) (l : List Sh) : (turnL b l).length = l.length := by rw [turnL_eq, List.length_map]
theorem turnN_range {b n : Int} : 1 ≤ turnN b n ∧ turnN b n ≤ 32 := by unfold turnN; omega
theorem turnN_inj {b n m : Int} (hn : 1 ≤ n ∧ n ≤ 32) (hm : 1 ≤ m ∧ m ≤ 32) : turnN b n = turnN b m ↔ n = m := by unfold turnN; omega
theorem turnT_same {b : Int} {x : Bool} {n v : Int} (hv : 1 ≤ v ∧ v ≤ 32) : (x && turnT b x n == turnN b v) = (x && n == v) := by
  cases x
  · rfl
  · rw [Bool.true_and, Bool.true_and]
    unfold turnT
    by_cases hn : 1 ≤ n ∧ n ≤ 32
    · rw [if_pos ⟨rfl, hn⟩, Bool.eq_iff_iff, beq_iff_eq, beq_iff_eq]
      exact turnN_inj hn hv
    · rw [if_neg (fun e => hn e.2), Bool.eq_iff_iff, beq_iff_eq, beq_iff_eq]
      have := @turnN_range b v
      omega
theorem ownN_turn {b v : Int} (hv : 1 ≤ v ∧ v ≤ 32) (h : Hd) : ownN (h.turn b).x0 (h.turn b).x1 (h.turn b).x2 (h.turn b).n0 (h.turn b).n1 (h.turn b).n2 (turnN b v) = ownN h.x0 h.x1 h.x2 h.n0 h.n1 h.n2 v := by
  show ((h.x0 && turnT b h.x0 h.n0 == turnN b v) || ((h.x1 && turnT b h.x1 h.n1 == turnN b v) || (h.x2 && turnT b h.x2 h.n2 == turnN b v))) = _
  rw [turnT_same hv, turnT_same hv, turnT_same hv]
  rfl
theorem has_turn {b v : Int} (hv : 1 ≤ v ∧ v ≤ 32) : (∀ s : Sh, (s.turn b).has (turnN b v) = s.has v) ∧ ∀ l : List Sh, hasL (turnL b l) (turnN b v) = hasL l v := by
  refine Sh.ind2 (fun hd subs ih => ?_) rfl (fun a l ha hl => ?_)
  · rw [turn_mk, has_mk, has_mk, ih, ownN_turn hv]
    rfl
  · rw [turnL, hasL, hasL, ha, hl]
theorem outL_turn {b v : Int} (hv : 1 ≤ v ∧ v ≤ 32) : (∀ s : Sh, outL (s.turn b).subs (turnN b v) = outL s.subs v) ∧ ∀ l : List Sh, outL (turnL b l) (turnN b v) = outL l v := by
  refine Sh.ind2 (fun hd subs ih => ?_) ?_ (fun a l ha hl => ?_)
  · rw [turn_mk]; exact ih
  · rw [turnL, outL_nil, outL_nil]
  · have hk : (a.turn b).hd.k = a.hd.k := by cases a; rw [turn_mk]; rfl
    rw [turnL, outL_cons, outL_cons, (has_turn hv).1, (has_turn hv).2, hl, ha, hk]
theorem okTm_turn (b : Int) (x : Bool) (n : Int) : okTm x (turnT b x n) = okTm x n := by
  cases x
  · unfold turnT; simp
  · unfold turnT
    by_cases hn : 1 ≤ n ∧ n ≤ 32
    · rw [if_pos ⟨rfl, hn⟩]
      have := @turnN_range b n
      rw [(okTm_var).2 hn, (okTm_var).2 this]
    · rw [if_neg (fun e => hn e.2)]
theorem zeroT_turn (b : Int) (x : Bool) (n : Int) : (x = false ∧ turnT b x n = 0) ↔ (x = false ∧ n = 0) := by
  unfold turnT
  cases x <;> simp
theorem sameT_turn (b : Int) (h : Hd) : (h.turn b).sameT zeroH = h.sameT zeroH := by
  unfold Hd.sameT
  show decide ((h.x0 = false ∧ turnT b h.x0 h.n0 = 0) ∧ (h.x1 = false ∧ turnT b h.x1 h.n1 = 0) ∧ (h.x2 = false ∧ turnT b h.x2 h.n2 = 0)) = decide ((h.x0 = false ∧ h.n0 = 0) ∧ (h.x1 = false ∧ h.n1 = 0) ∧ (h.x2 = false ∧ h.n2 = 0))
  simp only [zeroT_turn]
theorem fine_turn (b : Int) (h : Hd) : (h.turn b).fine = h.fine := by
  show (okTm h.x0 (turnT b h.x0 h.n0) && okTm h.x1 (turnT b h.x1 h.n1) && okTm h.x2 (turnT b h.x2 h.n2)) = _
  rw [okTm_turn, okTm_turn, okTm_turn]
  rfl
theorem chk_turn (b : Int) : (∀ s : Sh, ∀ d : Int, (s.turn b).chk d = s.chk d) ∧ ∀ l : List Sh, ∀ d : Int, chkL (turnL b l) d = chkL l d := by
  refine Sh.ind2 (fun hd subs ih d => ?_) (fun d => rfl) (fun a l ha hl d => ?_)
  · rw [turn_mk, chk_mk, chk_mk]
    unfold nccT termsT
    rw [sameT_turn, fine_turn, turnL_length, ih]
    rfl
  · rw [turnL, chkL, chkL, ha, hl]
theorem count_turn (b : Int) : (∀ s : Sh, (s.turn b).count = s.count) ∧ ∀ l : List Sh, countL (turnL b l) = countL l := by
  refine Sh.ind2 (fun hd subs ih => ?_) rfl (fun a l ha hl => ?_)
  · rw [turn_mk, Sh.count, Sh.count, ih]
  · rw [turnL, countL, countL, ha, hl]
theorem chkRule_turn (b : Int) (nm : Bool) (l : List Sh) : chkRule nm (turnL b l) = chkRule nm l := by
  have ho : outAny (turnL b l) 32 = outAny l 32 := by
    rw [Bool.eq_iff_iff, outAny_iff, outAny_iff]
    constructor
    · rintro ⟨v, h1, h2, h3⟩
      obtain ⟨u, hu1, hu2, hu3⟩ : ∃ u : Int, 1 ≤ u ∧ u ≤ 32 ∧ turnN b u = v := ⟨(v - 1 - b) % 32 + 1, by omega, by omega, by unfold turnN; omega⟩
      refine ⟨u, hu1, hu2, ?_⟩
      rw [← hu3, (outL_turn ⟨hu1, hu2⟩).2] at h3
      exact h3
    · rintro ⟨v, h1, h2, h3⟩
      have := @turnN_range b v
      exact ⟨turnN b v, this.1, this.2, by rw [(outL_turn ⟨h1, h2⟩).2]; exact h3⟩
  unfold chkRule
  rw [turnL_length, (chk_turn b).2, (count_turn b).2, ho]
end
section
open Go.RowKit
set_option maxRecDepth 100000

set_option maxHeartbeats 2000000 in
theorem refRest_any (l : List Sh) (len : Nat) (HL : Hid (l.length = len)) (hLen : len ≤ 5000) (HC : Hid (countL l ≤ 5000)) (ok : Nat → Nat → Prop) (a : Option Addr) (cap : Nat) (w : World) (HH : Hid (Holds cR w ok (.slice a len cap) l)) (n : Nat) (v : Int) :
    Calls Try.prog 80 #[.slice a len cap, .int .i64 n, .int .i64 v] w fun e w' => e = .returned (.bool (hasL (l.drop n) v)) ∧ Kept Nil w w' := by
  go_enter Try.func80, Try.ntmps80
  go_wp2_with fail
  go_loopw [7] (fun i wr => ∃ j : Nat, n ≤ j ∧ (j ≤ len ∨ j = n) ∧ i = .int .i64 j ∧ hasL (l.drop n) v = hasL (l.drop j) v ∧ Kept Nil w wr) (fun i _ => len - (intOf i).toNat)
  case atStart => exact ⟨n, by omega, .inr rfl, rfl, rfl, Kept.refl _ _⟩
  case round =>
    obtain ⟨j, hnj, hj, rfl, hch, hK⟩ := hrel
    have HK := Lib.hid hK
    have HCh := Lib.hid hch
    have HJ := Lib.hid hj
    clear hK hch hj
    by_cases hlt : j < len
    · obtain ⟨⟨⟨k', x0', x1', x2', n0', n1', n2'⟩, sb⟩, hx⟩ : ∃ x, l[j]? = some x := ⟨_, List.getElem?_eq_getElem (by have := HL.out; omega)⟩
      obtain ⟨b, o, a', cap', rfl, hok, hr, hs⟩ := (HH.out.keptN HK.out).at_ hx
      have HX : Hid (∀ W, Kept Nil wr W → Calls Try.prog 79 #[vR ⟨k', x0', x1', x2', n0', n1', n2'⟩ (.slice a' sb.length cap'), .int .i64 v] W fun e w' => e = .returned (.bool ((Sh.mk ⟨k', x0', x1', x2', n0', n1', n2'⟩ sb).has v)) ∧ Kept Nil W w') := Lib.hid fun W kW => refHas_any (.mk ⟨k', x0', x1', x2', n0', n1', n2'⟩ sb) (mem_count HC.out (List.mem_of_getElem? hx)) v ok a' cap' W (hs.keptN kW)
      have HR := Lib.hid hr
      have HN := Lib.hid (hasL_drop hx v)
      clear hx hr hs hok
      generalize (Sh.mk ⟨k', x0', x1', x2', n0', n1', n2'⟩ sb).has v = q at HX HN
      generalize sb.length = len' at HR HX
      go_wp2_with ((with_reducible refine wpList_load_R rfl (.tmp 17) rfl _ _ rfl ⟨k', x0', x1', x2', n0', n1', n2'⟩ (.slice a' len' cap') ?_ ?_)
                   · exact HR.out)
      refine (HX.out _ (Kept.refl _ _)).mono ?_
      rintro e w2 ⟨rfl, k2⟩
      cases q
      · go_wp2_with fail
        go_roundw
        case rel => exact ⟨j + 1, by omega, .inl (by omega), by go_num, by rw [HCh.out, HN.out]; rfl, HK.out.trans k2 (fun _ _ g => g)⟩
        case measure => simp [intOf]; omega
      · go_wp2_with fail
        go_ret
        exact ⟨by rw [HCh.out, HN.out]; rfl, HK.out.trans k2 (fun _ _ g => g)⟩
    · have HE : Hid (hasL (l.drop j) v = false) := Lib.hid (by rw [List.drop_eq_nil_of_le (by have := HL.out; omega)]; rfl)
      have hd : decide ((j : Int) < (len : Int)) = false := decide_eq_false (by omega)
      go_wp2_with fail
      go_ret
      exact ⟨by rw [HCh.out, HE.out]; rfl, HK.out⟩
abbrev OutIH (l : List Sh) (v : Int) : Prop := ∀ hd sb, Sh.mk hd sb ∈ l → ∀ ok a cap w, Holds cR w ok (.slice a sb.length cap) sb →
  Calls Try.prog 70 #[.slice a sb.length cap, .int .i64 v] w fun e w' => e = .returned (.int .i64 (outL sb v)) ∧ Kept Nil w w'
set_option maxHeartbeats 2000000 in
theorem refOut_step (l : List Sh) (len : Nat) (HL : Hid (l.length = len)) (hLen : len ≤ 5000) (HC : Hid (countL l ≤ 5000)) (v : Int) (IH : Hid (OutIH l v)) (ok : Nat → Nat → Prop) (a : Option Addr) (cap : Nat) (w : World) (HH : Hid (Holds cR w ok (.slice a len cap) l)) :
    Calls Try.prog 70 #[.slice a len cap, .int .i64 v] w fun e w' => e = .returned (.int .i64 (outL l v)) ∧ Kept Nil w w' := by
  have CT := Lib.hid (fun W (kW : Kept Nil w W) (n : Nat) => refRest_any l len HL hLen HC ok a cap W (HH.out.keptN kW) n v)
  go_enter Try.func70, Try.ntmps70
  go_wp2_with fail
  go_loopw [9] (fun i wr => ∃ j : Nat, j ≤ len ∧ i = .int .i64 j ∧ outL l v = outL (l.drop j) v ∧ Kept Nil w wr) (fun i _ => len - (intOf i).toNat)
  case atStart => exact ⟨0, by omega, rfl, rfl, Kept.refl _ _⟩
  case round =>
    obtain ⟨j, hj, rfl, hch, hK⟩ := hrel
    have HK := Lib.hid hK
    have HCh := Lib.hid hch
    clear hK hch
    by_cases hlt : j < len
    · obtain ⟨⟨⟨k', x0', x1', x2', n0', n1', n2'⟩, sb⟩, hx⟩ : ∃ x, l[j]? = some x := ⟨_, List.getElem?_eq_getElem (by have := HL.out; omega)⟩
      obtain ⟨b, o, a', cap', rfl, hok, hr, hs⟩ := (HH.out.keptN HK.out).at_ hx
      have HX : Hid (∀ W, Kept Nil wr W → Calls Try.prog 79 #[vR ⟨k', x0', x1', x2', n0', n1', n2'⟩ (.slice a' sb.length cap'), .int .i64 v] W fun e w' => e = .returned (.bool ((Sh.mk ⟨k', x0', x1', x2', n0', n1', n2'⟩ sb).has v)) ∧ Kept Nil W w') := Lib.hid fun W kW => refHas_any (.mk ⟨k', x0', x1', x2', n0', n1', n2'⟩ sb) (mem_count HC.out (List.mem_of_getElem? hx)) v ok a' cap' W (hs.keptN kW)
      have HO : Hid (∀ W, Kept Nil wr W → Calls Try.prog 70 #[.slice a' sb.length cap', .int .i64 v] W fun e w' => e = .returned (.int .i64 (outL sb v)) ∧ Kept Nil W w') := Lib.hid fun W kW => IH.out _ _ (List.mem_of_getElem? hx) ok a' cap' W (hs.keptN kW)
      have HR := Lib.hid hr
      have HN : Hid (outL (l.drop j) v = if (Sh.mk ⟨k', x0', x1', x2', n0', n1', n2'⟩ sb).has v = false then outL (l.drop (j + 1)) v else if k' = 1 then 2 else if hasL (l.drop (j + 1)) v = true then 1 else if k' = 3 ∧ outL sb v = 1 then 1 else 0) := Lib.hid (outL_drop hx v)
      clear hx hr hs hok
      generalize (Sh.mk ⟨k', x0', x1', x2', n0', n1', n2'⟩ sb).has v = q at HX HN
      generalize outL sb v = oo at HO HN
      generalize sb.length = len' at HR HX HO
      have CT2 : Hid (∀ W, Kept Nil w W → Calls Try.prog 80 #[.slice (some ⟨b, o, none⟩) len cap, .int .i64 ((j : Int) + 1), .int .i64 v] W fun e w' => e = .returned (.bool (hasL (l.drop (j + 1)) v)) ∧ Kept Nil W w') := Lib.hid fun W kW => by
        have := CT.out W kW (j + 1)
        rwa [Int.natCast_add, show ((1 : Nat) : Int) = 1 from rfl] at this
      generalize hasL (l.drop (j + 1)) v = hr2 at CT2 HN
      have BK := Lib.hid (Blk.new wr 77 (arrR ⟨k', x0', x1', x2', n0', n1', n2'⟩ (.slice a' len' cap')))
      go_wp2_with ((with_reducible refine wpList_load_R rfl (.tmp 12) rfl _ _ rfl ⟨k', x0', x1', x2', n0', n1', n2'⟩ (.slice a' len' cap') ?_ ?_)
                   · exact HR.out)
      refine (HX.out _ ((Kept.refl Nil wr).alloc _)).mono ?_
      rintro e w2 ⟨rfl, k2⟩
      have B2 := Lib.hid (BK.out.kept k2 id)
      have K2 := Lib.hid (((Kept.refl Nil wr).alloc _).trans k2 (fun _ _ g => g))
      clear k2 BK
      cases q
      · go_wp2_with fail
        go_roundw
        case rel => exact ⟨j + 1, by omega, by go_num, by rw [HCh.out, HN.out]; simp, HK.out.trans K2.out (fun _ _ g => g)⟩
        case measure => simp [intOf]; omega
      · have c0 := B2.out.cell 0
        simp at c0
        by_cases hk1 : k' = 1
        · subst hk1
          go_wp2_with fail
          go_ret
          exact ⟨by rw [HCh.out, HN.out]; simp, HK.out.trans K2.out (fun _ _ g => g)⟩
        · have hk1' : (k' == 1) = false := by simpa using hk1
          go_wp2_with fail
          refine (CT2.out _ (HK.out.trans K2.out (fun _ _ g => g))).mono ?_
          rintro e w3 ⟨rfl, k3⟩
          have B3 := Lib.hid (B2.out.kept k3 id)
          have K3 := Lib.hid (K2.out.trans k3 (fun _ _ g => g))
          clear k3 c0
          cases hr2
          · have c0 := B3.out.cell 0
            have c7 := B3.out.cell 7
            simp at c0 c7
            by_cases hk3 : k' = 3
            · subst hk3
              go_wp2_with fail
              refine (HO.out _ K3.out).mono ?_
              rintro e w4 ⟨rfl, k4⟩
              by_cases ho : oo = 1
              · subst ho
                go_wp2_with fail
                go_ret
                exact ⟨by rw [HCh.out, HN.out]; simp, (HK.out.trans K3.out (fun _ _ g => g)).trans k4 (fun _ _ g => g)⟩
              · have ho' : (oo == 1) = false := by simpa using ho
                have HO2 := Lib.hid ho
                clear ho
                go_wp2_with fail
                go_ret
                exact ⟨by rw [HCh.out, HN.out]; simp [HO2.out], (HK.out.trans K3.out (fun _ _ g => g)).trans k4 (fun _ _ g => g)⟩
            · have hk3' : (k' == 3) = false := by simpa using hk3
              have HK3 := Lib.hid hk3
              have HK1 := Lib.hid hk1
              clear hk3 hk1
              go_wp2_with fail
              go_ret
              exact ⟨by rw [HCh.out, HN.out]; simp [HK3.out, HK1.out], HK.out.trans K3.out (fun _ _ g => g)⟩
          · have HK1 := Lib.hid hk1
            clear hk1
            go_wp2_with fail
            go_ret
            exact ⟨by rw [HCh.out, HN.out]; simp [HK1.out], HK.out.trans K3.out (fun _ _ g => g)⟩
    · obtain rfl : j = len := by omega
      have HE : Hid (outL (l.drop j) v = 0) := Lib.hid (by rw [← HL.out, List.drop_length, outL_nil])
      go_wp2_with fail
      go_ret
      exact ⟨by rw [HCh.out, HE.out]; rfl, HK.out⟩
theorem refOut_tree (v : Int) : ∀ s : Sh, s.count ≤ 5000 → ∀ ok a cap w, Holds cR w ok (.slice a s.subs.length cap) s.subs →
    Calls Try.prog 70 #[.slice a s.subs.length cap, .int .i64 v] w fun e w' => e = .returned (.int .i64 (outL s.subs v)) ∧ Kept Nil w w' := by
  refine Sh.ind fun hd subs ih hc ok a cap w h => ?_
  have hc' : 1 + countL subs ≤ 5000 := by simpa [Sh.count] using hc
  have hl := length_countL subs
  exact refOut_step subs _ rfl (by omega) (show _ ≤ _ by omega) v (fun hd' sb hx => ih _ hx (by have := count_mem hx; omega)) ok a cap w h
theorem refOut_any (v : Int) (l : List Sh) (hc : countL l ≤ 4999) (ok : Nat → Nat → Prop) (a : Option Addr) (cap : Nat) (w : World) (h : Holds cR w ok (.slice a l.length cap) l) :
    Calls Try.prog 70 #[.slice a l.length cap, .int .i64 v] w fun e w' => e = .returned (.int .i64 (outL l v)) ∧ Kept Nil w w' :=
  refOut_tree v (.mk zeroH l) (by simp only [Sh.count]; omega) ok a cap w h
end
section
open Go.RowKit
set_option maxRecDepth 100000

/-- A rule as a value; its cells. -/
abbrev vRule (nm : ByteArray) (v : Value) : Value := .agg #[.string nm, v]
theorem chkL_sizes {l : List Sh} {j : Nat} {x : Sh} (h : l[j]? = some x) : countL (l.drop j) = x.count + countL (l.drop (j + 1)) := by
  obtain ⟨hl, e⟩ := List.getElem?_eq_some_iff.1 h
  rw [List.drop_eq_getElem_cons hl, e]
  rfl
set_option maxHeartbeats 2000000 in
theorem refRule_any (nm : ByteArray) (hnm : nm.size ≤ maxLen) (l : List Sh) (hc : countL l ≤ 4999) (ok : Nat → Nat → Prop) (a : Option Addr) (cap : Nat) (w : World) (h : Holds cR w ok (.slice a l.length cap) l) :
    Calls Try.prog 51 #[vRule nm (.slice a l.length cap)] w fun e w' => e = .returned (.int .i64 (chkRule (okName nm) l)) ∧ Kept Nil w w' := by
  have CN := Lib.hid (fun W => refName_any nm W hnm)
  have HH := Lib.hid h
  have HC := Lib.hid hc
  have HV : Hid (chkRule (okName nm) l = if okName nm = false then 1 else if l.length = 0 then 2 else if chkL l 1 ≠ 0 then chkL l 1 else if 16 < countL l then 7 else if outAny l 32 = true then 6 else 0) := Lib.hid rfl
  have CO := Lib.hid (fun W (kW : Kept Nil w W) (v : Int) => refOut_any v l hc ok a cap W (h.keptN kW))
  generalize chkRule (okName nm) l = res at HV ⊢
  generalize okName nm = nmok at CN HV
  obtain ⟨len, hlen⟩ : ∃ len, l.length = len := ⟨_, rfl⟩
  rw [hlen] at HH HV CO ⊢
  have HL := Lib.hid hlen
  have hLen : len ≤ 4999 := by have := length_countL l; omega
  clear h hc hlen hnm
  have B0 := Lib.hid (Blk.new w 33 #[.string nm, .slice a len cap])
  have K0 := Lib.hid ((Kept.refl Nil w).alloc (.cells #[.string nm, .slice a len cap] 33))
  go_enter Try.func51, Try.ntmps51
  go_wp2_with fail
  refine (CN.out _).mono ?_
  rintro e w1 ⟨rfl, rfl⟩
  cases nmok
  · go_wp2_with fail
    go_ret
    exact ⟨by rw [HV.out]; rfl, K0.out⟩
  · rcases Nat.eq_zero_or_pos len with rfl | hpos
    · go_wp2_with fail
      go_ret
      exact ⟨by rw [HV.out]; rfl, K0.out⟩
    · have h0' : ((len : Int) == 0) = false := by simp; omega
      have HV2 : Hid (res = if chkL l 1 ≠ 0 then chkL l 1 else if 16 < countL l then 7 else if outAny l 32 = true then 6 else 0) := Lib.hid (by rw [HV.out]; simp [show len ≠ 0 by omega])
      clear HV
      go_wp2_with fail
      go_loopw [3, 19] (fun n i wr => ∃ j : Nat, j ≤ len ∧ i = .int .i64 j ∧ chkL l 1 = chkL (l.drop j) 1 ∧ n = .int .i64 ((countL (l.take j) : Nat) : Int) ∧ Kept Nil w wr ∧ Blk wr w.heap.size 33 #[.string nm, .slice a len cap]) (fun _ i _ => len - (intOf i).toNat)
      case atStart => exact ⟨0, by omega, rfl, rfl, rfl, K0.out, B0.out⟩
      case round =>
        obtain ⟨j, hj, rfl, hch, rfl, hK, hB⟩ := hrel
        have HK := Lib.hid hK
        have HB := Lib.hid hB
        have HCh := Lib.hid hch
        clear hK hB hch K0 B0
        by_cases hlt : j < len
        · obtain ⟨⟨⟨k', x0', x1', x2', n0', n1', n2'⟩, sb⟩, hx⟩ : ∃ x, l[j]? = some x := ⟨_, List.getElem?_eq_getElem (by have := HL.out; omega)⟩
          obtain ⟨b, o, a', cap', rfl, hok, hr, hs⟩ := (HH.out.keptN HK.out).at_ hx
          have hcx : (Sh.mk ⟨k', x0', x1', x2', n0', n1', n2'⟩ sb).count ≤ 5000 := mem_count (by have := HC.out; omega) (List.mem_of_getElem? hx)
          have HX : Hid (∀ W, Kept Nil wr W → Calls Try.prog 46 #[vR ⟨k', x0', x1', x2', n0', n1', n2'⟩ (.slice a' sb.length cap'), .int .i64 1] W fun e w' => e = .returned (.int .i64 ((Sh.mk ⟨k', x0', x1', x2', n0', n1', n2'⟩ sb).chk 1)) ∧ Kept Nil W w') := Lib.hid fun W kW => refCheck_any (.mk ⟨k', x0', x1', x2', n0', n1', n2'⟩ sb) hcx ok a' cap' W 1 (by omega) (hs.keptN kW)
          have HZ : Hid (∀ W, Kept Nil wr W → Calls Try.prog 47 #[vR ⟨k', x0', x1', x2', n0', n1', n2'⟩ (.slice a' sb.length cap')] W fun e w' => e = .returned (.int .i64 ((Sh.mk ⟨k', x0', x1', x2', n0', n1', n2'⟩ sb).count : Int)) ∧ Kept Nil W w') := Lib.hid fun W kW => refSize_any (.mk ⟨k', x0', x1', x2', n0', n1', n2'⟩ sb) hcx ok a' cap' W (hs.keptN kW)
          have HR := Lib.hid hr
          have HN := Lib.hid (chkL_drop hx 1)
          have HS := Lib.hid (countL_take_succ hx)
          have HB5 := Lib.hid (countL_take_le l (j + 1))
          clear hx hr hs hok hcx
          generalize (Sh.mk ⟨k', x0', x1', x2', n0', n1', n2'⟩ sb).chk 1 = q at HX HN
          generalize hcn : countL (l.take j) = cn at HS
          clear hcn
          generalize (Sh.mk ⟨k', x0', x1', x2', n0', n1', n2'⟩ sb).count = cx at HZ HS
          have hsum : cn + cx ≤ 4999 := by have := HS.out; have := HB5.out; have := HC.out; omega
          generalize sb.length = len' at HR HX HZ
          have BK := Lib.hid (Blk.new wr 77 (arrR ⟨k', x0', x1', x2', n0', n1', n2'⟩ (.slice a' len' cap')))
          go_wp2_with ((with_reducible refine wpList_load_R rfl (.tmp 21) rfl _ _ rfl ⟨k', x0', x1', x2', n0', n1', n2'⟩ (.slice a' len' cap') ?_ ?_)
                       · exact HR.out)
          refine (HX.out _ ((Kept.refl Nil wr).alloc _)).mono ?_
          rintro e w2 ⟨rfl, k2⟩
          have BK2 := Lib.hid (BK.out.kept k2 id)
          have K2 := Lib.hid (((Kept.refl Nil wr).alloc _).trans k2 (fun _ _ g => g))
          clear k2 BK
          by_cases hq : q = 0
          · subst hq
            go_wp2_with ((with_reducible refine wpList_load_R rfl (.tmp 5) rfl _ _ rfl ⟨k', x0', x1', x2', n0', n1', n2'⟩ (.slice a' len' cap') ?_ ?_)
                         · exact World.rangeAt_of_block BK2.out 0 8)
            refine (HZ.out _ K2.out).mono ?_
            rintro e w3 ⟨rfl, k3⟩
            have K3 := Lib.hid (K2.out.trans k3 (fun _ _ g => g))
            clear k3
            go_wp2_with fail
            go_roundw
            case rel => exact ⟨j + 1, by omega, by go_num, by rw [HCh.out, HN.out]; simp, by rw [HS.out]; go_num, HK.out.trans K3.out (fun _ _ g => g), HB.out.kept K3.out id⟩
            case measure => simp [intOf]; omega
          · have hq' : (q == 0) = false := by simpa using hq
            have HQ := Lib.hid hq
            clear hq
            go_wp2_with fail
            go_ret
            exact ⟨by rw [HV2.out, HCh.out, HN.out]; simp [HQ.out], HK.out.trans K2.out (fun _ _ g => g)⟩
        · obtain rfl : j = len := by omega
          have HE : Hid (chkL l 1 = 0) := Lib.hid (by rw [HCh.out, ← HL.out, List.drop_length]; rfl)
          have HE2 : Hid (l.take j = l) := Lib.hid (by rw [← HL.out]; simp)
          rw [HE2.out]
          have HV3 : Hid (res = if 16 < countL l then 7 else if outAny l 32 = true then 6 else 0) := Lib.hid (by rw [HV2.out, HE.out]; simp)
          generalize hcl : countL l = cl at HV3 HC
          have hcl5 : cl ≤ 4999 := HC.out
          clear hcl HV2
          by_cases h16 : 16 < cl
          · go_wp2_with fail
            go_ret
            exact ⟨by rw [HV3.out]; simp [h16], HK.out⟩
          · have h16' : decide ((16 : Int) < (cl : Int)) = false := decide_eq_false (by omega)
            have HV4 : Hid (res = if outAny l 32 = true then 6 else 0) := Lib.hid (by rw [HV3.out]; simp [h16])
            have HO0 : Hid (outAny l 0 = false) := Lib.hid rfl
            clear HV3
            go_wp2_with fail
            go_loopw [7] (fun i wr => ∃ n : Nat, n ≤ 32 ∧ i = .int .i64 ((n : Int) + 1) ∧ outAny l n = false ∧ Kept Nil w wr ∧ Blk wr w.heap.size 33 #[.string nm, .slice a j cap]) (fun i _ => 33 - (intOf i).toNat)
            case atStart => exact ⟨0, by omega, rfl, HO0.out, HK.out, HB.out⟩
            case round =>
              obtain ⟨n, hn, rfl, hout, hK2, hB2⟩ := hrel
              have HK2 := Lib.hid hK2
              have HB2 := Lib.hid hB2
              have HOut := Lib.hid hout
              have c1 := hB2.cell 1
              simp at c1
              clear hK2 hB2 hout
              by_cases h32 : n < 32
              · have HS := Lib.hid (outAny_succ l n)
                have CO2 := Lib.hid (fun W kW => CO.out W kW ((n : Int) + 1))
                generalize outL l ((n : Int) + 1) = oo at HS CO2
                go_wp2_with fail
                refine (CO2.out _ HK2.out).mono ?_
                rintro e w5 ⟨rfl, k5⟩
                have K5 := Lib.hid (HK2.out.trans k5 (fun _ _ g => g))
                have B5 := Lib.hid (HB2.out.kept k5 id)
                clear k5 c1
                by_cases ho : oo = 1
                · subst ho
                  have HT : Hid (outAny l 32 = true) := Lib.hid (by
                    obtain ⟨v, g1, g2, g3⟩ := outAny_iff.1 (show outAny l (n + 1) = true by rw [HS.out]; simp)
                    exact outAny_iff.2 ⟨v, g1, by omega, g3⟩)
                  go_wp2_with fail
                  go_ret
                  exact ⟨by rw [HV4.out, HT.out]; rfl, K5.out⟩
                · have ho' : (oo == 1) = false := by simpa using ho
                  have HS2 : Hid (outAny l (n + 1) = false) := Lib.hid (by rw [HS.out, HOut.out]; simp [ho])
                  clear ho
                  go_wp2_with fail
                  go_roundw
                  case rel => exact ⟨n + 1, by omega, by go_num, HS2.out, K5.out, B5.out⟩
                  case measure => simp [intOf]; omega
              · obtain rfl : n = 32 := by omega
                go_wp2_with fail
                go_ret
                exact ⟨by rw [HV4.out, HOut.out]; rfl, HK2.out⟩
end
section
open Go.RowKit
set_option maxRecDepth 100000

abbrev zRule : Array Value := #[.string ⟨#[]⟩, .slice none 0 0]
theorem infoRule : (Try.prog.info? 33).map (·.size) = some 2 := by kernel_rfl
theorem wpList_store_rule {ops : Array Oper} {rest : List Oper} {o : Oper} {a : Act} {w : World} {Q : Exit → Act → World → Prop} (hgd : o.guard = none) (x y : Operand) (ho : o.op = .store 33 x y)
    (g : Nat) (nm : ByteArray) (s : Option Addr) (n c : Nat) (hx : a.eval x = .pointer (some ⟨g, 0, none⟩)) (hy : a.eval y = vRule nm (.slice s n c)) (v0 : Array Value) (h8 : v0.size = 2) (hg : Blk w g 33 v0)
    (hn : ∀ W, Kept (fun k => k = g) w W → Blk W g 33 #[.string nm, .slice s n c] → wpList Try.prog ops Q rest (a.put o.dst undef) W) : wpList Try.prog ops Q (o :: rest) a w :=
  wpList_store_rowW hgd _ x y ho g _ hx hy _ _ hg infoRule h8 (by simp [Value.oneCell']) hn
/-- The reference's rule. -/
def RuleEnd (nm : ByteArray) (l : List Sh) (w : World) (e : Ending) (w' : World) : Prop :=
  ∃ a' cap', e = .returned (vRule nm (.slice a' l.length cap')) ∧ Holds cR w' (okM w.heap.size w') (.slice a' l.length cap') l ∧ Kept Nil w w'
set_option maxHeartbeats 4000000 in
theorem refRuleOf_any (nm : ByteArray) (l : List Sh) (hc : countL l ≤ 5000) (ok : Nat → Nat → Prop) (a : Option Addr) (cap : Nat) (w : World) (h : Holds cA w ok (.slice a l.length cap) l) :
    Calls Try.prog 12 #[vRule nm (.slice a l.length cap)] w (RuleEnd nm l w) := by
  have HH := Lib.hid h
  have HC := Lib.hid hc
  obtain ⟨len, hlen⟩ : ∃ len, l.length = len := ⟨_, rfl⟩
  rw [hlen] at HH ⊢
  have HL := Lib.hid hlen
  have hLen : len ≤ 5000 := by have := length_countL l; omega
  clear h hc hlen
  obtain ⟨X, hXe⟩ : ∃ X, X = w.heap.size + 1 + 1 := ⟨_, rfl⟩
  have hX : w.heap.size + 1 < X := by omega
  have RX := Lib.hid ((RG.start w 24 #[.string nm, .slice a len cap] 33 zRule).alloc (.cells #[.string nm, .slice none 0 0] 33))
  have BX : Hid (Blk (((w.alloc (.cells #[.string nm, .slice a len cap] 24)).alloc (.cells zRule 33)).alloc (.cells #[.string nm, .slice none 0 0] 33)) X 33 #[.string nm, .slice none 0 0]) := Lib.hid (by
    have := Blk.new ((w.alloc (.cells #[.string nm, .slice a len cap] 24)).alloc (.cells zRule 33)) 33 #[.string nm, .slice none 0 0]
    rw [hXe]
    simpa using this)
  go_enter Try.func12, Try.ntmps12
  go_wp2_with fail
  rw [← hXe]
  clear hXe
  go_loopw [12] (fun i wr => ∃ (j : Nat) (v : Value) (ps : List (Sh × Value)), j ≤ len ∧ i = .int .i64 j ∧ ps.map (·.1) = l.take j ∧ RG w 24 #[.string nm, .slice a len cap] 33 zRule wr ∧ Blk wr X 33 #[.string nm, v] ∧ CRow cR 77 wr (X + 1) v ps) (fun i _ => len - (intOf i).toNat)
  case atStart => exact ⟨0, .slice none 0 0, [], by omega, rfl, rfl, RX.out, BX.out, .nil _ _ _ _⟩
  case round =>
    obtain ⟨j, v, ps, hj, rfl, hps, hR, hB, hCr⟩ := hrel
    have HR := Lib.hid hR
    have HB := Lib.hid hB
    have HCr := Lib.hid hCr
    have HP := Lib.hid hps
    have hXs : X < wr.heap.size := hB.lt
    clear hR hB hCr hps RX BX
    by_cases hlt : j < len
    · obtain ⟨⟨⟨k', x0', x1', x2', n0', n1', n2'⟩, sb⟩, hx⟩ : ∃ x, l[j]? = some x := ⟨_, List.getElem?_eq_getElem (by have := HL.out; omega)⟩
      obtain ⟨b, o, a', cap', rfl, hok, hr, hs⟩ := (HH.out.keptN HR.out.kept).at_ hx
      have hcx : (Sh.mk ⟨k', x0', x1', x2', n0', n1', n2'⟩ sb).count ≤ 5000 := mem_count HC.out (List.mem_of_getElem? hx)
      have HX2 : Hid (∀ w, Holds cA w ok (.slice a' sb.length cap') sb → Calls Try.prog 28 #[vA ⟨k', x0', x1', x2', n0', n1', n2'⟩ (.slice a' sb.length cap')] w fun e w' => ∃ a2 c2, e = .returned (vR ⟨k', x0', x1', x2', n0', n1', n2'⟩ (.slice a2 sb.length c2)) ∧ Holds cR w' (okM w.heap.size w') (.slice a2 sb.length c2) sb ∧ Kept Nil w w') := Lib.hid fun w h => refT_any (.mk ⟨k', x0', x1', x2', n0', n1', n2'⟩ sb) hcx ok a' cap' w h
      have HRow := Lib.hid hr
      have HS := Lib.hid hs
      have HN : Hid (l.take (j + 1) = l.take j ++ [Sh.mk ⟨k', x0', x1', x2', n0', n1', n2'⟩ sb]) := Lib.hid (by rw [List.take_add_one, hx]; rfl)
      clear hx hr hs hok hcx
      obtain ⟨av, capv, rfl⟩ := HCr.out.shape
      have HPL : Hid (ps.length ≤ 5000) := Lib.hid (by have := congrArg List.length HP.out; rw [List.length_map, List.length_take] at this; omega)
      generalize hl' : sb.length = len' at HRow HS HX2
      clear hl'
      generalize hpl : ps.length = pl at HB HCr
      have HPl := Lib.hid hpl
      clear hpl
      go_wp2_with ((with_reducible refine wpList_load_A rfl (.tmp 14) rfl _ _ rfl ⟨k', x0', x1', x2', n0', n1', n2'⟩ (.slice a' len' cap') ?_ ?_)
                   · exact HRow.out)
      obtain ⟨W1, hW1⟩ : ∃ W1, wr.alloc (.cells (arrA ⟨k', x0', x1', x2', n0', n1', n2'⟩ (.slice a' len' cap')) 72) = W1 := ⟨_, rfl⟩
      have KW : Kept Nil wr W1 := by rw [← hW1]; exact (Kept.refl Nil wr).alloc _
      have by0 : Blk W1 wr.heap.size 72 (arrA ⟨k', x0', x1', x2', n0', n1', n2'⟩ (.slice a' len' cap')) := by rw [← hW1]; exact Blk.new _ _ _
      rw [show wr.alloc (.cells #[.int .i64 k', .bool x0', .int .i64 n0', .bool x1', .int .i64 n1', .bool x2', .int .i64 n2', .slice a' len' cap'] 72) = W1 from hW1]
      have RW := Lib.hid (HR.out.step KW)
      have BW := Lib.hid (HB.out.kept KW id)
      have CW1 := Lib.hid (HCr.out.kept KW)
      have HSW := Lib.hid (HS.out.keptN KW)
      have hXW : X < W1.heap.size := by have := KW.size; omega
      have e0 := by0.cell 0
      have e1 := by0.cell 1
      have e2 := by0.cell 2
      have e3 := by0.cell 3
      have e4 := by0.cell 4
      have e5 := by0.cell 5
      have e6 := by0.cell 6
      have e7 := by0.cell 7
      have x7 := BW.out.cell 1
      simp at e0 e1 e2 e3 e4 e5 e6 e7 x7
      clear hW1 KW by0 HR HB HCr HS HRow hXs
      obtain ⟨i0, hi, hz0, hz1, hz2⟩ := info_parts infoCR
      have RND : Hid (∀ a2 c2 w2, Holds cR w2 (okM W1.drew.heap.size w2) (.slice a2 len' c2) sb → Kept Nil W1.drew w2 → _) := Lib.hid fun a2 c2 w2 h2 k2 =>
        build_roundG (P := Try.prog) (t := 31) kindR Try.underlying31 hi hz0 hz1 hz2 rfl (by decide) 1 hX RW.out BW.out rfl CW1.out HPl.out (by have := HPl.out; have := HPL.out; omega) ((Kept.refl Nil W1).drew) rfl k2 (.mk ⟨k', x0', x1', x2', n0', n1', n2'⟩ sb) (.slice a2 len' c2) h2 77 (arrR ⟨k', x0', x1', x2', n0', n1', n2'⟩ (.slice a2 len' c2)) rfl
      clear RW BW CW1 hi hz0 hz1 hz2
      go_region_law (first
        | (refine step_append_run rfl (.tmp 17) (.tmp 20) 31 rfl _ _ rfl rfl r3 ?_)
        | (go_simp; go_at_call 28; refine (HX2.out _ (HSW.out.keptN ((Kept.refl Nil _).drew))).mono ?_; rintro e w2 ⟨a2, c2, rfl, h2, k2⟩; obtain ⟨c72, hX2, g, cap3, w3, r3, c73, f73, F1, F2, F3⟩ := RND.out a2 c2 w2 h2 k2; have F1' := Lib.hid F1; have F2' := Lib.hid F2; have F3' := Lib.hid F3; clear F1 F2 F3 h2 k2))
      all_goals
        go_wp2_with fail
        go_roundw
        case rel =>
          refine ⟨j + 1, _, ps ++ [(.mk ⟨k', x0', x1', x2', n0', n1', n2'⟩ sb, .slice a2 len' c2)], by omega, by go_num, ?_, F1'.out, ?_, F3'.out⟩
          · rw [List.map_append, HP.out, HN.out]; rfl
          · exact F2'.out
        case measure => simp [intOf]; omega
    · obtain rfl : j = len := by omega
      have HE : Hid (ps.map (·.1) = l) := Lib.hid (by rw [HP.out, ← HL.out]; simp)
      obtain ⟨av, capv, rfl⟩ := HCr.out.shape
      have HPl : Hid (ps.length = l.length) := Lib.hid (by rw [← HE.out]; simp)
      rw [HPl.out, HL.out] at HB HCr
      have c0 := HB.out.cell 0
      have c1 := HB.out.cell 1
      simp at c0 c1
      go_wp2_with (first
        | ((with_reducible refine wpList_store_rule rfl (.tmp 2) _ rfl _ nm _ _ _ rfl rfl zRule rfl ?_ ?_)
           · exact HR.out.b1
           intro W kW bW
           have KW := Lib.hid kW
           have BW := Lib.hid bW
           clear kW bW))
      refine bodyPost_ret (results_cell_row Try.results12 _ _ _ _ _ _ _ rfl BW.out Try.underlying33 rfl (by kernel_rfl)) rfl ?_
      have hh := HCr.out.holds kindR
      rw [HE.out] at hh
      refine ⟨av, capv, by rw [HL.out], ?_, HR.out.kept.trans KW.out (fun i hi e => by omega)⟩
      rw [HL.out]
      exact (hh.kept KW.out (fun b o hb e => by have := hb.1; omega)).mono (fun b o hb => (hb.kept KW.out (fun e => by have := hb.1; omega)).less (by omega))
end
section
open Go.RowKit
set_option maxRecDepth 100000

def SmallEnd (M g m : Nat) (s : Sh) (w : World) (e : Ending) (w' : World) : Prop :=
  ∃ (b : Bool) (m' : Nat), e = .returned (.bool b) ∧ Blk w' g 3 #[.int .i64 m'] ∧ Kept (fun k => k = g) w w' ∧ (b = true → m' = m + s.count ∧ m' ≤ M)
abbrev SmallIH (M : Nat) (subs : List Sh) : Prop := ∀ hd sb, Sh.mk hd sb ∈ subs → ∀ ok a cap w (g m : Nat) (deep : Int), Holds cA w ok (.slice a sb.length cap) sb → (∀ b o, ok b o → b ≠ g) → Blk w g 3 #[.int .i64 m] → m ≤ M → -1 ≤ deep → deep ≤ 5 →
  Calls Try.prog 67 #[vA hd (.slice a sb.length cap), .int .i64 deep, .int .i64 M, .pointer (some ⟨g, 0, none⟩)] w (SmallEnd M g m (.mk hd sb) w)
set_option maxHeartbeats 1000000 in
theorem small_step (M : Nat) (hM : M ≤ 5000) (k : Int) (x0 x1 x2 : Bool) (n0 n1 n2 : Int) (subs : List Sh) (len : Nat) (HL : Hid (subs.length = len)) (IH : Hid (SmallIH M subs))
    (ok : Nat → Nat → Prop) (a : Option Addr) (cap : Nat) (w : World) (g m : Nat) (deep : Int) (HH : Hid (Holds cA w ok (.slice a len cap) subs)) (HG : Hid (∀ b o, ok b o → b ≠ g)) (HB : Hid (Blk w g 3 #[.int .i64 m])) (hm : m ≤ M) (hd1 : -1 ≤ deep) (hd2 : deep ≤ 5) :
    Calls Try.prog 67 #[vA ⟨k, x0, x1, x2, n0, n1, n2⟩ (.slice a len cap), .int .i64 deep, .int .i64 M, .pointer (some ⟨g, 0, none⟩)] w (SmallEnd M g m (.mk ⟨k, x0, x1, x2, n0, n1, n2⟩ subs) w) := by
  have hg : g < w.heap.size := HB.out.lt
  have c0 : w.cell? ⟨g, 0, none⟩ = some (.int .i64 m) := by rw [HB.out.cell 0]; rfl
  have f0 : w.frozen? ⟨g, 0, none⟩ = false := HB.out.frozen 0
  have K0 := Lib.hid (((Kept.refl (fun k => k = g) w).setCell ⟨g, 0, none⟩ (.inl rfl) (.int .i64 ((m + 1 : Nat) : Int))).alloc (.cells #[.int .i64 k, .bool x0, .int .i64 n0, .bool x1, .int .i64 n1, .bool x2, .int .i64 n2, .slice a len cap] 72))
  have B0 := Lib.hid ((HB.out.set_ 0 (.int .i64 ((m + 1 : Nat) : Int))).alloc (.cells #[.int .i64 k, .bool x0, .int .i64 n0, .bool x1, .int .i64 n1, .bool x2, .int .i64 n2, .slice a len cap] 72))
  have hne : g ≠ w.heap.size := by omega
  by_cases h60 : m + 1 > M
  · go_enter Try.func67, Try.ntmps67
    go_wp2_with fail
    go_ret
    exact ⟨false, m + 1, rfl, by simpa using B0.out, by simpa using K0.out, fun h => by cases h⟩
  · have hs60 : decide ((M : Int) < (m : Int) + 1) = false := decide_eq_false (by omega)
    by_cases hdp : deep < 0
    · go_enter Try.func67, Try.ntmps67
      go_wp2_with fail
      go_ret
      exact ⟨false, m + 1, rfl, by simpa using B0.out, by simpa using K0.out, fun h => by cases h⟩
    · have hdn : decide (deep < 0) = false := decide_eq_false hdp
      go_enter Try.func67, Try.ntmps67
      go_wp2_with fail
      go_loopw [28] (fun i wr => ∃ j : Nat, j ≤ len ∧ i = .int .i64 j ∧ Blk wr g 3 #[.int .i64 ((m + 1 + countL (subs.take j) : Nat) : Int)] ∧ m + 1 + countL (subs.take j) ≤ M ∧ Kept (fun k => k = g) w wr) (fun i _ => len - (intOf i).toNat)
      case atStart => exact ⟨0, by omega, rfl, by simpa [countL] using B0.out, by simp [countL]; omega, by simpa using K0.out⟩
      case round =>
        obtain ⟨j, hj, rfl, hB, hle, hK⟩ := hrel
        have HK := Lib.hid hK
        have HB2 := Lib.hid hB
        have hjl : j ≤ M := by
          have h1 := length_countL (subs.take j)
          rw [List.length_take] at h1
          have := HL.out
          omega
        clear hK K0 B0 hB
        by_cases hlt : j < len
        · obtain ⟨⟨⟨k', x0', x1', x2', n0', n1', n2'⟩, sb⟩, hx⟩ : ∃ x, subs[j]? = some x := ⟨_, List.getElem?_eq_getElem (by have := HL.out; omega)⟩
          obtain ⟨b, o, a', cap', rfl, hok, hr, hs⟩ := (HH.out.kept HK.out (fun b o hb e => HG.out b o hb e)).at_ hx
          have HX := Lib.hid (IH.out _ _ (List.mem_of_getElem? hx))
          have HR := Lib.hid hr
          have HS := Lib.hid hs
          have HN := Lib.hid (countL_take_succ hx)
          clear hx hr hs hok
          generalize hcn : m + 1 + countL (subs.take j) = cn at HB2 hle
          have HCN := Lib.hid hcn
          clear hcn
          unfold SmallEnd at HX
          generalize (Sh.mk ⟨k', x0', x1', x2', n0', n1', n2'⟩ sb).count = cx at HX HN
          generalize sb.length = len' at HR HS HX
          go_wp2_with ((with_reducible refine wpList_load_A rfl (.tmp 30) rfl _ _ rfl ⟨k', x0', x1', x2', n0', n1', n2'⟩ (.slice a' len' cap') ?_ ?_)
                       · exact HR.out)
          refine (HX.out _ _ _ _ g cn (deep - 1) (HS.out.keptN ((Kept.refl Nil _).alloc _)) HG.out (HB2.out.alloc _) hle (by omega) (by omega)).mono ?_
          rintro e w2 ⟨r, m', rfl, b2, k2, hr2⟩
          cases r
          · go_wp2_with fail
            go_ret
            exact ⟨false, m', rfl, b2, (HK.out.alloc _).trans k2 (fun _ _ g => g), fun h => by cases h⟩
          · obtain ⟨rfl, hm'⟩ := hr2 rfl
            have HB3 := Lib.hid b2
            have HK2 := Lib.hid k2
            clear b2 k2 hr2
            go_wp2_with fail
            go_roundw
            case rel => exact ⟨j + 1, by omega, by go_num, by rw [HN.out, ← Nat.add_assoc, HCN.out]; exact HB3.out, by rw [HN.out, ← Nat.add_assoc, HCN.out]; exact hm', (HK.out.alloc _).trans HK2.out (fun _ _ g => g)⟩
            case measure => simp [intOf]; omega
        · obtain rfl : j = len := by omega
          have HE : Hid (subs.take j = subs) := Lib.hid (by rw [← HL.out]; simp)
          go_wp2_with fail
          go_ret
          refine ⟨true, _, rfl, HB2.out, HK.out, fun _ => ⟨?_, hle⟩⟩
          rw [HE.out]
          simp only [Sh.count]
          omega
theorem small_any (M : Nat) (hM : M ≤ 5000) : ∀ s : Sh, ∀ ok a cap w (g m : Nat) (deep : Int), Holds cA w ok (.slice a s.subs.length cap) s.subs → (∀ b o, ok b o → b ≠ g) → Blk w g 3 #[.int .i64 m] → m ≤ M → -1 ≤ deep → deep ≤ 5 →
    Calls Try.prog 67 #[vA s.hd (.slice a s.subs.length cap), .int .i64 deep, .int .i64 M, .pointer (some ⟨g, 0, none⟩)] w (SmallEnd M g m s w) := by
  refine Sh.ind fun hd subs ih ok a cap w g m deep h hg hb hm h1 h2 => ?_
  exact small_step M hM hd.k hd.x0 hd.x1 hd.x2 hd.n0 hd.n1 hd.n2 subs _ rfl (fun hd' sb hx => ih _ hx) ok a cap w g m deep h hg hb hm h1 h2
theorem smallM_any (M : Nat) (hM : M ≤ 5000) (s : Sh) (ok : Nat → Nat → Prop) (a : Option Addr) (cap : Nat) (w : World) (h : Holds cA w ok (.slice a s.subs.length cap) s.subs) (hok : ∀ b o, ok b o → b < w.heap.size) :
    Calls Try.prog 45 #[vA s.hd (.slice a s.subs.length cap), .int .i64 M] w fun e w' => ∃ b : Bool, e = .returned (.bool b) ∧ Kept Nil w w' ∧ (b = true → s.count ≤ M) := by
  have C := Lib.hid (fun w' (k : Kept Nil w w') (g : Nat) (hg : w.heap.size ≤ g) (hb : Blk w' g 3 #[.int .i64 (0 : Nat)]) => small_any M hM s ok a cap w' g 0 5 (h.keptN k) (fun b o hb => by have := hok b o hb; omega) hb (by omega) (by omega) (by omega))
  generalize s.subs.length = len at C ⊢
  generalize s.hd = hd at C ⊢
  obtain ⟨k, x0, x1, x2, n0, n1, n2⟩ := hd
  have K0 := Lib.hid (((Kept.refl Nil w).alloc (.cells #[.int .i64 k, .bool x0, .int .i64 n0, .bool x1, .int .i64 n1, .bool x2, .int .i64 n2, .slice a len cap] 72)).alloc (.cells #[.int .i64 0] 3))
  have B0 := Lib.hid (Blk.new (w.alloc (.cells #[.int .i64 k, .bool x0, .int .i64 n0, .bool x1, .int .i64 n1, .bool x2, .int .i64 n2, .slice a len cap] 72)) 3 #[.int .i64 0])
  clear h hok
  go_enter Try.func45, Try.ntmps45
  go_wp2_with fail
  refine (C.out _ K0.out (w.heap.size + 1) (by omega) (by simpa using B0.out)).mono ?_
  rintro e w2 ⟨r, m', rfl, b2, k2, hr2⟩
  have HR2 := Lib.hid hr2
  clear hr2
  go_wp2_with fail
  go_ret
  exact ⟨r, rfl, K0.out.trans k2 (fun i hi e => by omega), fun hb => by obtain ⟨e1, e2⟩ := HR2.out hb; omega⟩
theorem small60_any (s : Sh) (ok : Nat → Nat → Prop) (a : Option Addr) (cap : Nat) (w : World) (h : Holds cA w ok (.slice a s.subs.length cap) s.subs) (hok : ∀ b o, ok b o → b < w.heap.size) :
    Calls Try.prog 45 #[vA s.hd (.slice a s.subs.length cap), .int .i64 60] w fun e w' => ∃ b : Bool, e = .returned (.bool b) ∧ Kept Nil w w' ∧ (b = true → s.count ≤ 60) := smallM_any 60 (by decide) s ok a cap w h hok
end
section
open Go.RowKit
set_option maxRecDepth 100000

/-- A bool; where it is true, something holds. -/
def BoolEnd (T : Prop) (w : World) (e : Ending) (w' : World) : Prop := ∃ b : Bool, e = .returned (.bool b) ∧ Kept Nil w w' ∧ (b = true → T)
set_option maxHeartbeats 1000000 in
theorem smallRule_any (M : Nat) (hM : M ≤ 4000) (nm : ByteArray) (hnm : nm.size ≤ maxLen) (l : List Sh) (ok : Nat → Nat → Prop) (a : Option Addr) (cap : Nat) (w : World) (h : Holds cA w ok (.slice a l.length cap) l) (hok : ∀ b o, ok b o → b < w.heap.size) :
    Calls Try.prog 50 #[vRule nm (.slice a l.length cap), .int .i64 M] w (BoolEnd (countL l ≤ M ∧ nm.size ≤ 200) w) := by
  have C : Hid (∀ w', Kept Nil w w' → Calls Try.prog 45 #[vA zeroH (.slice a l.length cap), .int .i64 ((M : Int) + 1)] w' fun e w'' => ∃ b : Bool, e = .returned (.bool b) ∧ Kept Nil w' w'' ∧ (b = true → 1 + countL l ≤ M + 1)) := Lib.hid fun w' k => by
    have := smallM_any (M + 1) (by omega) (.mk zeroH l) ok a cap w' (h.keptN k) (fun b o hb => Nat.lt_of_lt_of_le (hok b o hb) k.size)
    rw [Int.natCast_add, show ((1 : Nat) : Int) = 1 from rfl] at this
    refine this.mono ?_
    rintro e w'' ⟨b, h1, h2, h3⟩
    exact ⟨b, h1, h2, fun hb => by have := h3 hb; simpa only [Sh.count] using this⟩
  unfold maxLen at hnm
  generalize l.length = len at C ⊢
  generalize countL l = cl at C ⊢
  have K0 := Lib.hid ((Kept.refl Nil w).alloc (.cells #[.string nm, .slice a len cap] 24))
  have B0 := Lib.hid (Blk.new w 24 #[.string nm, .slice a len cap])
  clear h hok
  go_enter Try.func50, Try.ntmps50
  go_wp2_with fail
  refine (C.out _ K0.out).mono ?_
  rintro e w1 ⟨b, rfl, k1, hb⟩
  have K1 := Lib.hid (K0.out.trans k1 (fun _ _ g => g))
  have c0 := (B0.out.kept k1 id).cell 0
  simp at c0
  have HB := Lib.hid hb
  clear k1 hb K0 B0
  cases b
  · go_wp2_with fail
    go_ret
    exact ⟨false, rfl, K1.out, fun h => by cases h⟩
  · by_cases h2 : nm.size ≤ 200
    · go_wp2_with fail
      go_ret
      exact ⟨true, by simp; omega, K1.out, fun _ => ⟨by have := HB.out (by simp); omega, by omega⟩⟩
    · have h2' : decide ((nm.size : Int) ≤ 200) = false := decide_eq_false (by omega)
      go_wp2_with fail
      go_ret
      exact ⟨false, by simp, K1.out, fun h => by cases h⟩
set_option maxHeartbeats 1000000 in
theorem fine_any (nm : ByteArray) (hnm : nm.size ≤ maxLen) (l : List Sh) (ok : Nat → Nat → Prop) (a : Option Addr) (cap : Nat) (w : World) (h : Holds cA w ok (.slice a l.length cap) l) (hok : ∀ b o, ok b o → b < w.heap.size) :
    Calls Try.prog 29 #[vRule nm (.slice a l.length cap)] w (BoolEnd (countL l ≤ 20 ∧ nm.size ≤ 200 ∧ chkRule (okName nm) l = 0) w) := by
  have CS := Lib.hid (fun w' (k : Kept Nil w w') => smallRule_any 20 (by decide) nm hnm l ok a cap w' (h.keptN k) (fun b o hb => Nat.lt_of_lt_of_le (hok b o hb) k.size))
  have CR : Hid (∀ w', Kept Nil w w' → countL l ≤ 20 → Calls Try.prog 12 #[vRule nm (.slice a l.length cap)] w' fun e w'' => ∃ a' cap', e = .returned (vRule nm (.slice a' l.length cap')) ∧ Holds cR w'' (okM w'.heap.size w'') (.slice a' l.length cap') l ∧ Kept Nil w' w'') := Lib.hid fun w' k hc => refRuleOf_any nm l (by omega) ok a cap w' (h.keptN k)
  have CK : Hid (∀ w' ok' a' cap', countL l ≤ 20 → Holds cR w' ok' (.slice a' l.length cap') l → Calls Try.prog 51 #[vRule nm (.slice a' l.length cap')] w' fun e w'' => e = .returned (.int .i64 (chkRule (okName nm) l)) ∧ Kept Nil w' w'') := Lib.hid fun w' ok' a' cap' hc hh => refRule_any nm hnm l (by omega) ok' a' cap' w' hh
  generalize chkRule (okName nm) l = q at CK ⊢
  obtain ⟨len, hlen⟩ : ∃ len, l.length = len := ⟨_, rfl⟩
  rw [hlen] at CS CR CK ⊢
  generalize countL l = cl at CS CR CK ⊢
  have K0 := Lib.hid ((Kept.refl Nil w).alloc (.cells #[.string nm, .slice a len cap] 24))
  have B0 := Lib.hid (Blk.new w 24 #[.string nm, .slice a len cap])
  clear h hok hlen hnm
  go_enter Try.func29, Try.ntmps29
  go_wp2_with fail
  refine (CS.out _ K0.out).mono ?_
  rintro e w1 ⟨b, rfl, k1, hb⟩
  have K1 := Lib.hid (K0.out.trans k1 (fun _ _ g => g))
  have c0 := (B0.out.kept k1 id).cell 0
  have c1 := (B0.out.kept k1 id).cell 1
  simp at c0 c1
  have HB := Lib.hid hb
  clear k1 hb K0 B0 CS
  cases b
  · go_wp2_with fail
    go_ret
    exact ⟨false, rfl, K1.out, fun h => by cases h⟩
  · have HB2 := Lib.hid (HB.out (by simp))
    go_wp2_with fail
    refine (CR.out _ K1.out HB2.out.1).mono ?_
    rintro e w2 ⟨a2, c2, rfl, h2, k2⟩
    have K2 := Lib.hid (K1.out.trans k2 (fun _ _ g => g))
    have H2 := Lib.hid h2
    clear k2 h2 c0 c1
    go_wp2_with fail
    refine (CK.out _ _ _ _ HB2.out.1 H2.out).mono ?_
    rintro e w3 ⟨rfl, k3⟩
    have K3 := Lib.hid (K2.out.trans k3 (fun _ _ g => g))
    clear k3
    by_cases hq : q = 0
    · subst hq
      go_wp2_with fail
      go_ret
      exact ⟨true, rfl, K3.out, fun _ => ⟨HB2.out.1, HB2.out.2, by simp⟩⟩
    · have hq' : (q == 0) = false := by simpa using hq
      clear hq
      go_wp2_with fail
      go_ret
      exact ⟨false, rfl, K3.out, fun h => by cases h⟩
end
end Go.Proofs.Ytiihjlafhiaigaa
