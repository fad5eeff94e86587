/- Layer plain: the program's Joins. -/
import Derived.Test.YtmpoeibkndcnnaaA15
import Derived.Laws.MakeOwn
namespace Go.Proofs.Ytmpoeibkndcnnaa
open Go.RowKit
set_option maxRecDepth 100000

/-- How many matches there are, step by step. -/
def joinsL (fs : List F4) (l : List St) : List Int := (List.range l.length).map fun i => ((smL fs (l.take (i + 1)) []).length : Int)
def JoinsOK : Prop := ∀ (fs : List F4), (∀ f ∈ fs, okT f.2 = true) → fs.length ≤ 12 → ∀ (l : List St), (∀ x ∈ l, x.okS) → l.length ≤ 16 → (fs.length + 1) ^ posSL l ≤ 3000 → ∀ (fa : Option Addr) (fn fc : Nat) (a : Option Addr) (cap : Nat) (w : World), In cF 4 w fa fn fs → SHolds w Any2 (.slice a l.length cap) l →
  Calls Try.prog 21 #[.slice fa fn fc, .slice a l.length cap] w fun e w' => ∃ a' c', e = .returned (.slice a' l.length c') ∧ In cN 1 w' a' l.length (joinsL fs l) ∧ Kept Nil w w'
/-- The numbers, as they stand when so much was handed on. -/
def cntV (len : Nat) (D : List Ev) : List Value := (List.range len).map fun i => Value.int .i64 ((D.countP fun e => e.1 == i + 1 : Nat) : Int)
theorem cntV_get {len i : Nat} (h : i < len) (D : List Ev) : (cntV len D)[i]? = some (.int .i64 ((D.countP fun e => e.1 == i + 1 : Nat) : Int)) := by
  unfold cntV
  rw [List.getElem?_map, List.getElem?_range h]; rfl
theorem cntV_len (len : Nat) (D : List Ev) : (cntV len D).length = len := by unfold cntV; simp
theorem cntV_zero (len : Nat) (D : List Ev) (ch : List F4) : cntV len (D ++ [(0, ch)]) = cntV len D := by
  unfold cntV
  refine List.map_congr_left fun i _ => ?_
  rw [List.countP_append, List.countP_singleton]
  simp
theorem cntV_succ {len m : Nat} (h : m < len) (D : List Ev) (ch : List F4) : (cntV len D).set m (.int .i64 ((D.countP (fun e => e.1 == m + 1) + 1 : Nat) : Int)) = cntV len (D ++ [(m + 1, ch)]) := by
  refine List.ext_getElem? fun i => ?_
  by_cases hi : i < len
  · rw [cntV_get hi, List.countP_append, List.countP_singleton]
    by_cases e : m = i
    · subst e
      rw [List.getElem?_set_self (by rw [cntV_len]; exact h)]
      simp
    · rw [List.getElem?_set_ne e, cntV_get hi]
      simp [e]
  · rw [List.getElem?_eq_none (by rw [List.length_set, cntV_len]; omega), List.getElem?_eq_none (by rw [cntV_len]; omega)]
/-- What the closure of Joins keeps. -/
structure JoI (len q g : Nat) (D : List Ev) (F : Nat → Prop) (w : World) : Prop where
  bq : Blk w q 49 #[.slice (some ⟨g, 0, none⟩) len len]
  bg : Blk w g 3 (cntV len D).toArray
  f : ∀ b, F b ↔ b = g
  ne : q ≠ g
set_option maxHeartbeats 4000000 in
theorem joinClo_any {len q g : Nat} {D : List Ev} {F : Nat → Prop} (w : World) (h : JoI len q g D F w) (e : Ev) (hlen : len ≤ 1000) (hn : e.1 ≤ len) (hc : D.countP (fun x => x.1 == e.1) ≤ 5000) (iv bv : Value) :
    Calls Try.prog 39 #[.agg #[.int .i64 (e.1 : Int), iv, bv], .pointer (some ⟨q, 0, none⟩)] w fun o w' => ∃ F', o = .returned (.bool true) ∧ JoI len q g (D ++ [e]) F' w' ∧ (∀ b, F' b → F b ∨ w.heap.size ≤ b) ∧ Kept F w w' := by
  have HI := Lib.hid h
  obtain ⟨n, ch⟩ := e
  simp only at hn hc ⊢
  have q0 := h.bq.cell 0
  have hq := h.bq.lt
  have hg := h.bg.lt
  simp at q0
  rcases n with _ | m
  · have hz : decide (((0 : Nat) : Int) > 0) = false := by decide
    clear h
    go_enter Try.func39, Try.ntmps39
    go_wp2_with fail
    go_ret
    have kA := (Kept.refl Nil w).alloc (.cells #[.int .i64 ((0 : Nat) : Int), iv, bv] 85)
    refine ⟨F, rfl, ⟨HI.out.bq.kept kA (fun e => e), ?_, HI.out.f, HI.out.ne⟩, fun b hb => .inl hb, kA.mono (fun _ _ e => e.elim)⟩
    rw [cntV_zero]
    exact HI.out.bg.kept kA (fun e => e)
  · obtain ⟨N, hN⟩ : ∃ N, m + 1 = N := ⟨_, rfl⟩
    rw [hN] at hc hn
    have hml : m < len := by omega
    obtain ⟨c, hcc⟩ : ∃ c, (D.countP fun x => x.1 == N) = c := ⟨_, rfl⟩
    rw [hcc] at hc
    have g0 : w.cell? ⟨g, m, none⟩ = some (.int .i64 (c : Int)) := by
      rw [h.bg.cell, List.getElem?_toArray, cntV_get hml, hN, hcc]
    have gz := h.bg.frozen m
    have s1 : IntKind.i64.wrap ((N : Int) - 1) = (m : Int) := by rw [IntKind.wrap_i64]; omega
    have s2 : IntKind.i64.wrap ((c : Int) + 1) = ((c + 1 : Nat) : Int) := by rw [IntKind.wrap_i64]; omega
    have hpos : (0 : Int) < (N : Int) := by omega
    have HS := Lib.hid (cntV_succ hml D ch)
    rw [hN, hcc] at HS
    have HN := Lib.hid hN
    rw [hN]
    clear h hN hcc
    go_enter Try.func39, Try.ntmps39
    go_wp2_with fail
    go_ret
    have kA : Kept (fun b => b = g) w ((w.setCell ⟨g, m, none⟩ (.int .i64 ((c : Int) + 1))).alloc (.cells #[.int .i64 (N : Int), iv, bv] 85)) := ((Kept.refl (fun b => b = g) w).setCell ⟨g, m, none⟩ (.inl rfl) _).alloc _
    have bA := (HI.out.bg.set_ m (.int .i64 ((c : Int) + 1))).alloc (.cells #[.int .i64 (N : Int), iv, bv] 85)
    refine ⟨F, rfl, ⟨HI.out.bq.kept kA HI.out.ne, ?_, HI.out.f, HI.out.ne⟩, fun b hb => .inl hb, kA.mono (fun i _ e => (HI.out.f i).2 e)⟩
    rw [← HS.out]
    have e1 : (cntV len D).toArray.setIfInBounds m (.int .i64 ((c : Int) + 1)) = ((cntV len D).set m (.int .i64 ((c + 1 : Nat) : Int))).toArray := by rw [List.setIfInBounds_toArray]; rfl
    rw [e1] at bA
    exact bA
theorem ev_count {fs : List F4} {l : List St} (hg : ∀ x ∈ l, kindS x) {k : Nat} (hk : k ≤ l.length) : (evL fs l 0 []).countP (fun e => e.1 == k) = (smL fs (l.take k) []).length := by
  rw [← ev_take l hg k 0 [] hk, List.length_map, List.countP_eq_length_filter, Nat.zero_add]
set_option maxHeartbeats 4000000 in
theorem joinsOK : JoinsOK := by
  intro fs hfs h12 l hok hl16 hcost fa fn fc a cap w hF hH
  obtain ⟨len, hl⟩ : ∃ len, l.length = len := ⟨_, rfl⟩
  rw [hl] at hH ⊢
  have hg : ∀ x ∈ l, x.goodS := fun x hx => (hok x hx).1
  have hkd : ∀ x ∈ l, kindS x := fun x hx => (hg x hx).kind
  have hfn : fn ≤ 12 := by rw [← hF.1]; exact h12
  have CRt := Lib.hid (rightP_any l hok a len cap hl (by omega) w hH)
  have hcn : cntL l ≤ 1000 := by have := cntL_okS hok; omega
  have hcnt : ∀ k, k ≤ len → (evL fs l 0 []).countP (fun e => e.1 == k) ≤ 5000 := fun k hk => by
    rw [ev_count hkd (by omega)]
    have h1 := (sm_len fs).2 (l.take k) []
    have h2 := pow_le_of fs.length (posSL_take l k)
    omega
  have CM : Hid (∀ w1, Kept Nil w w1 → Calls Try.prog 38 #[.slice fa fn fc, .slice a len cap, .slice none 0 0, .func (.func 39) #[] #[.pointer (some ⟨w1.heap.size + 1, 0, none⟩)]] ((w1.alloc (.cells (cntV len []).toArray 3)).alloc (.cells #[.slice (some ⟨w1.heap.size, 0, none⟩) len len] 49)) fun e w' => e = .returned (.tuple #[]) ∧ ∃ F', JoI len (w1.heap.size + 1) w1.heap.size (upto (fun _ => true) (evL fs l 0 [])) F' w' ∧ (∀ b, F' b → b = w1.heap.size ∨ _ ≤ b) ∧ Kept (fun b => b = w1.heap.size) _ w') := Lib.hid fun w1 k1 => by
    have kA : Kept Nil w1 ((w1.alloc (.cells (cntV len []).toArray 3)).alloc (.cells #[.slice (some ⟨w1.heap.size, 0, none⟩) len len] 49)) := ((Kept.refl Nil w1).alloc _).alloc _
    have hsz : ((w1.alloc (.cells (cntV len []).toArray 3)).alloc (.cells #[.slice (some ⟨w1.heap.size, 0, none⟩) len len] 49)).heap.size = w1.heap.size + 1 + 1 := by simp
    have b1 : Blk ((w1.alloc (.cells (cntV len []).toArray 3)).alloc (.cells #[.slice (some ⟨w1.heap.size, 0, none⟩) len len] 49)) w1.heap.size 3 (cntV len []).toArray := (Blk.new w1 _ _).alloc _
    have b2 : Blk ((w1.alloc (.cells (cntV len []).toArray 3)).alloc (.cells #[.slice (some ⟨w1.heap.size, 0, none⟩) len len] 49)) (w1.heap.size + 1) 49 #[.slice (some ⟨w1.heap.size, 0, none⟩) len len] := blk_at (by simp)
    refine beg_any (W0 := w) (b0 := []) (I := JoI len (w1.heap.size + 1) w1.heap.size) (more := fun _ => true) (F0 := fun b => b = w1.heap.size) _ (k1.trans kA (fun _ _ e => e)) hl hg (fun x hx _ => (goes_all fs (by omega)).2 l hg x hx) hF hH ⟨rfl, .inl rfl⟩ (.inr rfl) (Nat.le_refl _) (by omega) (by omega)
      ⟨enter_of (by rfl) (by decide) (by kernel_rfl), fun D F v hI b hb => ⟨by rw [(hI.f b).1 hb]; exact k1.size, by rw [(hI.f b).1 hb]; exact hI.bg.lt⟩, fun D F v v' G hI kG hG => ⟨hI.bq.kept kG (fun e => by have := (hG _ e).1; rw [hsz] at this; omega), hI.bg.kept kG (fun e => (hG _ e).2 ((hI.f _).2 rfl)), hI.f, hI.ne⟩, fun D e F v ia ni ic ba nb bc hI hE _ _ _ _ _ => ?_⟩ ⟨b2, b1, fun _ => Iff.rfl, by omega⟩
    obtain ⟨r, hr⟩ := hE
    have he : e ∈ evL fs l 0 [] := by rw [hr]; simp
    have hn := (ev_ge l 0 [] e he).2
    have hc := hcnt e.1 (by omega)
    rw [hr, List.countP_append] at hc
    exact joinClo_any v hI e (by omega) (by omega) (by omega) _ _
  have HU := Lib.hid (upto_all (more := fun _ => true) (E := evL fs l 0 []) (fun _ _ => rfl))
  have HJ : Hid (cntV len (evL fs l 0 []) = (joinsL fs l).flatMap cN) := Lib.hid (by
    unfold cntV joinsL
    rw [hl, List.flatMap_map]
    rw [← List.flatMap_singleton' (List.map _ _)]
    rw [List.flatMap_map]
    refine flatMap_congr' fun i hi => ?_
    rw [ev_count hkd (by have := List.mem_range.1 hi; omega)]
    rfl)
  have mk : ∀ u : World, (Instr.makeSlice 49 (.int .i64 (len : Int)) (.int .i64 (len : Int))).run Try.prog u = .ok (.slice (some ⟨u.heap.size, 0, none⟩) len len) (u.alloc (.cells (cntV len []).toArray 3)) := by
    intro u
    obtain ⟨i0, hi, hz0, hz1, hz2⟩ := info_parts infoI1
    have r := run_make (P := Try.prog) u 49 3 i0 (.int .i64 0) Try.underlying49 hi hz0 .i64 .i64 (len : Int) (len : Int) (by omega) (Int.le_refl _) (by rw [hz2]; omega) (by omega)
    have e1 : madeCells (Value.int .i64 0).cells ((len : Int).toNat * i0.size) = (cntV len []).toArray := by
      rw [hz1, Int.toNat_natCast, Nat.mul_one]
      unfold madeCells cntV
      refine Array.ext (by simp) fun i h1 h2 => ?_
      simp [Value.cells]
      rw [Nat.mod_one]; rfl
    rw [e1] at r
    simpa using r
  have HLn := Lib.hid (show (joinsL fs l).length = len from by unfold joinsL; rw [List.length_map, List.length_range, hl])
  have hl1000 : len ≤ 1000 := by omega
  clear hF hH hok hg hkd hcnt hcost hfs h12
  go_enter Try.func21, Try.ntmps21
  go_wp2_with fail
  refine CRt.out.mono ?_
  rintro e w1 ⟨rfl, k1⟩
  have K1 := Lib.hid k1
  have CM1 := Lib.hid (CM.out w1 k1)
  clear k1 CM CRt
  go_wp2_with fail
  refine CM1.out.mono ?_
  rintro e w2 ⟨rfl, F', hP, hF', k2⟩
  rw [HU.out] at hP
  have c0 := hP.bq.cell 0
  have hbw := hP.bq.lt
  simp at c0
  have hg0 := hP.bg
  have H2 := Lib.hid (And.intro hg0 k2)
  clear hP hF' k2 hg0 CM1
  go_wp2_with fail
  go_ret
  refine ⟨_, _, rfl, ⟨HLn.out, .inr ⟨w1.heap.size, 0, rfl, H2.out.1.lt, fun j x i v hj hi => ?_⟩⟩, (K1.out.trans (((Kept.refl Nil w1).alloc _).alloc _) (fun _ _ e => e)).trans H2.out.2 (fun i hi e => ?_)⟩
  · have hi0 : i = 0 := by have := (List.getElem?_eq_some_iff.1 hi).1; simp [cN] at this; omega
    subst hi0
    rw [H2.out.1.cell, List.getElem?_toArray, HJ.out]
    have := flat_get (size := 1) cN_len (joinsL fs l) j 0 x hj (by decide)
    rw [Nat.mul_one, Nat.add_zero] at this
    rw [Nat.zero_add, Nat.mul_one, Nat.add_zero, this]
    exact hi
  · have := K1.out.size
    omega
end Go.Proofs.Ytmpoeibkndcnnaa
