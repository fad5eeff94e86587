/- Layer scope: the law's own Fine: what it tells of is right, and few. – What comes into layer cond's laws, opened: a condition, whatever depth. – What comes into layer scope's laws, opened: conditions. – PlainNone: the walk, given the program's Partial. – Layer plain, plain mathematics: matches step by step; one fact more. No program. – Layer plain: a part of a slice of steps. No program. -/
import Derived.Test.YtiihjlafhiaigaaA16
import Derived.Test.YtiihjlafhiaigaaA15
import Derived.Test.YtiihjlafhiaigaaA1
import Derived.OpenShut
import Derived.ShutString
import Derived.Carry
import Derived.Deep.Strs
import Derived.Test.YtiihjlafhiaigaaA18
import Derived.Test.YtiihjlafhiaigaaA8
import Derived.Test.YtiihjlafhiaigaaA11
namespace Go.Proofs.Ytiihjlafhiaigaa
section
open Go.RowKit
set_option maxRecDepth 100000

/-- A bool; where it is true, something holds. -/
def YesEnd (T : Prop) (w : World) (e : Ending) (w' : World) : Prop := ∃ b : Bool, e = .returned (.bool b) ∧ Kept Nil w w' ∧ (b = true → T)
set_option maxHeartbeats 2000000 in
theorem fineL_any (l : List Sh) (ok : Nat → Nat → Prop) (a : Option Addr) (cap : Nat) (w : World) (h : Holds cA w ok (.slice a l.length cap) l) (hok : ∀ b o, ok b o → b < w.heap.size) :
    Calls Try.prog 25 #[.slice a l.length cap] w (YesEnd (countL l ≤ 16 ∧ chkL l 1 = 0) w) := by
  have CS : Hid (∀ w', Kept Nil w w' → Calls Try.prog 45 #[vA zeroH (.slice a l.length cap), .int .i64 18] w' fun e w'' => ∃ b : Bool, e = .returned (.bool b) ∧ Kept Nil w' w'' ∧ (b = true → 1 + countL l ≤ 18)) := Lib.hid fun w' k => by
    have := smallM_any 18 (by omega) (.mk zeroH l) ok a cap w' (h.keptN k) (fun b o hb => Nat.lt_of_lt_of_le (hok b o hb) k.size)
    refine this.mono ?_
    rintro e w'' ⟨b, h1, h2, h3⟩
    exact ⟨b, h1, h2, fun hb => by have := h3 hb; simpa only [Sh.count] using this⟩
  have CR : Hid (∀ w', Kept Nil w w' → countL l ≤ 5000 → Calls Try.prog 27 #[.slice a l.length cap] w' (ListEnd l w')) := Lib.hid fun w' k hc => refL_any l hc ok a cap w' (h.keptN k)
  obtain ⟨len, hlen⟩ : ∃ n, l.length = n := ⟨_, rfl⟩
  have HL := Lib.hid hlen
  rw [hlen] at CS CR ⊢
  clear h hok hlen
  go_enter Try.func25, Try.ntmps25
  go_wp2_with fail
  refine (CS.out _ (Kept.refl _ _)).mono ?_
  rintro e w1 ⟨b, rfl, k1, hb⟩
  have K1 := Lib.hid k1
  have HB := Lib.hid hb
  clear k1 hb CS
  cases b
  · go_wp2_with fail
    go_ret
    exact ⟨false, rfl, K1.out, fun h => by cases h⟩
  · have HCn : Hid (countL l ≤ 17) := Lib.hid (by have := HB.out rfl; omega)
    go_wp2_with fail
    refine (CR.out _ K1.out (by have := HCn.out; omega)).mono ?_
    rintro e w2 ⟨a2, c2, rfl, h2, k2⟩
    have K2 := Lib.hid (K1.out.trans k2 (fun _ _ g => g))
    have H2 := Lib.hid h2
    rw [HL.out] at H2 ⊢
    have hLen : len ≤ 17 := by have := length_countL l; have := HCn.out; have := HL.out; omega
    clear k2 h2 CR HB
    go_wp2_with fail
    go_loopw [3, 13] (fun n i wr => ∃ j m : Nat, j ≤ len ∧ i = .int .i64 j ∧ n = .int .i64 m ∧ m = countL (l.take j) ∧ chkL (l.take j) 1 = 0 ∧ Kept Nil w2 wr) (fun _ i _ => len - (intOf i).toNat)
    case atStart => exact ⟨0, 0, by omega, rfl, rfl, by rw [List.take_zero]; rfl, by rw [List.take_zero]; rfl, Kept.refl _ _⟩
    case round =>
      obtain ⟨j, m, hj, rfl, rfl, hm, hk, hK⟩ := hrel
      have HK := Lib.hid hK
      have HM := Lib.hid hm
      have HCk := Lib.hid hk
      clear hK hm hk
      by_cases hlt : j < len
      · obtain ⟨⟨⟨k', x0', x1', x2', n0', n1', n2'⟩, sb⟩, hx⟩ : ∃ x, l[j]? = some x := ⟨_, List.getElem?_eq_getElem (by have := HL.out; omega)⟩
        obtain ⟨b, o, a', cap', rfl, hok, hr, hs⟩ := (H2.out.keptN HK.out).at_ hx
        have hm5 : (Sh.mk ⟨k', x0', x1', x2', n0', n1', n2'⟩ sb).count ≤ 5000 := mem_count (Nat.le_trans HCn.out (show 17 ≤ 5000 by decide)) (List.mem_of_getElem? hx)
        have hsum := countL_take_succ hx
        have hle := countL_take_le l (j + 1)
        have HX1 : Hid (∀ W, Kept Nil wr W → Calls Try.prog 46 #[vR ⟨k', x0', x1', x2', n0', n1', n2'⟩ (.slice a' sb.length cap'), .int .i64 1] W fun e w' => e = .returned (.int .i64 ((Sh.mk ⟨k', x0', x1', x2', n0', n1', n2'⟩ sb).chk 1)) ∧ Kept Nil W w') := Lib.hid fun W kW => refCheck_any _ hm5 _ a' cap' W 1 (by omega) (hs.keptN kW)
        have HX2 : Hid (∀ W, Kept Nil wr W → Calls Try.prog 47 #[vR ⟨k', x0', x1', x2', n0', n1', n2'⟩ (.slice a' sb.length cap')] W fun e w' => e = .returned (.int .i64 ((Sh.mk ⟨k', x0', x1', x2', n0', n1', n2'⟩ sb).count : Int)) ∧ Kept Nil W w') := Lib.hid fun W kW => refSize_any _ hm5 _ a' cap' W (hs.keptN kW)
        have HRng := Lib.hid hr
        have h16 : m + (Sh.mk ⟨k', x0', x1', x2', n0', n1', n2'⟩ sb).count ≤ 17 := by have := HCn.out; have := HM.out; omega
        have HS : Hid (m + (Sh.mk ⟨k', x0', x1', x2', n0', n1', n2'⟩ sb).count = countL (l.take (j + 1))) := Lib.hid (by rw [HM.out, hsum])
        have HCk1 : Hid ((Sh.mk ⟨k', x0', x1', x2', n0', n1', n2'⟩ sb).chk 1 = 0 → chkL (l.take (j + 1)) 1 = 0) := Lib.hid fun h0 => chkL_all.2 fun s hs' => by
          rw [List.take_add_one, hx] at hs'
          rcases List.mem_append.1 hs' with hs' | hs'
          · exact chkL_all.1 HCk.out s hs'
          · simp at hs'; subst hs'; exact h0
        generalize (Sh.mk ⟨k', x0', x1', x2', n0', n1', n2'⟩ sb).count = c at HX2 HS h16
        generalize (Sh.mk ⟨k', x0', x1', x2', n0', n1', n2'⟩ sb).chk 1 = q at HX1 HCk1
        generalize sb.length = len' at HX1 HX2 HRng
        clear hx hr hs hok hm5 hsum hle
        have hw : IntKind.i64.wrap ((m : Int) + (c : Int)) = ((m + c : Nat) : Int) := by rw [IntKind.wrap_i64]; omega
        go_wp2_with ((with_reducible refine wpList_load_R rfl (.tmp 15) rfl _ _ rfl ⟨k', x0', x1', x2', n0', n1', n2'⟩ (.slice a' len' cap') ?_ ?_)
                     · exact HRng.out)
        have KA := Lib.hid ((Kept.refl Nil wr).alloc (.cells (arrR ⟨k', x0', x1', x2', n0', n1', n2'⟩ (.slice a' len' cap')) 77))
        refine (HX1.out _ KA.out).mono ?_
        rintro e w3 ⟨rfl, k3⟩
        have K3 := Lib.hid (KA.out.trans k3 (fun _ _ g => g))
        have B3 := Lib.hid ((Blk.new wr 77 (arrR ⟨k', x0', x1', x2', n0', n1', n2'⟩ (.slice a' len' cap'))).kept k3 id)
        clear k3 KA
        by_cases hq : q = 0
        · subst hq
          have HCk2 := Lib.hid (HCk1.out rfl)
          go_wp2_with ((with_reducible refine wpList_load_R rfl (.tmp 5) rfl _ _ rfl ⟨k', x0', x1', x2', n0', n1', n2'⟩ (.slice a' len' cap') ?_ ?_)
                       · exact World.rangeAt_of_block B3.out 0 8)
          refine (HX2.out _ K3.out).mono ?_
          rintro e w4 ⟨rfl, k4⟩
          have K4 := Lib.hid (HK.out.trans (K3.out.trans k4 (fun _ _ g => g)) (fun _ _ g => g))
          clear k4
          go_wp2_with fail
          go_roundw
          case rel => exact ⟨j + 1, m + c, by omega, by go_num, by go_num, HS.out, HCk2.out, K4.out⟩
          case measure => simp [intOf]; omega
        · have hq' : (q != 0) = true := by simpa using hq
          clear hq
          go_wp2_with fail
          go_ret
          exact ⟨false, rfl, K2.out.trans (HK.out.trans K3.out (fun _ _ g => g)) (fun _ _ g => g), fun h => by cases h⟩
      · obtain rfl : j = len := by omega
        have HE : Hid (l.take j = l) := Lib.hid (by rw [← HL.out]; simp)
        go_wp2_with fail
        go_ret
        refine ⟨decide ((m : Int) ≤ 16), rfl, K2.out.trans HK.out (fun _ _ g => g), fun h => ?_⟩
        have h1 := HM.out
        have h2 := HCk.out
        rw [HE.out] at h1 h2
        exact ⟨by have := of_decide_eq_true h; omega, h2⟩
end
section
open Go.RowKit Go.ChangeShapes Go.WideShapes Go.ChangeAt Go.Deep
set_option maxRecDepth 100000

theorem own : ownKnob Try.prog.godebug = none := by kernel_rfl
theorem laidOut : laidOutB Try.prog = true := by kernel_rfl
theorem cellsInt : Try.prog.cellsOf 3 = 1 := by kernel_rfl
section
variable {H : Type} {enc : TypeId × Value → H}
theorem cellsL : Try.prog.cellsOf 70 = 6 := by kernel_rfl
theorem cellsTm : Try.prog.cellsOf 69 = 2 := by kernel_rfl
theorem cellsCd : Try.prog.cellsOf 72 = 8 := by kernel_rfl
theorem cellsSl : Try.prog.cellsOf 22 = 1 := by kernel_rfl
theorem open_Tm {W : World} {b0 n : Nat} {sp : Nat → Bool} {held : Bool} {x y : Value} {d : DataW H × List MemPlace} (h : DataW.trod enc Try.prog W b0 sp held n 69 [x, y] = some d) :
    ∃ v k, x = .bool v ∧ y = .int .i64 k := by
  obtain ⟨y0, y1, m, _, _, h0, h1⟩ := trod_struct2 Try.underlying69 h
  have c1 : Try.prog.cellsOf 4 = 1 := by kernel_rfl
  have h0' : DataW.trod enc Try.prog W b0 sp held m 4 [x] = some y0 := by
    have := h0
    rw [c1] at this
    exact this
  have h1' : DataW.trod enc Try.prog W b0 sp held m 3 [y] = some y1 := by
    have := h1
    rw [cellsInt] at this
    exact this
  obtain ⟨v, e0, _⟩ := DataW.trod_bool Try.underlying4 h0'
  obtain ⟨k, e1, _⟩ := DataW.trod_int Try.underlying3 h1'
  simp at e0 e1
  exact ⟨v, k, e0, e1⟩
theorem open_terms {W : World} {b0 n : Nat} {sp : Nat → Bool} {held : Bool} {c1 c2 c3 c4 c5 c6 : Value} {d : DataW H × List MemPlace} (hf : DataW.trod enc Try.prog W b0 sp held n 70 [c1, c2, c3, c4, c5, c6] = some d) :
    ∃ x0 x1 x2 n0 n1 n2, [c1, c2, c3, c4, c5, c6] = [Value.bool x0, .int .i64 n0, .bool x1, .int .i64 n1, .bool x2, .int .i64 n2] := by
  obtain ⟨xs, m, _, _, _, hlen, hat⟩ := DataW.trod_array Try.underlying70 hf
  rw [cellsTm] at hat
  match xs, hlen with
  | [y0, y1, y2], _ =>
    obtain ⟨x0, n0, rfl, rfl⟩ := open_Tm (hat 0 (by decide))
    obtain ⟨x1, n1, rfl, rfl⟩ := open_Tm (hat 1 (by decide))
    obtain ⟨x2, n2, rfl, rfl⟩ := open_Tm (hat 2 (by decide))
    exact ⟨x0, x1, x2, n0, n1, n2, rfl⟩
theorem list8 {α : Type} (l : List α) (h : l.length = 8) : ∃ a b c d e f g i, l = [a, b, c, d, e, f, g, i] := by
  match l, h with
  | [a, b, c, d, e, f, g, i], _ => exact ⟨a, b, c, d, e, f, g, i, rfl⟩
theorem open_cond {W : World} {sp : Nat → Bool} {held : Bool} : ∀ (fuel : Nat) (cs : List Value) (x : DataW H × List MemPlace), DataW.trod enc Try.prog W 0 sp held fuel 72 cs = some x →
    ∃ hd a cap subs, cs = cA hd (.slice a subs.length cap) ∧ Holds cA W (fun b _ => b < W.heap.size) (.slice a subs.length cap) subs := by
  intro fuel
  induction fuel using Nat.strongRecOn with
  | ind fuel ih =>
    intro cs x h
    obtain ⟨xs, n, hn, _, hlen, hxl, hf⟩ := DataW.trod_struct Try.underlying72 h
    rw [cellsCd] at hlen
    obtain ⟨c0, c1, c2, c3, c4, c5, c6, c7, rfl⟩ := list8 cs hlen
    have hxl' : xs.length = 3 := hxl
    match xs, hxl' with
    | [y0, y1, y2], _ =>
      have f0 := hf 0 _ rfl
      have f1 := hf 1 _ rfl
      have f2 := hf 2 _ rfl
      have f0' : DataW.trod enc Try.prog W 0 sp held n 3 [c0] = some y0 := by
        have := f0
        change DataW.trod enc Try.prog W 0 sp held n 3 (List.take (Try.prog.cellsOf 3) [c0, c1, c2, c3, c4, c5, c6, c7]) = some y0 at this
        rw [cellsInt] at this
        exact this
      have f1' : DataW.trod enc Try.prog W 0 sp held n 70 [c1, c2, c3, c4, c5, c6] = some y1 := by
        have := f1
        change DataW.trod enc Try.prog W 0 sp held n 70 (List.take (Try.prog.cellsOf 70) [c1, c2, c3, c4, c5, c6, c7]) = some y1 at this
        rw [cellsL] at this
        exact this
      have f2' : DataW.trod enc Try.prog W 0 sp held n 22 [c7] = some y2 := by
        have := f2
        change DataW.trod enc Try.prog W 0 sp held n 22 (List.take (Try.prog.cellsOf 22) [c7]) = some y2 at this
        rw [cellsSl] at this
        exact this
      clear f0 f1 f2 hf
      obtain ⟨k, e0, _⟩ := DataW.trod_int Try.underlying3 f0'
      simp at e0
      subst e0
      obtain ⟨x0, x1, x2, n0, n1, n2, e1⟩ := open_terms f1'
      simp at e1
      obtain ⟨rfl, rfl, rfl, rfl, rfl, rfl⟩ := e1
      rcases DataW.trod_slice Try.underlying22 f2' with ⟨e2, _⟩ | ⟨a, len, cap, elems, rest, n', hn', e2, _, _, hlc, _, hel, hat, _⟩
      · simp at e2
        subst e2
        exact ⟨⟨k, x0, x1, x2, n0, n1, n2⟩, none, 0, [], rfl, .nil none 0⟩
      · simp at e2
        subst e2
        rw [cellsCd] at hat
        have each : ∀ i, i < len → ∃ q : Hd × List Sh × Option Addr × Nat, (∀ j v, (cA q.1 (.slice q.2.2.1 q.2.1.length q.2.2.2))[j]? = some v → W.cell? ((a.add (i * 8)).add j) = some v) ∧ Holds cA W (fun b _ => b < W.heap.size) (.slice q.2.2.1 q.2.1.length q.2.2.2) q.2.1 := by
          intro i hi
          have h1 := hat i hi
          rw [List.getElem?_eq_getElem (by omega)] at h1
          obtain ⟨cs', h2, h3⟩ := Option.bind_eq_some_iff.1 h1
          obtain ⟨hd, a', cap', subs, rfl, hs⟩ := ih n' (by omega) cs' _ h3
          obtain ⟨_, _, hc⟩ := World.cells?_some h2
          refine ⟨⟨hd, subs, a', cap'⟩, fun j v hj => ?_, hs⟩
          rw [hc j (by have := (List.getElem?_eq_some_iff.1 hj).1; simpa using this)]
          exact hj
        haveI : Inhabited (Hd × List Sh × Option Addr × Nat) := ⟨⟨⟨0, false, false, false, 0, 0, 0⟩, [], none, 0⟩⟩
        obtain ⟨q, hq⟩ := choose_lt each
        rcases Nat.eq_zero_or_pos len with rfl | hpos
        · exact ⟨⟨k, x0, x1, x2, n0, n1, n2⟩, some a, cap, [], rfl, .nil _ _⟩
        · obtain ⟨b, o, spot⟩ := a
          have c00 := (hq 0 hpos).1 0 _ rfl
          have hspot : spot = none := by simpa [Addr.add] using World.cell?_spot c00
          subst hspot
          have hb : b < W.heap.size := by
            have := World.block_lt_of_cell? W _ c00
            simpa [Addr.add] using this
          have hl : ((List.range len).map fun i => Sh.mk (q i).1 (q i).2.1).length = len := by simp
          refine ⟨⟨k, x0, x1, x2, n0, n1, n2⟩, some ⟨b, o, none⟩, cap, (List.range len).map fun i => Sh.mk (q i).1 (q i).2.1, by rw [hl], ?_⟩
          refine .row b o cap _ (fun i => .slice (q i).2.2.1 (q i).2.1.length (q i).2.2.2) (by rw [hl]; exact hlc) hb (fun i x hi => ?_) (fun i x hi => ?_)
          · have hil : i < len := by have := (List.getElem?_eq_some_iff.1 hi).1; rwa [hl] at this
            simp [hil] at hi
            subst hi
            intro j v hj
            have := (hq i hil).1 j v hj
            rw [Addr.add_mid, Addr.add_mid] at this
            exact this
          · have hil : i < len := by have := (List.getElem?_eq_some_iff.1 hi).1; rwa [hl] at this
            simp [hil] at hi
            subst hi
            exact (hq i hil).2
theorem open_C {W : World} {base : Nat} {sp : Nat → Bool} {held : Bool} {v : Value} {d : DataW H} {p : List MemPlace} (hv : Value.okWide Try.prog W .any base 72 v) (h : DataW.Trod enc Try.prog W 0 sp held 72 v d p) :
    ∃ s a cap, v = vA (Sh.hd s) (.slice a s.subs.length cap) ∧ Holds cA W (fun b _ => b < W.heap.size) (.slice a s.subs.length cap) s.subs := by
  obtain ⟨cs, rfl, _⟩ := okWide_struct Try.underlying72 hv
  obtain ⟨fuel, hf⟩ := h
  obtain ⟨hd, a, cap, subs, e, hs⟩ := open_cond fuel _ _ hf
  obtain ⟨l⟩ := cs
  refine ⟨.mk hd subs, a, cap, ?_, hs⟩
  have e' : l = cA hd (.slice a subs.length cap) := e
  rw [e']
  rfl
end
end
section
open Go.RowKit Go.ChangeShapes Go.WideShapes Go.ChangeAt Go.Deep
set_option maxRecDepth 100000

section
variable {H : Type} {enc : TypeId × Value → H}
theorem open_conds {W : World} {sp : Nat → Bool} {held : Bool} (fuel : Nat) (c : Value) (x : DataW H × List MemPlace) (h : DataW.trod enc Try.prog W 0 sp held fuel 22 [c] = some x) :
    ∃ a cap l, c = .slice a (List.length l) cap ∧ (l.length ≤ cap ∧ cap ≤ maxLen) ∧ Holds cA W (fun b _ => b < W.heap.size) (.slice a l.length cap) l := by
  rcases DataW.trod_slice Try.underlying22 h with ⟨e2, _⟩ | ⟨a, len, cap, elems, rest, n', _, e2, _, _, hlc, hcm, hel, hat, _⟩
  · simp at e2
    subst e2
    exact ⟨none, 0, [], rfl, ⟨Nat.le_refl _, Nat.zero_le _⟩, .nil none 0⟩
  · simp at e2
    subst e2
    rw [cellsCd] at hat
    have each : ∀ i, i < len → ∃ q : Hd × List Sh × Option Addr × Nat, (∀ j v, (cA q.1 (.slice q.2.2.1 q.2.1.length q.2.2.2))[j]? = some v → W.cell? ((a.add (i * 8)).add j) = some v) ∧ Holds cA W (fun b _ => b < W.heap.size) (.slice q.2.2.1 q.2.1.length q.2.2.2) q.2.1 := by
      intro i hi
      have h1 := hat i hi
      rw [List.getElem?_eq_getElem (by omega)] at h1
      obtain ⟨cs', h2, h3⟩ := Option.bind_eq_some_iff.1 h1
      obtain ⟨hd, a', cap', subs, rfl, hs⟩ := open_cond n' cs' _ h3
      obtain ⟨_, _, hc⟩ := World.cells?_some h2
      refine ⟨⟨hd, subs, a', cap'⟩, fun j v hj => ?_, hs⟩
      rw [hc j (by have := (List.getElem?_eq_some_iff.1 hj).1; simpa using this)]
      exact hj
    haveI : Inhabited (Hd × List Sh × Option Addr × Nat) := ⟨⟨⟨0, false, false, false, 0, 0, 0⟩, [], none, 0⟩⟩
    obtain ⟨q, hq⟩ := choose_lt each
    rcases Nat.eq_zero_or_pos len with rfl | hpos
    · exact ⟨some a, cap, [], rfl, ⟨Nat.zero_le _, hcm⟩, .nil _ _⟩
    · obtain ⟨b, o, spot⟩ := a
      have c00 := (hq 0 hpos).1 0 _ rfl
      have hspot : spot = none := by simpa [Addr.add] using World.cell?_spot c00
      subst hspot
      have hb : b < W.heap.size := by
        have := World.block_lt_of_cell? W _ c00
        simpa [Addr.add] using this
      have hl : ((List.range len).map fun i => Sh.mk (q i).1 (q i).2.1).length = len := by simp
      refine ⟨some ⟨b, o, none⟩, cap, (List.range len).map fun i => Sh.mk (q i).1 (q i).2.1, by rw [hl], ⟨by rw [hl]; exact hlc, hcm⟩, ?_⟩
      refine .row b o cap _ (fun i => .slice (q i).2.2.1 (q i).2.1.length (q i).2.2.2) (by rw [hl]; exact hlc) hb (fun i x hi => ?_) (fun i x hi => ?_)
      · have hil : i < len := by have := (List.getElem?_eq_some_iff.1 hi).1; rwa [hl] at this
        simp [hil] at hi
        subst hi
        intro j v hj
        have := (hq i hil).1 j v hj
        rw [Addr.add_mid, Addr.add_mid] at this
        exact this
      · have hil : i < len := by have := (List.getElem?_eq_some_iff.1 hi).1; rwa [hl] at this
        simp [hil] at hi
        subst hi
        exact (hq i hil).2
theorem open_S {W : World} {base : Nat} {sp : Nat → Bool} {held : Bool} {v : Value} {d : DataW H} {p : List MemPlace} (hv : Value.okWide Try.prog W .any base 22 v) (h : DataW.Trod enc Try.prog W 0 sp held 22 v d p) :
    ∃ l a cap, v = .slice a (List.length l) cap ∧ Holds cA W (fun b _ => b < W.heap.size) (.slice a l.length cap) l := by
  obtain ⟨a0, n0, c0, rfl⟩ := okWide_slice Try.underlying22 hv
  obtain ⟨fuel, hf⟩ := h
  obtain ⟨a, cap, l, e, _, hh⟩ := open_conds fuel (.slice a0 n0 c0) _ (by simpa [Value.cells] using hf)
  exact ⟨l, a, cap, e, hh⟩
end
end
section
open Go.RowKit
set_option maxRecDepth 100000

theorem sm_none (c : St) (K : List F4 → List (List Int)) (ch : List F4) : (c.hd.k = 1 → c.sm [] K ch = []) ∧ (c.hd.k = 2 → c.sm [] K ch = K ch) ∧ (c.sm [] K ch = [] ∨ c.sm [] K ch = K ch) := by
  obtain ⟨h, subs⟩ := c
  rw [sm_mk]
  refine ⟨fun h1 => ?_, fun h2 => ?_, ?_⟩
  · rw [if_pos (show h.k = 1 from h1)]; rfl
  · have h2' : h.k = 2 := h2
    rw [if_neg (by omega), if_neg (by simp), if_neg (by omega)]
  · by_cases h1 : h.k = 1
    · rw [if_pos h1]; exact .inl rfl
    · rw [if_neg h1, if_neg (by simp)]
      split
      · exact .inl rfl
      · exact .inr rfl
theorem smL_none : ∀ (l : List St) ch, ((∃ c ∈ l, c.hd.k = 1) → smL [] l ch = []) ∧ ((∀ c ∈ l, c.hd.k = 2) → smL [] l ch = [ch.map Prod.fst]) ∧ (smL [] l ch = [] ∨ smL [] l ch = [ch.map Prod.fst])
  | [], ch => by rw [smL_nil]; exact ⟨fun ⟨c, hc, _⟩ => (by cases hc), fun _ => rfl, Or.inr rfl⟩
  | c :: r, ch => by
    obtain ⟨i1, i2, i3⟩ := smL_none r ch
    obtain ⟨j1, j2, j3⟩ := sm_none c (smL [] r) ch
    rw [smL_cons]
    refine ⟨fun ⟨d, hd, h1⟩ => ?_, fun h => ?_, ?_⟩
    · rcases List.mem_cons.1 hd with rfl | hd
      · exact j1 h1
      · rcases j3 with e | e
        · exact e
        · rw [e]; exact i1 ⟨d, hd, h1⟩
    · rw [j2 (h c List.mem_cons_self)]
      exact i2 fun d hd => h d (List.mem_cons_of_mem _ hd)
    · rcases j3 with e | e
      · exact .inl e
      · rw [e]; exact i3
theorem st_k (c : Sh) (ch : List Sh) : (c.st ch).hd.k = c.hd.k := by
  obtain ⟨h, subs⟩ := c
  rw [st_mk]
  split <;> rfl
theorem beqd (k n : Int) : (k == n) = decide (k = n) := by by_cases h : k = n <;> simp [h]
set_option maxHeartbeats 8000000 in
theorem plainNone_of (hP : PartialOK) (hA : AwakeOK) (l : List Sh) (a : Option Addr) (cap : Nat) (w : World) (h : Holds cA w (fun b _ => b < w.heap.size) (.slice a l.length cap) l) :
    Calls Try.prog 8 #[.slice a l.length cap] w fun e w' => e = .returned (.bool true) ∧ Kept Nil w w' := by
  have HA := Lib.hid hA
  have HP := Lib.hid hP
  have CF := Lib.hid (fineL_any l _ a cap w h (fun _ _ h => h))
  unfold YesEnd at CF
  have CR : Hid (∀ w', Kept Nil w w' → countL l ≤ 16 → Calls Try.prog 27 #[.slice a l.length cap] w' (ListEnd l w')) := Lib.hid fun w' k hc => refL_any l (by omega) _ a cap w' (h.keptN k)
  unfold ListEnd at CR
  have HO := Lib.hid h
  obtain ⟨len, hlen⟩ : ∃ len, l.length = len := ⟨_, rfl⟩
  rw [hlen] at CF CR HO ⊢
  have HL := Lib.hid hlen
  clear h hP hA hlen
  go_enter Try.func8, Try.ntmps8
  go_wp2_with fail
  refine CF.out.mono ?_
  rintro e w1 ⟨b, rfl, k1, hb⟩
  have K1 := Lib.hid k1
  have HB := Lib.hid hb
  clear k1 hb CF
  cases b
  · go_wp2_with fail
    refine (HA.out _).mono ?_
    rintro e w3 ⟨rfl, k3⟩
    go_wp2_with fail
    go_ret
    exact ⟨rfl, K1.out.trans k3 (fun _ _ g => g)⟩
  have HG := Lib.hid (HB.out rfl)
  clear HB
  have hl16 : len ≤ 16 := by have := length_countL l; have := HG.out.1; have := HL.out; omega
  go_wp2_with fail
  go_loopw [3, 4, 14] (fun p n i wr => ∃ j : Nat, j ≤ len ∧ i = .int .i64 j ∧ p = .bool ((l.take j).any fun c => decide (c.hd.k = 1)) ∧ n = .bool ((l.take j).all fun c => decide (c.hd.k = 2)) ∧ Kept Nil w wr) (fun _ _ i _ => len - (intOf i).toNat)
  case atStart => exact ⟨0, by omega, rfl, rfl, rfl, K1.out⟩
  case round =>
    obtain ⟨j, hj, rfl, rfl, rfl, hK⟩ := hrel
    have HK := Lib.hid hK
    clear hK
    by_cases hlt : j < len
    · obtain ⟨⟨⟨k, x0, x1, x2, n0, n1, n2⟩, sb⟩, hx⟩ : ∃ x, l[j]? = some x := ⟨_, List.getElem?_eq_getElem (by have := HL.out; omega)⟩
      obtain ⟨b, o, a', cap', rfl, hb, hr, _⟩ := (HO.out.keptN HK.out).at_ hx
      have p0 := hr 0 _ rfl
      have p1 := hr 1 _ rfl
      have p2 := hr 2 _ rfl
      have p3 := hr 3 _ rfl
      have p4 := hr 4 _ rfl
      have p5 := hr 5 _ rfl
      have p6 := hr 6 _ rfl
      have p7 := hr 7 _ rfl
      simp only [Nat.add_zero] at p0 p1 p2 p3 p4 p5 p6 p7
      have HT : Hid (l.take (j + 1) = l.take j ++ [.mk ⟨k, x0, x1, x2, n0, n1, n2⟩ sb]) := Lib.hid (by rw [List.take_add_one, hx]; rfl)
      have hbr : b < wr.heap.size := Nat.lt_of_lt_of_le hb HK.out.size
      have KA := Lib.hid (HK.out.trans ((Kept.refl Nil wr).alloc (.cells #[.int .i64 k, .bool x0, .int .i64 n0, .bool x1, .int .i64 n1, .bool x2, .int .i64 n2, .slice a' sb.length cap'] 72)) (fun _ _ e => e))
      have BA := Lib.hid (Blk.new wr 72 #[.int .i64 k, .bool x0, .int .i64 n0, .bool x1, .int .i64 n1, .bool x2, .int .i64 n2, .slice a' sb.length cap'])
      have HP1 : Hid ((l.take (j + 1)).any (fun c => decide (c.hd.k = 1)) = ((l.take j).any (fun c => decide (c.hd.k = 1)) || decide (k = 1))) := Lib.hid (by rw [HT.out, List.any_append]; simp only [List.any_cons, List.any_nil, Bool.or_false]; rfl)
      have HN1 : Hid ((l.take (j + 1)).all (fun c => decide (c.hd.k = 2)) = ((l.take j).all (fun c => decide (c.hd.k = 2)) && decide (k = 2))) := Lib.hid (by rw [HT.out, List.all_append]; simp only [List.all_cons, List.all_nil, Bool.and_true]; rfl)
      generalize (l.take j).any (fun c => decide (c.hd.k = 1)) = pp at *
      generalize (l.take j).all (fun c => decide (c.hd.k = 2)) = nn at *
      generalize sb.length = sn at *
      clear hx hr HT
      cases pp
      · cases nn
        · go_wp2_with fail
          go_roundw
          case rel => exact ⟨j + 1, by omega, by go_num, by rw [HP1.out, Bool.false_or, beqd], by rw [HN1.out, Bool.false_and], KA.out⟩
          case measure => simp [intOf]; omega
        · go_wp2_with fail
          go_roundw
          case rel => exact ⟨j + 1, by omega, by go_num, by rw [HP1.out, Bool.false_or, beqd], by rw [HN1.out, Bool.true_and, beqd], KA.out⟩
          case measure => simp [intOf]; omega
      · cases nn
        · go_wp2_with fail
          go_roundw
          case rel => exact ⟨j + 1, by omega, by go_num, by rw [HP1.out, Bool.true_or], by rw [HN1.out, Bool.false_and], KA.out⟩
          case measure => simp [intOf]; omega
        · go_wp2_with fail
          go_roundw
          case rel => exact ⟨j + 1, by omega, by go_num, by rw [HP1.out, Bool.true_or], by rw [HN1.out, Bool.true_and, beqd], KA.out⟩
          case measure => simp [intOf]; omega
    · obtain rfl : j = len := by omega
      have HTk : Hid (l.take j = l) := Lib.hid (by rw [← HL.out]; exact List.take_length)
      rw [HTk.out]
      have HGood : Hid (∀ x ∈ l, x.good) := Lib.hid fun x hx => chk_good x 1 (chkL_all.1 HG.out.2 x hx)
      have HSt := Lib.hid ((st_good.2 l HGood.out []))
      have CO : Hid (∀ W ok a cap, Holds cR W ok (.slice a j cap) l → Calls Try.prog 15 #[.slice a j cap] W fun e w' => ∃ a cap, e = .returned (.slice a j cap) ∧ SHolds w' (okM W.heap.size w') (.slice a j cap) (stL l []) ∧ Kept Nil W w') := Lib.hid fun W ok a cap hh => by
        have := refCompile_of of_all l ⟨HG.out.1, HG.out.2⟩ ok a cap W (by rw [HL.out]; exact hh)
        unfold StsEnd at this
        rw [stL_length, HL.out] at this
        exact this
      have HSL : Hid ((stL l []).length = j) := Lib.hid (by rw [stL_length]; exact HL.out)
      have CS : Hid (∀ W ok a cap, SHolds W ok (.slice a j cap) (stL l []) → Calls Try.prog 14 #[.slice a j cap] W fun e w' => ∃ a cap, e = .returned (.slice a j cap) ∧ SHolds w' (okM W.heap.size w') (.slice a j cap) (stL l []) ∧ Kept Nil W w') := Lib.hid fun W ok a cap hh => by
        have := steps_any (stL l []) (by have := st_mass.2 l []; have := HG.out.1; omega) ok a cap W (by rw [HSL.out]; exact hh)
        unfold StsEnd at this
        rw [HSL.out] at this
        exact this
      have CP : Hid (∀ W a cap, SHolds W Any2 (.slice a j cap) (stL l []) → Calls Try.prog 13 #[.slice none 0 0, .slice a j cap] W fun e w' => ∃ a' n' c', e = .returned (.slice a' n' c') ∧ LNew w' W.heap.size a' n' (smL [] (stL l []) []) ∧ Kept Nil W w') := Lib.hid fun W a cap hh => by
        have := HP.out [] (fun f hf => by cases hf) (by decide) (stL l []) (stL_okS HG.out.1 HG.out.2) (by rw [HSL.out]; exact hl16) (by simp) none 0 0 a cap W ⟨rfl, .inl rfl⟩ (by rw [HSL.out]; exact hh)
        rw [HSL.out] at this
        exact this
      obtain ⟨m1, m2, m3⟩ := smL_none (stL l []) []
      have HM1 : Hid ((l.any fun c => decide (c.hd.k = 1)) = true → smL [] (stL l []) [] = [] ∧ (l.all fun c => decide (c.hd.k = 2)) = false) := Lib.hid fun h => by
        obtain ⟨c, hc, hk⟩ := List.any_eq_true.1 h
        have hk := of_decide_eq_true hk
        obtain ⟨i, hi, e⟩ := List.mem_iff_getElem.1 hc
        have := stL_get l [] i c (by rw [List.getElem?_eq_getElem hi, e])
        refine ⟨m1 ⟨_, List.mem_of_getElem? this, by rw [st_k]; exact hk⟩, ?_⟩
        rw [List.all_eq_false]
        exact ⟨c, hc, by simp; omega⟩
      have HM2 : Hid ((l.all fun c => decide (c.hd.k = 2)) = true → smL [] (stL l []) [] = [[]]) := Lib.hid fun h => m2 fun c hc => by
        obtain ⟨i, hi, e⟩ := List.mem_iff_getElem.1 hc
        have hi' := hi
        rw [stL_length] at hi'
        have := stL_get l [] i l[i] (List.getElem?_eq_getElem hi')
        rw [List.getElem?_eq_getElem hi, e] at this
        rw [Option.some.inj this, st_k]
        exact of_decide_eq_true (List.all_eq_true.1 h _ (List.getElem_mem hi'))
      have HM3 : Hid (smL [] (stL l []) [] = [] ∨ smL [] (stL l []) [] = [[]]) := Lib.hid m3
      clear m1 m2 m3 HSt HGood HTk HO
      generalize (l.any fun c => decide (c.hd.k = 1)) = pp at *
      generalize (l.all fun c => decide (c.hd.k = 2)) = nn at *
      generalize hM : smL [] (stL l []) [] = M at *
      clear hM
      go_wp2_with fail
      refine (CR.out _ HK.out HG.out.1).mono ?_
      rintro e w3 ⟨a3, c3, rfl, h3, k3⟩
      have K3 := Lib.hid (HK.out.trans k3 (fun _ _ g => g))
      have H3 := Lib.hid h3
      clear k3 h3 CR HK
      go_wp2_with fail
      refine (CO.out _ _ _ _ H3.out).mono ?_
      rintro e w4 ⟨a4, c4, rfl, h4, k4⟩
      have K4 := Lib.hid (K3.out.trans k4 (fun _ _ g => g))
      have H4 := Lib.hid h4
      clear k4 h4 CO H3 K3
      go_wp2_with fail
      refine (CS.out _ _ _ _ H4.out).mono ?_
      rintro e w5 ⟨a5, c5, rfl, h5, k5⟩
      have K5 := Lib.hid (K4.out.trans k5 (fun _ _ g => g))
      have H5 := Lib.hid (h5.mono (ok' := Any2) (fun _ _ _ => trivial))
      clear k5 h5 CS H4 K4
      go_wp2_with fail
      refine (CP.out _ _ _ H5.out).mono ?_
      rintro e w6 ⟨a6, n6, c6, rfl, h6, k6⟩
      have K6 := Lib.hid (K5.out.trans k6 (fun _ _ g => g))
      have H6 := Lib.hid h6.toLIn
      clear k6 h6 CP H5 K5
      cases pp
      · cases nn
        · rcases HM3.out with rfl | rfl
          · obtain rfl : 0 = n6 := H6.out.1
            go_wp2_with fail
            refine (HA.out _).mono ?_
            rintro e w7 ⟨rfl, k7⟩
            go_wp2_with fail
            go_ret
            exact ⟨rfl, K6.out.trans k7 (fun _ _ g => g)⟩
          · obtain rfl : 1 = n6 := H6.out.1
            go_wp2_with fail
            refine (HA.out _).mono ?_
            rintro e w7 ⟨rfl, k7⟩
            go_wp2_with fail
            go_ret
            exact ⟨rfl, K6.out.trans k7 (fun _ _ g => g)⟩
        · obtain rfl := HM2.out rfl
          obtain rfl : 1 = n6 := H6.out.1
          obtain ⟨b, o, a', n', c', rfl, hb, hc, hi⟩ := H6.out.at_ (j := 0) (l := []) rfl
          obtain rfl : 0 = n' := hi.1
          rw [Nat.add_zero] at hc
          clear hi
          go_wp2_with fail
          refine (HA.out _).mono ?_
          rintro e w7 ⟨rfl, k7⟩
          go_wp2_with fail
          go_ret
          exact ⟨rfl, K6.out.trans k7 (fun _ _ g => g)⟩
      · obtain ⟨rfl, rfl⟩ := HM1.out rfl
        obtain rfl : 0 = n6 := H6.out.1
        go_wp2_with fail
        refine (HA.out _).mono ?_
        rintro e w7 ⟨rfl, k7⟩
        go_wp2_with fail
        go_ret
        exact ⟨rfl, K6.out.trans k7 (fun _ _ g => g)⟩
end
section
open Go.RowKit
set_option maxRecDepth 100000

/-- What of a match stands ahead of its last fact, behind a Pos; else all of it. -/
def preJ (p : Bool) (n : List Int) : List Int := if p then n.take (n.length - 1) else n
/-- The matches N come, in their order, from the matches W: of each one, or (behind a Pos) as many as there are. -/
inductive Emb (p : Bool) : List (List Int) → List (List Int) → Prop
  | nil (W) : Emb p W []
  | take {w n W N} (hn : p = true → n ≠ []) (e : preJ p n = w) (h : Emb p (if p then w :: W else W) N) : Emb p (w :: W) (n :: N)
  | skip {w W N} (h : Emb p W N) : Emb p (w :: W) N
theorem Emb.tail {p : Bool} {W N : List (List Int)} {n : List Int} (h : Emb p W (n :: N)) : Emb p W N := by
  generalize hM : n :: N = M at h
  induction h with
  | nil W => cases hM
  | @take w n' W N' hn e h ih =>
    cases hM
    cases p
    · exact .skip h
    · exact h
  | skip h ih => exact .skip (ih hM)
theorem Emb.none {p : Bool} {N : List (List Int)} {n : List Int} : ¬ Emb p [] (n :: N) := by intro h; cases h
/-- Where the next is not from here, all are from behind. -/
theorem Emb.next {p : Bool} {w : List Int} {W N : List (List Int)} {n : List Int} (h : Emb p (w :: W) (n :: N)) (hn : preJ p n ≠ w) : Emb p W (n :: N) := by
  cases h with
  | take _ e _ => exact absurd e hn
  | skip h => exact h
/-- Where it is, the others are from here on, or from behind. -/
theorem Emb.got {p : Bool} {w : List Int} {W N : List (List Int)} {n : List Int} (h : Emb p (w :: W) (n :: N)) : Emb p (if p then w :: W else W) N := by
  cases h with
  | take _ _ h => exact h
  | skip h =>
    cases p
    · exact h.tail
    · exact .skip h.tail
theorem Emb.nonempty {p : Bool} {W N : List (List Int)} (h : Emb p W N) : p = true → ∀ n ∈ N, n ≠ [] := by
  induction h with
  | nil W => intro _ n hn; cases hn
  | take hn e h ih =>
    intro hp n' hn'
    rcases List.mem_cons.1 hn' with rfl | hn'
    · exact hn hp
    · exact ih hp n' hn'
  | skip h ih => exact ih
theorem Emb.front {p : Bool} : ∀ {V W N : List (List Int)}, Emb p W N → Emb p (V ++ W) N
  | [], _, _, h => h
  | _ :: V, _, _, h => .skip (Emb.front (V := V) h)
theorem Emb.append {p : Bool} {W N W' N' : List (List Int)} (h : Emb p W N) (h' : Emb p W' N') : Emb p (W ++ W') (N ++ N') := by
  induction h with
  | nil W => exact h'.front
  | @take w n W N hn e h ih =>
    refine .take hn e ?_
    cases p
    · exact ih
    · exact ih
  | skip h ih => exact .skip ih
theorem Emb.flat {p : Bool} {α : Type} {f g : α → List (List Int)} (h : ∀ x, Emb p (f x) (g x)) : ∀ l : List α, Emb p (l.flatMap f) (l.flatMap g)
  | [] => .nil _
  | x :: r => by rw [List.flatMap_cons, List.flatMap_cons]; exact (h x).append (Emb.flat h r)
theorem sm_emb (fs : List F4) {p : Bool} (c : St) {K K' : List F4 → List (List Int)} (h : ∀ ch, Emb p (K ch) (K' ch)) (ch : List F4) : Emb p (c.sm fs K ch) (c.sm fs K' ch) := by
  obtain ⟨hd, subs⟩ := c
  rw [sm_mk, sm_mk]
  by_cases h1 : hd.k = 1
  · rw [if_pos h1, if_pos h1]
    refine Emb.flat (fun f => ?_) fs
    split
    · exact h _
    · exact .nil _
  · rw [if_neg h1, if_neg h1]
    split
    · exact .nil _
    · split
      · exact .nil _
      · exact h ch
theorem emb_all {w : List Int} : ∀ N : List (List Int), (∀ n ∈ N, n ≠ [] ∧ preJ true n = w) → Emb true [w] N
  | [], _ => .nil _
  | n :: N, h => .take (fun _ => (h n List.mem_cons_self).1) (h n List.mem_cons_self).2 (emb_all N fun m hm => h m (List.mem_cons_of_mem _ hm))
/-- The matches up to a step come from those ahead of it. -/
theorem smL_emb (fs : List F4) (s : St) : ∀ (a : List St) (ch : List F4), Emb (decide (s.hd.k = 1)) (smL fs a ch) (smL fs (a ++ [s]) ch)
  | [], ch => by
    rw [smL_nil, List.nil_append, smL_cons]
    obtain ⟨hd, subs⟩ := s
    show Emb (decide (hd.k = 1)) _ _
    rw [sm_mk]
    by_cases h1 : hd.k = 1
    · rw [if_pos h1, decide_eq_true h1]
      refine emb_all _ fun n hn => ?_
      obtain ⟨f, _, hn⟩ := List.mem_flatMap.1 hn
      split at hn
      · rw [smL_nil] at hn
        rw [List.mem_singleton.1 hn]
        refine ⟨by simp, ?_⟩
        unfold preJ
        rw [if_pos rfl]
        simp
      · cases hn
    · rw [if_neg h1, decide_eq_false h1]
      split
      · exact .nil _
      · split
        · exact .nil _
        · rw [smL_nil]
          refine .take (fun h => by cases h) rfl ?_
          exact .nil _
  | c :: r, ch => by
    rw [List.cons_append, smL_cons, smL_cons]
    exact sm_emb fs c (fun ch => smL_emb fs s r ch) ch
/-- Of Pos alone: of one fact more, those without it are those that were. -/
theorem smL_more (fs : List F4) (f : F4) (hf : ∀ g ∈ fs, g.1 ≠ f.1) : ∀ (l : List St), (∀ c ∈ l, c.hd.k = 1) → ∀ ch : List F4, (smL (fs ++ [f]) l ch).filter (fun m => !(m.contains f.1)) = if (ch.map Prod.fst).contains f.1 then [] else smL fs l ch
  | [], _, ch => by
    rw [smL_nil, smL_nil]
    cases h : (ch.map Prod.fst).contains f.1
    · rw [List.filter_cons_of_pos (by rw [h]; rfl)]; rfl
    · rw [List.filter_cons_of_neg (by rw [h]; decide)]; rfl
  | .mk hd subs :: r, h, ch => by
    have h1 : hd.k = 1 := h (.mk hd subs) List.mem_cons_self
    have ih := smL_more fs f hf r (fun c hc => h c (List.mem_cons_of_mem _ hc))
    rw [smL_cons, smL_cons, sm_mk, sm_mk, if_pos h1, if_pos h1, List.flatMap_append, List.filter_append, List.filter_flatMap]
    have e2 : (List.flatMap (fun g => if meetH hd (ch.map Prod.snd) g.2 = true then smL (fs ++ [f]) r (ch ++ [g]) else []) [f]).filter (fun m => !(m.contains f.1)) = [] := by
      rw [List.flatMap_cons, List.flatMap_nil, List.append_nil]
      split
      · rw [ih, if_pos (by simp)]
      · rfl
    rw [e2, List.append_nil]
    cases hc : (ch.map Prod.fst).contains f.1
    · rw [if_neg (by decide)]
      refine flatMap_congr' fun g hg => ?_
      split
      · rw [ih, if_neg]
        rw [List.map_append, List.contains_eq_any_beq, List.any_append]
        rw [List.contains_eq_any_beq] at hc
        rw [hc]
        simp only [List.map_cons, List.map_nil, List.any_cons, List.any_nil, Bool.or_false, Bool.false_or, beq_iff_eq]
        exact fun e => hf g hg e.symm
      · rfl
    · rw [if_pos rfl]
      refine List.flatMap_eq_nil_iff.2 fun g hg => ?_
      split
      · rw [ih, if_pos]
        rw [List.map_append, List.contains_eq_any_beq, List.any_append]
        rw [List.contains_eq_any_beq] at hc
        rw [hc]; rfl
      · rfl
end
section
open Go.RowKit
set_option maxRecDepth 100000

theorem SHolds.take {w : World} {b o n cap : Nat} {x : List St} (h : SHolds w Any2 (.slice (some ⟨b, o, none⟩) n cap) x) {m : Nat} (hm : m ≤ n) : SHolds w Any2 (.slice (some ⟨b, o, none⟩) m cap) (x.take m) := by
  have hnx := h.fits
  generalize e : Value.slice (some ⟨b, o, none⟩) n cap = v at h
  cases h with
  | nil a' cap' =>
    cases e
    obtain rfl : m = 0 := by omega
    exact .nil _ _
  | row b' o' cap' _ t u hn hok hr ht hs =>
    cases e
    have hl : (x.take m).length = m := by rw [List.length_take]; omega
    have hg : ∀ (i : Nat) y, (x.take m)[i]? = some y → x[i]? = some y := fun i y hi => by
      have hlt := (List.getElem?_eq_some_iff.1 hi).1
      rw [List.getElem?_take_of_lt (by omega)] at hi
      exact hi
    have := SHolds.row (w := w) (ok := Any2) b o cap (x.take m) t u (by omega) trivial (fun i y hi => hr i y (hg i y hi)) (fun i y hi => ht i y (hg i y hi)) (fun i y hi => hs i y (hg i y hi))
    rw [hl] at this
    exact this
theorem SHolds.drop {w : World} {b o n cap : Nat} {x : List St} (h : SHolds w Any2 (.slice (some ⟨b, o, none⟩) n cap) x) {m : Nat} (hm : m < n) : SHolds w Any2 (.slice (some ⟨b, o + m * 6, none⟩) (n - m) (cap - m)) (x.drop m) := by
  have hnx := h.fits
  generalize e : Value.slice (some ⟨b, o, none⟩) n cap = v at h
  cases h with
  | nil a' cap' => cases e; omega
  | row b' o' cap' _ t u hn hok hr ht hs =>
    cases e
    have hl : (x.drop m).length = x.length - m := List.length_drop
    have hg : ∀ (i : Nat) y, (x.drop m)[i]? = some y → x[m + i]? = some y := fun i y hi => by
      rw [List.getElem?_drop] at hi; exact hi
    have := SHolds.row (w := w) (ok := Any2) b (o + m * 6) (cap - m) (x.drop m) (fun i => t (m + i)) (fun i => u (m + i)) (by omega) trivial (fun i y hi => ?_) (fun i y hi => ht (m + i) y (hg i y hi)) (fun i y hi => hs (m + i) y (hg i y hi))
    · rw [hl] at this
      exact this
    · have := hr (m + i) y (hg i y hi)
      rwa [Nat.add_mul, ← Nat.add_assoc] at this
end
end Go.Proofs.Ytiihjlafhiaigaa
