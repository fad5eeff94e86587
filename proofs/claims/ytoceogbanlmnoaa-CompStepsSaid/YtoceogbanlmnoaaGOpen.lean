/- What comes into layer comp's laws, opened: a step, whatever depth, with its reach. -/
import Derived.Test.YtoceogbanlmnoaaCOpen
import Derived.Test.YtoceogbanlmnoaaGA
import Derived.SizedLaws
namespace Go.Proofs.Ytoceogbanlmnoaa
open Go.RowKit Go.ChangeShapes Go.WideShapes Go.ChangeAt Go.Deep
set_option maxRecDepth 100000

section
variable {H : Type} {enc : TypeId × Value → H}
/-- Of what hangs on a datum, nothing is longer than a form's own reach. -/
def Sized (P : Program) (t : TypeId) (d : DataW H) : Prop := ∀ n ∈ d.weights P t, n ≤ reachBytes
theorem Sized.part {P : Program} {t t' : TypeId} {fs : Array Field} {parts : List (DataW H)} (hu : P.underlying t = some (.struct fs)) (h : Sized P t (.agg parts)) {j : Nat} {d : DataW H} (ht : (fs.toList.map (·.type))[j]? = some t') (hd : parts[j]? = some d) : Sized P t' d :=
  fun n hn => h n (by simp only [DataW.weights, hu]; exact DataW.weights_mem_each ht hd n hn)
theorem weightsAll_mem {P : Program} {e : TypeId} : ∀ {l : List (DataW H)} {d : DataW H}, d ∈ l → ∀ n ∈ d.weights P e, n ∈ DataW.weightsAll P e l
  | [], _, hd, _, _ => by cases hd
  | x :: r, d, hd, n, hn => by
    simp only [DataW.weightsAll, List.mem_append]
    rcases List.mem_cons.1 hd with rfl | hd
    · exact .inl hn
    · exact .inr (weightsAll_mem hd n hn)
theorem Sized.elem {P : Program} {t e : TypeId} {elems spare : List (DataW H)} (hu : P.underlying t = some (.slice e)) (h : Sized P t (.slice elems spare)) : (elems.length + spare.length) * P.bytesOf e ≤ reachBytes ∧ ∀ d ∈ elems, Sized P e d :=
  ⟨h _ (by simp only [DataW.weights, hu]; exact List.mem_cons_self), fun d hd n hn => h n (by simp only [DataW.weights, hu]; exact List.mem_cons_of_mem _ (List.mem_append_left _ (weightsAll_mem hd n hn)))⟩
/-- A slice opened: its elements' cells in a row, each opened by R. -/
theorem open_rows {Q : Type} [Inhabited Q] {W : World} {sp : Nat → Bool} {held : Bool} {t e : TypeId} {sz : Nat} (hu : Try.prog.underlying t = some (.slice e)) (hc : Try.prog.cellsOf e = sz) (hz : 0 < sz) (R : List Value → Q → Prop) {fuel : Nat} {c : Value} {x : DataW H × List MemPlace} (h : DataW.trod enc Try.prog W 0 sp held fuel t [c] = some x) (hs : Sized Try.prog t x.1)
    (el : ∀ n, n < fuel → ∀ cs x, DataW.trod enc Try.prog W 0 sp held n e cs = some x → Sized Try.prog e x.1 → ∃ q, R cs q) :
    ∃ a len cap, c = .slice a len cap ∧ len ≤ cap ∧ len * Try.prog.bytesOf e ≤ reachBytes ∧ (len = 0 ∨ ∃ (b o : Nat) (q : Nat → Q), a = some ⟨b, o, none⟩ ∧ b < W.heap.size ∧ ∀ i, i < len → ∃ cs, R cs (q i) ∧ W.rangeAt b (o + i * sz) cs) := by
  rcases DataW.trod_slice hu h with ⟨e2, _⟩ | ⟨a, len, cap, elems, rest, n', hn', e2, ex, _, hlc, _, hel, hat, _⟩
  · simp at e2
    subst e2
    exact ⟨none, 0, 0, rfl, Nat.le_refl _, by simp, .inl rfl⟩
  · simp at e2
    subst e2
    rw [ex] at hs
    obtain ⟨hb, hall⟩ := hs.elem hu
    rw [hc] at hat
    have each : ∀ i, i < len → ∃ q : Q × List Value, R q.2 q.1 ∧ q.2.length = sz ∧ ∀ j v, q.2[j]? = some v → W.cell? ((a.add (i * sz)).add j) = some v := by
      intro i hi
      have h1 := hat i hi
      have hel' : elems[i]? = some elems[i] := List.getElem?_eq_getElem (by omega)
      rw [hel'] at h1
      obtain ⟨cs', h2, h3⟩ := Option.bind_eq_some_iff.1 h1
      obtain ⟨q, hq⟩ := el n' (by omega) cs' _ h3 (hall _ (List.mem_map_of_mem (List.mem_of_getElem? hel')))
      obtain ⟨_, hl, hcc⟩ := World.cells?_some h2
      refine ⟨⟨q, cs'⟩, hq, hl, fun j v hj => ?_⟩
      have hj' : cs'[j]? = some v := hj
      rw [hcc j (by have := (List.getElem?_eq_some_iff.1 hj').1; omega)]
      exact hj
    obtain ⟨q, hq⟩ := choose_lt each
    have hlb : len * Try.prog.bytesOf e ≤ reachBytes := Nat.le_trans (Nat.mul_le_mul (by simp; omega) (Nat.le_refl _)) hb
    rcases Nat.eq_zero_or_pos len with rfl | hpos
    · exact ⟨some a, 0, cap, rfl, hlc, hlb, .inl rfl⟩
    · obtain ⟨b, o, spot⟩ := a
      obtain ⟨_, hl0, hq0⟩ := hq 0 hpos
      have c00 := hq0 0 _ (List.getElem?_eq_getElem (by omega))
      have hspot : spot = none := by simpa [Addr.add] using World.cell?_spot c00
      subst hspot
      refine ⟨some ⟨b, o, none⟩, len, cap, rfl, hlc, hlb, .inr ⟨b, o, fun i => (q i).1, rfl, ?_, fun i hi => ⟨(q i).2, (hq i hi).1, fun j v hj => ?_⟩⟩⟩
      · have := World.block_lt_of_cell? W _ c00
        simpa [Addr.add] using this
      · have := (hq i hi).2.2 j v hj
        rw [Addr.add_mid, Addr.add_mid] at this
        exact this
theorem cellsTs : Try.prog.cellsOf 74 = 3 := by kernel_rfl
theorem bytesTs : Try.prog.bytesOf 74 = 24 := by kernel_rfl
theorem cellsSt : Try.prog.cellsOf 42 = 6 := by kernel_rfl
theorem cellsT3 : Try.prog.cellsOf 39 = 3 := by kernel_rfl
theorem cellsTsl : Try.prog.cellsOf 40 = 1 := by kernel_rfl
theorem cellsStl : Try.prog.cellsOf 30 = 1 := by kernel_rfl
theorem open_int {W : World} {sp : Nat → Bool} {held : Bool} {n : Nat} {c : Value} {x : DataW H × List MemPlace} (h : DataW.trod enc Try.prog W 0 sp held n 3 [c] = some x) : ∃ k, c = .int .i64 k := by
  obtain ⟨k, e, _⟩ := DataW.trod_int Try.underlying3 h
  simp at e
  exact ⟨k, e⟩
theorem open_test {W : World} {sp : Nat → Bool} {held : Bool} {n : Nat} {cs : List Value} {x : DataW H × List MemPlace} (h : DataW.trod enc Try.prog W 0 sp held n 74 cs = some x) : ∃ t : Tst, cs = cT t := by
  obtain ⟨y0, y1, y2, m, _, hl, h0, h1, h2⟩ := trod_struct3 Try.underlying74 h
  rw [cellsTs] at hl
  match cs, hl with
  | [c0, c1, c2], _ =>
    change DataW.trod enc Try.prog W 0 sp held m 3 (List.take (Try.prog.cellsOf 3) [c0, c1, c2]) = some y0 at h0
    change DataW.trod enc Try.prog W 0 sp held m 3 (List.take (Try.prog.cellsOf 3) [c1, c2]) = some y1 at h1
    change DataW.trod enc Try.prog W 0 sp held m 3 (List.take (Try.prog.cellsOf 3) [c2]) = some y2 at h2
    rw [cellsInt] at h0 h1 h2
    obtain ⟨a, rfl⟩ := open_int h0
    obtain ⟨b, rfl⟩ := open_int h1
    obtain ⟨c, rfl⟩ := open_int h2
    exact ⟨(a, b, c), rfl⟩
theorem open_key {W : World} {sp : Nat → Bool} {held : Bool} {n : Nat} {c1 c2 c3 : Value} {x : DataW H × List MemPlace} (h : DataW.trod enc Try.prog W 0 sp held n 39 [c1, c2, c3] = some x) : ∃ k0 k1 k2, [c1, c2, c3] = [.int .i64 k0, .int .i64 k1, .int .i64 k2] := by
  obtain ⟨xs, m, _, _, _, hlen, hat⟩ := DataW.trod_array Try.underlying39 h
  rw [cellsInt] at hat
  match xs, hlen with
  | [y0, y1, y2], _ =>
    obtain ⟨k0, rfl⟩ := open_int (hat 0 (by decide))
    obtain ⟨k1, rfl⟩ := open_int (hat 1 (by decide))
    obtain ⟨k2, rfl⟩ := open_int (hat 2 (by decide))
    exact ⟨k0, k1, k2, rfl⟩
theorem list6 {α : Type} (l : List α) (h : l.length = 6) : ∃ a b c d e f, l = [a, b, c, d, e, f] := by
  match l, h with
  | [a, b, c, d, e, f], _ => exact ⟨a, b, c, d, e, f, rfl⟩
abbrev StepOpen (W : World) (cs : List Value) (q : SH × List St × (Option Addr × Nat) × Option Addr × Nat) : Prop :=
  cs = cS q.1 (.slice q.2.2.1.1 q.1.ts.length q.2.2.1.2) (.slice q.2.2.2.1 q.2.1.length q.2.2.2.2) ∧ TsAt W (fun b _ => b < W.heap.size) (.slice q.2.2.1.1 q.1.ts.length q.2.2.1.2) q.1.ts ∧ SHolds W (fun b _ => b < W.heap.size) (.slice q.2.2.2.1 q.2.1.length q.2.2.2.2) q.2.1 ∧ (St.mk q.1 q.2.1).wide
theorem open_tests {W : World} {sp : Nat → Bool} {held : Bool} {n : Nat} {c : Value} {x : DataW H × List MemPlace} (h : DataW.trod enc Try.prog W 0 sp held n 40 [c] = some x) (hs : Sized Try.prog 40 x.1) :
    ∃ a cap ts, c = .slice a (List.length ts) cap ∧ TsAt W (fun b _ => b < W.heap.size) (.slice a ts.length cap) ts ∧ ts.length ≤ 140737488355328 := by
  obtain ⟨a, len, cap, rfl, hlc, hb, hr⟩ := open_rows (Q := Tst) Try.underlying40 cellsTs (by decide) (fun cs t => cs = cT t) h hs (fun n _ cs x hx _ => open_test hx)
  rw [bytesTs] at hb
  have hb' : len * 24 ≤ 140737488351232 := hb
  rcases hr with rfl | ⟨b, o, q, rfl, hlt, hq⟩
  · exact ⟨a, cap, [], rfl, .nil _ _, by simp⟩
  · have hl : ((List.range len).map q).length = len := by simp
    refine ⟨some ⟨b, o, none⟩, cap, (List.range len).map q, by rw [hl], ?_, by rw [hl]; omega⟩
    refine .row b o cap _ (by rw [hl]; exact hlc) hlt fun i t hi => ?_
    have hil : i < len := by have := (List.getElem?_eq_some_iff.1 hi).1; rwa [hl] at this
    simp [hil] at hi
    subst hi
    obtain ⟨cs, rfl, hr⟩ := hq i hil
    exact hr
instance : Inhabited SH := ⟨⟨0, 0, 0, 0, []⟩⟩
theorem open_step {W : World} {sp : Nat → Bool} {held : Bool} : ∀ (fuel : Nat) (cs : List Value) (x : DataW H × List MemPlace), DataW.trod enc Try.prog W 0 sp held fuel 42 cs = some x → Sized Try.prog 42 x.1 → ∃ q, StepOpen W cs q := by
  intro fuel
  induction fuel using Nat.strongRecOn with
  | ind fuel ih =>
    intro cs x h hz
    obtain ⟨xs, n, hn, ex, hlen, hxl, hf⟩ := DataW.trod_struct Try.underlying42 h
    rw [cellsSt] at hlen
    obtain ⟨c0, c1, c2, c3, c4, c5, rfl⟩ := list6 cs hlen
    have hxl' : xs.length = 4 := hxl
    match xs, hxl' with
    | [y0, y1, y2, y3], _ =>
      have f0 := hf 0 _ rfl
      have f1 := hf 1 _ rfl
      have f2 := hf 2 _ rfl
      have f3 := hf 3 _ rfl
      change DataW.trod enc Try.prog W 0 sp held n 3 (List.take (Try.prog.cellsOf 3) [c0, c1, c2, c3, c4, c5]) = some y0 at f0
      change DataW.trod enc Try.prog W 0 sp held n 39 (List.take (Try.prog.cellsOf 39) [c1, c2, c3, c4, c5]) = some y1 at f1
      change DataW.trod enc Try.prog W 0 sp held n 40 (List.take (Try.prog.cellsOf 40) [c4, c5]) = some y2 at f2
      change DataW.trod enc Try.prog W 0 sp held n 30 (List.take (Try.prog.cellsOf 30) [c5]) = some y3 at f3
      rw [cellsInt] at f0
      rw [cellsT3] at f1
      rw [cellsTsl] at f2
      rw [cellsStl] at f3
      rw [ex] at hz
      have z2 : Sized Try.prog 40 y2.1 := hz.part Try.underlying42 (j := 2) rfl rfl
      have z3' : Sized Try.prog 30 y3.1 := hz.part Try.underlying42 (j := 3) rfl rfl
      clear hf
      obtain ⟨k, rfl⟩ := open_int f0
      obtain ⟨k0, k1, k2, e1⟩ := open_key f1
      simp at e1
      obtain ⟨rfl, rfl, rfl⟩ := e1
      obtain ⟨ta, tc, ts, rfl, hts, htl⟩ := open_tests f2 z2
      obtain ⟨a, len, cap, rfl, hlc, _, hr⟩ := open_rows (Q := SH × List St × (Option Addr × Nat) × Option Addr × Nat) Try.underlying30 cellsSt (by decide) (StepOpen W) f3 z3' (fun m hm cs x hx hs => ih m (by omega) cs x hx hs)
      rcases hr with rfl | ⟨b, o, q, rfl, hlt, hq⟩
      · exact ⟨⟨⟨k, k0, k1, k2, ts⟩, [], (ta, tc), a, cap⟩, rfl, hts, .nil _ _, by rw [St.wide]; exact ⟨htl, by rw [wideL]; trivial⟩⟩
      · have hl : ((List.range len).map fun i => St.mk (q i).1 (q i).2.1).length = len := by simp
        refine ⟨⟨⟨k, k0, k1, k2, ts⟩, (List.range len).map fun i => St.mk (q i).1 (q i).2.1, (ta, tc), some ⟨b, o, none⟩, cap⟩, by show _ = cS _ _ (.slice _ _ _); rw [hl], hts, ?_, ?_⟩
        · refine .row b o cap _ (fun i => .slice (q i).2.2.1.1 (q i).1.ts.length (q i).2.2.1.2) (fun i => .slice (q i).2.2.2.1 (q i).2.1.length (q i).2.2.2.2) (by rw [hl]; exact hlc) hlt (fun i x hi => ?_) (fun i x hi => ?_) (fun i x hi => ?_) <;>
          · have hil : i < len := by have := (List.getElem?_eq_some_iff.1 hi).1; rwa [hl] at this
            simp [hil] at hi
            subst hi
            obtain ⟨cs, ⟨rfl, h1, h2, h3⟩, hr⟩ := hq i hil
            first | exact hr | exact h1 | exact h2
        · rw [St.wide]
          refine ⟨htl, wideL_of fun s hs => ?_⟩
          obtain ⟨i, hi, rfl⟩ := List.mem_map.1 hs
          obtain ⟨cs, ⟨_, _, _, h3⟩, _⟩ := hq i (List.mem_range.1 hi)
          exact h3
theorem open_St {W : World} {base : Nat} {sp : Nat → Bool} {held : Bool} {v : Value} {d : DataW H} {p : List MemPlace} (hv : Value.okWide Try.prog W .any base 42 v) (h : DataW.Trod enc Try.prog W 0 sp held 42 v d p) (hs : Sized Try.prog 42 d) :
    ∃ s ta tc a cap, v = vS (St.hd s) (.slice ta s.hd.ts.length tc) (.slice a s.subs.length cap) ∧ s.wide ∧ TsAt W (fun b _ => b < W.heap.size) (.slice ta s.hd.ts.length tc) s.hd.ts ∧ SHolds W (fun b _ => b < W.heap.size) (.slice a s.subs.length cap) s.subs := by
  obtain ⟨cs, rfl, _⟩ := okWide_struct Try.underlying42 hv
  obtain ⟨fuel, hf⟩ := h
  obtain ⟨⟨hd, subs, ⟨ta, tc⟩, a, cap⟩, e, h1, h2, h3⟩ := open_step fuel _ _ hf hs
  obtain ⟨l⟩ := cs
  refine ⟨.mk hd subs, ta, tc, a, cap, ?_, h3, h1, h2⟩
  have e' : l = cS hd (.slice ta hd.ts.length tc) (.slice a subs.length cap) := e
  rw [e']
  rfl
end
end Go.Proofs.Ytoceogbanlmnoaa
