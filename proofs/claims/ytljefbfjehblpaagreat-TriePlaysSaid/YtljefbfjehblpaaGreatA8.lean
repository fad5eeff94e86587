/- Layer trie: the program's change, whatever it does to a node. – Rows of a call's own that grow beside each other: whose block each lies in. No program. – Layer trie: what is done to a node: counts one more, one less; rows one more. – Layer trie: what is done to a node: one more in a row. – Layer trie: without; what is done to a node: one less in a row. -/
import Derived.Test.YtljefbfjehblpaaGreatA7
import Derived.Test.YtljefbfjehblpaaGreatA3
import Derived.Test.YtljefbfjehblpaaGreatZShelf
import Derived.Sort.OwnSortedInts
namespace Go.Proofs.YtljefbfjehblpaaGreat
section
open Go.RowKit Go.Maps Go.WideMaps
set_option maxRecDepth 100000

/-! ### A node whole: made, loaded, stored -/
theorem infoN20 (v : Nv) : (Tryz.prog.info? 89).map (·.size) = some (aN v).size := (by kernel_rfl : (Tryz.prog.info? 89).map (·.size) = some 20)
theorem infoNz : (Tryz.prog.info? 89).map (·.zero) = some (some (.agg (aN zNv))) := by kernel_rfl
theorem aN_one (v : Nv) : (aN v).all (·.oneCell') = true := by simp [aN, Value.oneCell']; constructor <;> rfl
theorem wpList_alloc_zeroW {P : Program} {ops : Array Oper} {rest : List Oper} {o : Oper} {a : Act} {w : World} {Q : Exit → Act → World → Prop} (hg : o.guard = none) (t : TypeId) (ho : o.op = .alloc t) (cs : Array Value)
    (hz : (P.info? t).map (·.zero) = some (some (.agg cs))) (q : Nat) (hq : Hid (w.heap.size = q)) (h : ∀ W, Kept Nil w W → Blk W q t cs → W.heap.size = q + 1 → wpList P ops Q rest (a.put o.dst (.pointer (some ⟨q, 0, none⟩))) W) : wpList P ops Q (o :: rest) a w := by
  have hq := hq.out
  subst hq
  refine wpList_plain hg fun K hK => ?_
  obtain ⟨i, hi, hzi⟩ : ∃ i, P.info? t = some i ∧ i.zero = some (.agg cs) := by
    cases hq : P.info? t with
    | none => rw [hq] at hz; cases hz
    | some i => rw [hq] at hz; simp at hz; exact ⟨i, rfl, hz⟩
  unfold Oper.wp execOp
  simp [ho, Instr.alloc, zeroValue, typeInfo, hi, hzi, newVar, newRow]
  exact hK _ _ (h _ ((Kept.refl Nil w).alloc _) (Blk.new w t cs) (by simp))
theorem wpList_store_N {ops : Array Oper} {rest : List Oper} {o : Oper} {a : Act} {w : World} {Q : Exit → Act → World → Prop} (hgd : o.guard = none) (x y : Operand) (ho : o.op = .store 89 x y)
    (q : Nat) (v v0 : Nv) (hx : a.eval x = .pointer (some ⟨q, 0, none⟩)) (hy : a.eval y = .agg (aN v)) (hb : Blk w q 89 (aN v0))
    (h : ∀ W, Kept (fun k => k = q) w W → Blk W q 89 (aN v) → wpList Tryz.prog ops Q rest (a.put o.dst undef) W) : wpList Tryz.prog ops Q (o :: rest) a w :=
  wpList_store_rowW hgd _ x y ho q _ hx hy _ _ hb (infoN20 v) rfl (aN_one v) h
theorem loadN {W : World} {q : Nat} {v : Nv} (hb : Blk W q 89 (aN v)) : (Instr.loadAt 89 (.pointer (some ⟨q, 0, none⟩))).run Tryz.prog W = .ok (.agg (aN v)) W := by
  simp only [Instr.loadAt, Instr.sureAddr, Sem.run_bind, Sem.run_pure, Result.andThen_ok, run_loadVar_row W q _ _ _ _ _ hb Tryz.underlying89 rfl (infoN20 v)]
section
variable {w : World} {c : Nat → Nat} {p m : Nat} {nd : Nat → Option Nd} {nm : Sp → Option Nat}
/-- What is done to a node in its box: what the box holds, whose its rows' blocks are. -/
structure DoPost (w : World) (c : Nat → Nat) (k q : Nat) (d' : Nd) (W' : World) (v' : Nv) (c' : Nat → Nat) : Prop where
  blk : Blk W' q 89 (aN v')
  node : NodeR W' c' k d' v'
  old : ∀ b, b < w.heap.size → c' b = c b
  new : ∀ b, w.heap.size ≤ b → c' b = 0 ∨ c' b = 2 * k + 4 ∨ c' b = 2 * k + 5
  low : ∀ b, c' b ≠ 0 → b < W'.heap.size
def DoF (c : Nat → Nat) (k q : Nat) (W : World) (b : Nat) : Prop := b = q ∨ ((c b = 2 * k + 4 ∨ c b = 2 * k + 5) ∧ isC W b)
def DoOK (w : World) (c : Nat → Nat) (k : Nat) (d d' : Nd) (f : FuncId) (caps : Array Value) : Prop :=
  ∀ v W, NodeR W c k d v → Kept Nil w W → Blk W w.heap.size 89 (aN v) → Calls Tryz.prog f (#[.pointer (some ⟨w.heap.size, 0, none⟩)] ++ caps) W fun e W' => e = .returned (.tuple #[]) ∧ ∃ v' c', DoPost w c k w.heap.size d' W' v' c' ∧ Kept (DoF c k w.heap.size W) W W'
def SChg (p q bn : Nat) (v : Nv) (w : World) : Prop := w.cell? ⟨p, 0, none⟩ = some (.map (some bn)) ∧ Blk w q 89 (aN v)
theorem Trx.nvle {bn bs : Nat} {nv : Nat → Option Nv} (h : Trx w c p nd nm m bn bs nv) {j : Nat} (hj : nv j ≠ none) : j ≤ m := by
  rcases h.rows j with ⟨_, e⟩ | ⟨d, v, e1, _⟩
  · exact absurd e hj
  · exact (h.le j (by rw [e1]; simp)).2
theorem Trx.turned {bn bs : Nat} {nv : Nat → Option Nv} (h : Trx w c p nd nm m bn bs nv) (hm : m ≤ 4000) {k : Nat} {d d' : Nd} (hk : nd k = some d) {W2 : World} {v' : Nv} {c' : Nat → Nat} (hP : DoPost w c k w.heap.size d' W2 v' c') (kk : Kept (DoF c k w.heap.size w) w W2) {W : World} (kW : Kept Nil W2 W) :
    ∃ W3, (Instr.mapUpdate 51 (.map (some bn)) (.int .i64 k) (.agg (aN v'))).run Tryz.prog W = .ok () W3 ∧ TG w W3 c p (setF nd k (some d')) nm m c' := by
  have kw2 : Kept (DoF c k w.heap.size w) w W := kk.trans kW (fun _ _ e => e.elim)
  have hp := h.blk.lt
  have hbn := h.mn.lt
  have hbs := h.ms.lt
  have hF : ∀ {b i : Nat}, b < w.heap.size → c b = i → i < 4 → ¬ DoF c k w.heap.size w b := fun hb e hi f => by
    rcases f with f | ⟨f | f, _⟩ <;> omega
  have kle := h.le k (by rw [hk]; simp)
  have hmn := h.mn.kept kw2 (hF hbn h.cn (by decide))
  obtain ⟨W3, r, hput, k3⟩ := hmn.put uNodes (by omega) (k := k) (show k ≤ 4611686018427387904 by omega) v'
  have kw3 : Kept (fun b => DoF c k w.heap.size w b ∨ b = bn) w W3 := (kw2.mono (fun _ _ e => .inl e)).trans k3 (fun _ _ e => .inr e)
  have hF3 : ∀ {b i : Nat}, b < w.heap.size → c b = i → i < 4 → i ≠ 2 → ¬ (DoF c k w.heap.size w b ∨ b = bn) := fun hb e hi hi2 f => by
    rcases f with f | f
    · exact hF hb e hi f
    · rw [f, h.cn] at e; exact hi2 e.symm
  refine ⟨W3, r, ⟨bn, bs, setF nv k (some v'), ⟨fun b e => ?_, ?_, ?_, ?_, h.blk.kept kw3 (hF3 hp h.cp (by decide) (by decide)), ?_, h.ms.kept kw3 (hF3 hbs h.cs (by decide) (by decide)), fun j => ?_, fun j hj => ?_⟩⟩, kw3.mono (fun b hb e => ?_), fun b e => hP.old b e, fun b e => ?_⟩
  · exact Nat.lt_of_lt_of_le (hP.low b e) (Nat.le_trans kW.size k3.size)
  · rw [hP.old p hp]; exact h.cp
  · rw [hP.old bn hbn]; exact h.cn
  · rw [hP.old bs hbs]; exact h.cs
  · have := hput.tight (l := List.range (m + 1)) (fun j hj => by
      rw [List.mem_range]
      by_cases e : j = k
      · omega
      · rw [setF_other _ _ e] at hj
        have := h.nvle hj
        omega)
    rw [List.length_range] at this
    exact this
  · have cb : ∀ b, c' b = 2 * j + 4 ∨ c' b = 2 * j + 5 → b ≠ bn := fun b e f => by
      rw [f, hP.old bn hbn, h.cn] at e; omega
    by_cases e : j = k
    · subst e
      refine .inr ⟨d', v', setF_same _ _ _, setF_same _ _ _, ?_⟩
      exact hP.node.kept ((kW.mono (fun _ _ e => e.elim)).trans k3 (fun _ _ e => e)) (fun b f => ⟨fun g => cb b (.inl g) f, fun g => cb b (.inr g) f⟩) (fun _ _ => rfl)
    · rw [setF_other _ _ e, setF_other _ _ e]
      rcases h.rows j with e1 | ⟨d1, v1, e1, e2, e3⟩
      · exact .inl e1
      · refine .inr ⟨d1, v1, e1, e2, e3.kept kw3 (fun b f => ?_) (fun b f => hP.old b (h.low b f))⟩
        rcases f with (f | ⟨f | f, _⟩) | f
        · have : c b = 0 := by
            by_cases g : c b = 0
            · exact g
            · have := h.low b g; omega
          omega
        · omega
        · omega
        · rw [f, h.cn]; omega
  · by_cases e : j = k
    · rw [e]; exact kle
    · rw [setF_other _ _ e] at hj; exact h.le j hj
  · rcases e with (f | ⟨f, g⟩) | f
    · omega
    · exact ⟨by omega, .inr g⟩
    · rw [f]; exact ⟨by rw [h.cn]; decide, .inl (by rw [h.cn]; decide)⟩
  · rcases hP.new b e with g | g | g <;> omega
set_option maxHeartbeats 4000000 in
theorem change_none (h : Tr w c p nd nm m) {k : Nat} (hk : nd k = none) (hkb : k ≤ 4611686018427387904) (f : Value) :
    Calls Tryz.prog 26 #[.pointer (some ⟨p, 0, none⟩), .int .i64 k, f] w fun e w' => e = .returned (.tuple #[]) ∧ Kept Nil w w' := by
  obtain ⟨bn, bs, nv, h⟩ := h
  have hlt := h.blk.lt
  have c0 : w.cell? ⟨p, 0, none⟩ = some (.map (some bn)) := by have := h.blk.cell 0; simpa using this
  have hnv : nv k = none := by
    rcases h.rows k with e | ⟨d, v, e1, _⟩
    · exact e.2
    · rw [hk] at e1; cases e1
  have hl : (Instr.lookup 51 (.map (some bn)) (.int .i64 k) true).run Tryz.prog w = .ok (.tuple #[.agg (aN zNv), .bool false]) w := by
    have := h.mn.look2 uNodes (zeroNv w) (k := k) hkb
    rw [hnv] at this
    exact this
  have HQ : Hid (w.heap.size = w.heap.size) := Lib.hid rfl
  clear h
  go_enter Tryz.func26, Tryz.ntmps26
  go_wp2_with (first
    | (with_reducible refine wpList_alloc_zeroW rfl 89 rfl (aN zNv) infoNz _ HQ ?_
       intro W kW bW _
       have KW := Lib.hid kW
       have BW := Lib.hid bW
       clear kW bW)
    | (with_reducible refine wpList_store_N rfl (.tmp 6) (.tmp 15) rfl _ zNv zNv rfl rfl BW.out ?_
       intro W2 kW bW
       have KW2 := Lib.hid kW
       clear kW bW))
  go_end0
  exact ⟨rfl, KW.out.trans KW2.out (fun i hi e => by rw [e] at hi; omega)⟩
set_option maxHeartbeats 8000000 in
theorem change_some (h : Tr w c p nd nm m) (hm : m ≤ 4000) {k : Nat} {d d' : Nd} (hk : nd k = some d) {f : FuncId} {caps : Array Value} (hent : ∀ args w, (callFunc f args).run Tryz.prog w = .ok (.enter f args) w) (hdo : DoOK w c k d d' f caps) :
    Calls Tryz.prog 26 #[.pointer (some ⟨p, 0, none⟩), .int .i64 k, .func (.func f) #[] caps] w fun e w' => e = .returned (.tuple #[]) ∧ ∃ c', TG w w' c p (setF nd k (some d')) nm m c' := by
  obtain ⟨bn, bs, nv, h⟩ := h
  have hlt := h.blk.lt
  have c0 : w.cell? ⟨p, 0, none⟩ = some (.map (some bn)) := by have := h.blk.cell 0; simpa using this
  have kle := h.le k (by rw [hk]; simp)
  obtain ⟨v, hv, hr⟩ : ∃ v, nv k = some v ∧ NodeR w c k d v := by
    rcases h.rows k with e | ⟨d1, v, e1, e2, e3⟩
    · rw [hk] at e; cases e.1
    · rw [hk] at e1; cases e1; exact ⟨v, e2, e3⟩
  have hl : (Instr.lookup 51 (.map (some bn)) (.int .i64 k) true).run Tryz.prog w = .ok (.tuple #[.agg (aN v), .bool true]) w := by
    have := h.mn.look2 uNodes (zeroNv w) (k := k) (show k ≤ 4611686018427387904 by omega)
    rw [hv] at this
    exact this
  have CD := Lib.hid (fun W (kW : Kept Nil w W) => hdo v W (hr.kept kW (fun _ e => e.elim) (fun _ _ => rfl)) kW)
  have HT := Lib.hid (fun W2 v' c' (hP : DoPost w c k w.heap.size d' W2 v' c') (kk : Kept (DoF c k w.heap.size w) w W2) => h.turned hm hk hP kk ((Kept.refl Nil W2).drew))
  have HC0 : Hid (∀ W2, Kept (DoF c k w.heap.size w) w W2 → W2.cell? ⟨p, 0, none⟩ = some (.map (some bn))) := Lib.hid fun W2 kk => by
    rw [kk.cell hlt (fun e => by have := h.cp; rcases e with e | ⟨e | e, _⟩ <;> simp only at e <;> omega)]; exact c0
  have HQ : Hid (w.heap.size = w.heap.size) := Lib.hid rfl
  clear h hdo hr hv hk hm
  go_enter Tryz.func26, Tryz.ntmps26
  go_wp2_with (first
    | (with_reducible refine wpList_alloc_zeroW rfl 89 rfl (aN zNv) infoNz _ HQ ?_
       intro W kW bW _
       have KW := Lib.hid kW
       have BW := Lib.hid bW
       clear kW bW)
    | (with_reducible refine wpList_store_N rfl (.tmp 6) (.tmp 15) rfl _ v zNv rfl rfl BW.out ?_
       intro W1 kW bW
       have KW2 := Lib.hid kW
       have BW2 := Lib.hid bW
       clear kW bW))
  have kN : Kept Nil w W1 := KW.out.trans KW2.out (fun i hi e => by rw [e] at hi; omega)
  refine (CD.out W1 kN BW2.out).mono ?_
  rintro e W2 ⟨rfl, v', c', hP, k2⟩
  have kk : Kept (DoF c k w.heap.size w) w W2 := (kN.mono (fun _ _ e => e.elim)).trans k2 (fun i hi e => e.imp id (fun e => ⟨e.1, isC_back kN hi (fun f => f) e.2⟩))
  have c02 := HC0.out W2 kk
  obtain ⟨W3, r, hTG⟩ := HT.out W2 v' c' hP kk
  have HG := Lib.hid hTG
  have l2 : Hid (w.cell? ⟨p, 0, none⟩ = w.cell? ⟨p, 0, none⟩) := Lib.hid rfl
  have S0 : Hid (SChg p w.heap.size bn v' W2.drew) := Lib.hid ⟨by simpa using c02, hP.blk.drew⟩
  clear hP kk k2 kN CD HT HC0 hTG c0 hl BW BW2 KW KW2 c02 hent l2
  generalize w.heap.size = q at *
  go_wp2_with fail
  refine wp_region_lastL (SChg p q bn v') (by simp) (by kernel_rfl) (by kernel_rfl) ?_
  simp only [List.dropLast, List.getLast]
  refine takeH (i := 0) (some 20) (.pointer (some ⟨p, 0, none⟩)) rfl rfl (by kernel_rfl) (by kernel_rfl) (by kernel_rfl) (fun _ _ _ h => h) (by rfl) S0.out ?_ ?_
  · intro w hSw
    go_simp
  simp only [Act.put, List.setIfInBounds_toArray, List.set_cons_succ, List.set_cons_zero]
  refine takeH (i := 1) (some 21) (.pointer (some ⟨p, 0, none⟩)) rfl rfl (by kernel_rfl) (by kernel_rfl) (by kernel_rfl) (fun _ _ _ h => h) (by rfl) S0.out ?_ ?_
  · intro w hSw
    go_simp
  simp only [Act.put, List.setIfInBounds_toArray, List.set_cons_succ, List.set_cons_zero]
  refine takeH (i := 2) (some 22) (.pointer (some ⟨p, 0, none⟩)) rfl rfl (by kernel_rfl) (by kernel_rfl) (by kernel_rfl) (fun _ _ _ h => h) (by rfl) S0.out ?_ ?_
  · intro w hSw
    go_simp
  simp only [Act.put, List.setIfInBounds_toArray, List.set_cons_succ, List.set_cons_zero]
  refine takeH (i := 3) (some 23) (.map (some bn)) rfl rfl (by kernel_rfl) (by kernel_rfl) (by kernel_rfl) (fun _ _ _ h => h) (by rfl) S0.out ?_ ?_
  · intro w hSw
    have h1 := hSw.1; go_simp
  simp only [Act.put, List.setIfInBounds_toArray, List.set_cons_succ, List.set_cons_zero]
  refine takeH (i := 4) (some 24) (.int .i64 k) rfl rfl (by kernel_rfl) (by kernel_rfl) (by kernel_rfl) (fun _ _ _ h => h) (by rfl) S0.out ?_ ?_
  · intro w hSw
    go_simp
  simp only [Act.put, List.setIfInBounds_toArray, List.set_cons_succ, List.set_cons_zero]
  refine takeH (i := 5) (some 25) (.agg (aN v')) rfl rfl (by kernel_rfl) (by kernel_rfl) (by kernel_rfl) (fun _ _ _ h => h) (by rfl) S0.out ?_ ?_
  · intro w hSw
    exact exec_load rfl rfl (loadN hSw.2)
  simp only [Act.put, List.setIfInBounds_toArray, List.set_cons_succ, List.set_cons_zero]
  refine wpAnyH_done (by kernel_rfl) ?_ _
  refine store_wp rfl rfl ?_
  refine upd_wp _ _ _ _ rfl rfl rfl rfl r ?_
  go_wp2_with fail
  go_end0
  exact ⟨rfl, _, HG.out⟩
end
end
section
open Go.RowKit
set_option maxRecDepth 100000

section
variable {α : Type} {cells : α → List Value} {e : TypeId} {size : Nat} {w w' : World} {B : Nat} {l : List α}
/-- A row of one element, in a literal's new memory. -/
theorem Row.lit1 (w : World) (x : α) (cs : Array Value) (hcs : cs.toList = cells x) (hsz : (cells x).length = size) : Row cells e size (w.alloc (.cells cs e)) w.heap.size (.slice (some ⟨w.heap.size, 0, none⟩) 1 1) [x] := by
  have hc : cs.size = size := by rw [← hsz, ← hcs]; simp
  refine ⟨by simp [hsz], .inr ⟨w.heap.size, 1, cs, rfl, Nat.le_refl _, Blk.new w e cs, by simp, by unfold maxLen; omega, by omega, ?_⟩⟩
  rw [List.flatMap_cons, List.flatMap_nil, List.append_nil, ← hcs, List.length_singleton, Nat.one_mul, List.take_of_length_le (by simp [hc])]
/-- One element more; and whose block the row lies in then. -/
theorem Row.push2 {P : Program} {t : TypeId} (T : Els P t e size) (hsz : ∀ x, (cells x).length = size) (h1 : ∀ x, ∀ u ∈ cells x, u.oneCell' = true) (ty : TypeId) {wr : World} {n cap : Nat} {a : Option Addr} (hB : B ≤ wr.heap.size) (h : Row cells e size wr B (.slice a n cap) l) (hl : l.length ≤ 5000) (x : α) (cs : Array Value) (hcs : cs.toList = cells x) :
    ∃ a' cap' w', (Builtin.append_ #[t, t] ty #[.slice a n cap, .slice (some ⟨wr.heap.size, 0, none⟩) 1 1]).run P (wr.alloc (.cells cs e)) = .ok (.slice a' (n + 1) cap') w' ∧
      Row cells e size w' B (.slice a' (n + 1) cap') (l ++ [x]) ∧ Kept (fun k => (Value.slice a n cap).ownBlock = some k) wr w' ∧ ∀ b, (Value.slice a' (n + 1) cap').ownBlock = some b → (Value.slice a n cap).ownBlock = some b ∨ wr.heap.size ≤ b := by
  obtain ⟨a0, c0, e0⟩ := h.shape
  have hn : n = l.length := by injection e0
  subst hn
  have h2 : Row cells e size (wr.alloc (.cells cs e)) B (.slice a l.length cap) l := h.keptN ((Kept.refl _ _).alloc _)
  obtain ⟨v', w', r, o, k, hv⟩ := append_any T ty h2 (At.lit wr e cs (cells x) hcs) (by rw [hsz, Nat.one_mul]) (h1 x) (by omega) (by simp; omega)
  have o2 : Row cells e size w' B v' (l ++ [x]) := by simpa [Row] using o
  obtain ⟨a', cap', e⟩ := o2.shape
  rw [List.length_append] at e
  subst e
  refine ⟨a', cap', w', r, o2, ((Kept.refl _ _).alloc _).trans k (fun _ _ e => e), fun b hb => ?_⟩
  rcases hv with hv | hv
  · left; rw [← hv]; exact hb
  · right
    have e := hv.symm.trans hb
    have e2 := Option.some.inj e
    simp at e2
    omega
/-- All that lies at a slice, behind what is there. -/
theorem Row.pushAll2 {P : Program} {t : TypeId} (T : Els P t e size) (hsz : ∀ x, (cells x).length = size) (h1 : ∀ x, ∀ u ∈ cells x, u.oneCell' = true) (hs : 0 < size) (ty : TypeId) {wr : World} {n cap : Nat} {a : Option Addr} (hB : B ≤ wr.heap.size) (h : Row cells e size wr B (.slice a n cap) l) (hl : l.length ≤ 5000)
    {a2 : Option Addr} {n2 c2 : Nat} {l2 : List α} (h2 : In cells size wr a2 n2 l2) (hl2 : l2.length ≤ 5000) :
    ∃ a' cap' w', (Builtin.append_ #[t, t] ty #[.slice a n cap, .slice a2 n2 c2]).run P wr = .ok (.slice a' (n + n2) cap') w' ∧
      Row cells e size w' B (.slice a' (n + n2) cap') (l ++ l2) ∧ Kept (fun k => (Value.slice a n cap).ownBlock = some k) wr w' ∧ ∀ b, (Value.slice a' (n + n2) cap').ownBlock = some b → (Value.slice a n cap).ownBlock = some b ∨ wr.heap.size ≤ b := by
  obtain ⟨a0, c0, e0⟩ := h.shape
  have hn : n = l.length := by injection e0
  subst hn
  obtain ⟨v', w', r, o, k, hv⟩ := append_any T ty h (h2.toAt (cap := c2) hsz hs) (by rw [flat_len hsz, h2.1]) (fun u hu => by obtain ⟨x, _, hx⟩ := List.mem_flatMap.1 hu; exact h1 x u hx) (by have := h2.1; omega) hB
  have o2 : Row cells e size w' B v' (l ++ l2) := by
    have := h2.1
    subst this
    simpa [Row] using o
  obtain ⟨a', cap', e⟩ := o2.shape
  rw [List.length_append, h2.1] at e
  subst e
  refine ⟨a', cap', w', r, o2, k, fun b hb => ?_⟩
  rcases hv with hv | hv
  · left; rw [← hv]; exact hb
  · right
    have e := Option.some.inj (hv.symm.trans hb)
    omega
theorem Row.caps {n cap : Nat} {a : Option Addr} (h : Row cells e size w B (.slice a n cap) l) : n = l.length ∧ n ≤ cap ∧ cap ≤ maxLen := by
  rcases h.2 with ⟨e, e0⟩ | ⟨g, c, cur, e, _, _, hn, hm, _⟩
  · injection e with _ e1 e2; subst e1 e2; exact ⟨e0.symm, Nat.le_refl _, Nat.zero_le _⟩
  · injection e with _ e1 e2; subst e1 e2; exact ⟨rfl, hn, hm⟩
/-- The row without its last element. -/
theorem Row.init {n cap : Nat} {a : Option Addr} {x : α} (hsz : ∀ x, (cells x).length = size) (h : Row cells e size w B (.slice a (n + 1) cap) (l ++ [x])) : Row cells e size w B (.slice a n cap) l := by
  obtain ⟨a0, c0, e0⟩ := h.shape
  have hn : n = l.length := by injection e0 with _ e0; simp at e0; exact e0
  subst hn
  unfold Row at h ⊢
  rw [List.flatMap_append, List.length_append] at h
  exact ownsRow_head h (flat_len hsz l) (by omega)
theorem Row.get {n cap : Nat} {a : Option Addr} (h : Row cells e size w B (.slice a n cap) l) (hsz : ∀ x, (cells x).length = size) (hs : 0 < size) {j : Nat} {x : α} (hj : l[j]? = some x) : ∃ b, a = some ⟨b, 0, none⟩ ∧ b < w.heap.size ∧ B ≤ b ∧ ∀ i v, (cells x)[i]? = some v → w.cell? ⟨b, j * size + i, none⟩ = some v := by
  have hI := h.toIn hsz hs
  obtain ⟨b, off, e, hb, hc⟩ := hI.at_ hj
  rcases h.2 with ⟨e1, e0⟩ | ⟨g, cap', cur, e1, hB, hg, _⟩
  · have := List.length_eq_zero_iff.1 e0
    subst this
    simp at hj
  · cases e1
    cases e
    exact ⟨_, rfl, hb, hB, fun i v hi => by have := hc i v hi; rwa [Nat.zero_add] at this⟩
end
/-! Two texts are one, or not. -/
theorem str_eq {x s : ByteArray} (h : x = s) : (x.toList == s.toList) = true := by rw [h]; exact beq_self_eq_true _
theorem str_ne {x s : ByteArray} (h : x ≠ s) : (x.toList == s.toList) = false := by
  rw [beq_eq_false_iff_ne]
  intro e
  rw [ByteArray.toList_eq, ByteArray.toList_eq] at e
  exact h (ByteArray.ext (Array.toList_inj.1 e))
end
section
open Go.RowKit Go.Maps Go.WideMaps
set_option maxRecDepth 100000

theorem infoI1z : (Tryz.prog.info? 3).map (fun i => (i.zero, i.size, i.bytes)) = some (some (.int .i64 0), 1, 8) := by kernel_rfl
theorem elsNt : Els Tryz.prog 28 3 1 := Els.of Tryz.underlying28 infoI1z rfl (by decide) (by decide)
section
variable {w : World} {c : Nat → Nat} {k : Nat} {d : Nd}
/-- A count turned. -/
theorem doPost_li {v : Nv} {W W' : World} (hlow : ∀ b, c b ≠ 0 → b < w.heap.size) (hr : NodeR W c k d v) (kW : Kept Nil w W) (kq : Kept (fun b => b = w.heap.size) W W') (x : Int) (hb : Blk W' w.heap.size 89 (aN { v with li := x })) : DoPost w c k w.heap.size { d with li := x } W' { v with li := x } c :=
  ⟨hb, ⟨hr.sp, rfl, hr.us, hr.kr.keptF kq (fun b e f => by
      rw [sl_own] at e; have h1 := hr.kc b e; have := hlow b (by omega); omega), hr.or.keptF kq (fun b e f => by
      rw [sl_own] at e; have h1 := hr.oc b e; have := hlow b (by omega); omega), hr.kc, hr.oc⟩, fun _ _ => rfl, fun b hb => .inl (by
      by_cases e : c b = 0
      · exact e
      · have := hlow b e; omega), fun b e => Nat.lt_of_lt_of_le (hlow b e) (Nat.le_trans kW.size kq.size)⟩
theorem doPost_us {v : Nv} {W W' : World} (hlow : ∀ b, c b ≠ 0 → b < w.heap.size) (hr : NodeR W c k d v) (kW : Kept Nil w W) (kq : Kept (fun b => b = w.heap.size) W W') (x : Int) (hb : Blk W' w.heap.size 89 (aN { v with us := x })) : DoPost w c k w.heap.size { d with us := x } W' { v with us := x } c :=
  ⟨hb, ⟨hr.sp, hr.li, rfl, hr.kr.keptF kq (fun b e f => by
      rw [sl_own] at e; have h1 := hr.kc b e; have := hlow b (by omega); omega), hr.or.keptF kq (fun b e f => by
      rw [sl_own] at e; have h1 := hr.oc b e; have := hlow b (by omega); omega), hr.kc, hr.oc⟩, fun _ _ => rfl, fun b hb => .inl (by
      by_cases e : c b = 0
      · exact e
      · have := hlow b e; omega), fun b e => Nat.lt_of_lt_of_le (hlow b e) (Nat.le_trans kW.size kq.size)⟩
set_option maxHeartbeats 1000000 in
theorem incU_ok (hlow : ∀ b, c b ≠ 0 → b < w.heap.size) (hu : -1000000 ≤ d.us ∧ d.us ≤ 1000000) : DoOK w c k d { d with us := d.us + 1 } 38 #[] := by
  intro v W hr kW hb
  have hv := hr.us
  obtain ⟨x, hx⟩ : ∃ x, v.us = x := ⟨_, rfl⟩
  have hdx : d.us = x := hv.symm.trans hx
  rw [hdx] at hu ⊢
  have c19 : W.cell? ⟨w.heap.size, 19, none⟩ = some (.int .i64 x) := by rw [hb.cell, ← hx]; rfl
  have f19 := hb.frozen 19
  have hw1 : IntKind.i64.wrap (x + 1) = x + 1 := by rw [IntKind.wrap_i64]; omega
  have HB := Lib.hid hb
  have HR := Lib.hid hr
  have HK := Lib.hid kW
  have HX := Lib.hid hx
  clear hb hr kW hv hu hdx hx
  generalize hq : w.heap.size = q at *
  have HQ := Lib.hid hq
  clear hq
  simp only [Array.append_empty]
  go_enter Tryz.func38, Tryz.ntmps38
  go_wp2_with fail
  go_end0
  have hb' := HB.out.set_ 19 (.int .i64 (x + 1))
  have kq : Kept (fun b => b = q) W (W.setCell ⟨q, 19, none⟩ (.int .i64 (x + 1))) := Kept.setCell (F := fun b => b = q) (Kept.refl _ _) _ (.inl rfl) _
  refine ⟨rfl, { v with us := x + 1 }, c, ?_, kq.mono (fun b _ e => .inl e)⟩
  have := doPost_us (d := d) (by rw [HQ.out]; exact hlow) HR.out HK.out (W' := W.setCell ⟨q, 19, none⟩ (.int .i64 (x + 1))) (by rw [HQ.out]; exact kq) (x + 1) (by rw [HQ.out]; exact hb')
  rwa [HQ.out] at this
set_option maxHeartbeats 1000000 in
theorem decU_ok (hlow : ∀ b, c b ≠ 0 → b < w.heap.size) (hu : -1000000 ≤ d.us ∧ d.us ≤ 1000000) : DoOK w c k d { d with us := d.us - 1 } 31 #[] := by
  intro v W hr kW hb
  have hv := hr.us
  obtain ⟨x, hx⟩ : ∃ x, v.us = x := ⟨_, rfl⟩
  have hdx : d.us = x := hv.symm.trans hx
  rw [hdx] at hu ⊢
  have c19 : W.cell? ⟨w.heap.size, 19, none⟩ = some (.int .i64 x) := by rw [hb.cell, ← hx]; rfl
  have f19 := hb.frozen 19
  have hw1 : IntKind.i64.wrap (x - 1) = x - 1 := by rw [IntKind.wrap_i64]; omega
  have HB := Lib.hid hb
  have HR := Lib.hid hr
  have HK := Lib.hid kW
  have HX := Lib.hid hx
  clear hb hr kW hv hu hdx hx
  generalize hq : w.heap.size = q at *
  have HQ := Lib.hid hq
  clear hq
  simp only [Array.append_empty]
  go_enter Tryz.func31, Tryz.ntmps31
  go_wp2_with fail
  go_end0
  have hb' := HB.out.set_ 19 (.int .i64 (x - 1))
  have kq : Kept (fun b => b = q) W (W.setCell ⟨q, 19, none⟩ (.int .i64 (x - 1))) := Kept.setCell (F := fun b => b = q) (Kept.refl _ _) _ (.inl rfl) _
  refine ⟨rfl, { v with us := x - 1 }, c, ?_, kq.mono (fun b _ e => .inl e)⟩
  have := doPost_us (d := d) (by rw [HQ.out]; exact hlow) HR.out HK.out (W' := W.setCell ⟨q, 19, none⟩ (.int .i64 (x - 1))) (by rw [HQ.out]; exact kq) (x - 1) (by rw [HQ.out]; exact hb')
  rwa [HQ.out] at this
set_option maxHeartbeats 1000000 in
theorem incL_ok (hlow : ∀ b, c b ≠ 0 → b < w.heap.size) (hu : -1000000 ≤ d.li ∧ d.li ≤ 1000000) : DoOK w c k d { d with li := d.li + 1 } 39 #[] := by
  intro v W hr kW hb
  have hv := hr.li
  obtain ⟨x, hx⟩ : ∃ x, v.li = x := ⟨_, rfl⟩
  have hdx : d.li = x := hv.symm.trans hx
  rw [hdx] at hu ⊢
  have c19 : W.cell? ⟨w.heap.size, 18, none⟩ = some (.int .i64 x) := by rw [hb.cell, ← hx]; rfl
  have f19 := hb.frozen 18
  have hw1 : IntKind.i64.wrap (x + 1) = x + 1 := by rw [IntKind.wrap_i64]; omega
  have HB := Lib.hid hb
  have HR := Lib.hid hr
  have HK := Lib.hid kW
  have HX := Lib.hid hx
  clear hb hr kW hv hu hdx hx
  generalize hq : w.heap.size = q at *
  have HQ := Lib.hid hq
  clear hq
  simp only [Array.append_empty]
  go_enter Tryz.func39, Tryz.ntmps39
  go_wp2_with fail
  go_end0
  have hb' := HB.out.set_ 18 (.int .i64 (x + 1))
  have kq : Kept (fun b => b = q) W (W.setCell ⟨q, 18, none⟩ (.int .i64 (x + 1))) := Kept.setCell (F := fun b => b = q) (Kept.refl _ _) _ (.inl rfl) _
  refine ⟨rfl, { v with li := x + 1 }, c, ?_, kq.mono (fun b _ e => .inl e)⟩
  have := doPost_li (d := d) (by rw [HQ.out]; exact hlow) HR.out HK.out (W' := W.setCell ⟨q, 18, none⟩ (.int .i64 (x + 1))) (by rw [HQ.out]; exact kq) (x + 1) (by rw [HQ.out]; exact hb')
  rwa [HQ.out] at this
set_option maxHeartbeats 1000000 in
theorem decL_ok (hlow : ∀ b, c b ≠ 0 → b < w.heap.size) (hu : -1000000 ≤ d.li ∧ d.li ≤ 1000000) : DoOK w c k d { d with li := d.li - 1 } 27 #[] := by
  intro v W hr kW hb
  have hv := hr.li
  obtain ⟨x, hx⟩ : ∃ x, v.li = x := ⟨_, rfl⟩
  have hdx : d.li = x := hv.symm.trans hx
  rw [hdx] at hu ⊢
  have c19 : W.cell? ⟨w.heap.size, 18, none⟩ = some (.int .i64 x) := by rw [hb.cell, ← hx]; rfl
  have f19 := hb.frozen 18
  have hw1 : IntKind.i64.wrap (x - 1) = x - 1 := by rw [IntKind.wrap_i64]; omega
  have HB := Lib.hid hb
  have HR := Lib.hid hr
  have HK := Lib.hid kW
  have HX := Lib.hid hx
  clear hb hr kW hv hu hdx hx
  generalize hq : w.heap.size = q at *
  have HQ := Lib.hid hq
  clear hq
  simp only [Array.append_empty]
  go_enter Tryz.func27, Tryz.ntmps27
  go_wp2_with fail
  go_end0
  have hb' := HB.out.set_ 18 (.int .i64 (x - 1))
  have kq : Kept (fun b => b = q) W (W.setCell ⟨q, 18, none⟩ (.int .i64 (x - 1))) := Kept.setCell (F := fun b => b = q) (Kept.refl _ _) _ (.inl rfl) _
  refine ⟨rfl, { v with li := x - 1 }, c, ?_, kq.mono (fun b _ e => .inl e)⟩
  have := doPost_li (d := d) (by rw [HQ.out]; exact hlow) HR.out HK.out (W' := W.setCell ⟨q, 18, none⟩ (.int .i64 (x - 1))) (by rw [HQ.out]; exact kq) (x - 1) (by rw [HQ.out]; exact hb')
  rwa [HQ.out] at this
end
theorem RowN.sl {w : World} {a : Option Addr} {n cp : Nat} {l : List Nat} (h : RowN w (.slice a n cp) l) : ∃ b, (.slice a n cp : Value) = Go.Proofs.YtljefbfjehblpaaGreat.sl b n cp := by
  rcases h.2 with ⟨e, _⟩ | ⟨g, cap', cur, e, _⟩
  · cases e; exact ⟨none, rfl⟩
  · cases e; exact ⟨some g, rfl⟩
section
variable {w W W' : World} {c : Nat → Nat} {k : Nat} {d : Nd} {v : Nv}
/-- A row of kids, or of outer nodes, turned. -/
theorem doPost_k (hlow : ∀ b, c b ≠ 0 → b < w.heap.size) (hr : NodeR W c k d v) (kW : Kept Nil w W) (kk : Kept (fun b => b = w.heap.size ∨ v.kb = some b) W W') {b' : Option Nat} {n' c' : Nat} {l : List Nat} (hR : RowN W' (sl b' n' c') l) (ho : ∀ b, b' = some b → v.kb = some b ∨ W.heap.size ≤ b) (hb : Blk W' w.heap.size 89 (aN { v with kb := b', kn := n', kc := c' })) :
    DoPost w c k w.heap.size { d with kids := l } W' { v with kb := b', kn := n', kc := c' } (fun b => if b' = some b then 2 * k + 4 else c b) ∧ Kept (DoF c k w.heap.size W) W W' := by
  have hs := kW.size
  refine ⟨⟨hb, ⟨hr.sp, hr.li, hr.us, hR, hr.or.keptF kk (fun b e f => ?_), fun b e => if_pos e, fun b e => ?_⟩, fun b hb => ?_, fun b hb => ?_, fun b e => ?_⟩, kk.mono (fun b _ e => ?_)⟩
  · rw [sl_own] at e
    have h1 := hr.oc b e
    rcases f with f | f
    · have := hlow b (by omega); omega
    · have := hr.kc b f; omega
  · have h1 := hr.oc b e
    have h2 := hlow b (by omega)
    show (if b' = some b then 2 * k + 4 else c b) = 2 * k + 5
    rw [if_neg (fun e2 => ?_)]
    · exact h1
    · rcases ho b e2 with e3 | e3
      · have := hr.kc b e3; omega
      · omega
  · show (if b' = some b then 2 * k + 4 else c b) = c b
    split
    · rename_i e
      rcases ho b e with e3 | e3
      · exact (hr.kc b e3).symm
      · omega
    · rfl
  · show (if b' = some b then 2 * k + 4 else c b) = 0 ∨ _ ∨ _
    split
    · exact .inr (.inl rfl)
    · by_cases e : c b = 0
      · exact .inl e
      · have := hlow b e; omega
  · change (if b' = some b then 2 * k + 4 else c b) ≠ 0 at e
    split at e
    · rename_i e2
      exact (hR.lt b (by rw [sl_own]; exact e2)).2
    · exact Nat.lt_of_lt_of_le (hlow b e) (Nat.le_trans hs kk.size)
  · rcases e with e | e
    · exact .inl e
    · obtain ⟨cur, hc⟩ := hr.kr.block (k := b) (by rw [sl_own]; exact e)
      exact .inr ⟨.inl (hr.kc b e), cur, _, hc⟩
theorem doPost_o (hlow : ∀ b, c b ≠ 0 → b < w.heap.size) (hr : NodeR W c k d v) (kW : Kept Nil w W) (kk : Kept (fun b => b = w.heap.size ∨ v.ob = some b) W W') {b' : Option Nat} {n' c' : Nat} {l : List Nat} (hR : RowN W' (sl b' n' c') l) (ho : ∀ b, b' = some b → v.ob = some b ∨ W.heap.size ≤ b) (hb : Blk W' w.heap.size 89 (aN { v with ob := b', on := n', oc := c' })) :
    DoPost w c k w.heap.size { d with outer := l } W' { v with ob := b', on := n', oc := c' } (fun b => if b' = some b then 2 * k + 5 else c b) ∧ Kept (DoF c k w.heap.size W) W W' := by
  have hs := kW.size
  refine ⟨⟨hb, ⟨hr.sp, hr.li, hr.us, hr.kr.keptF kk (fun b e f => ?_), hR, fun b e => ?_, fun b e => if_pos e⟩, fun b hb => ?_, fun b hb => ?_, fun b e => ?_⟩, kk.mono (fun b _ e => ?_)⟩
  · rw [sl_own] at e
    have h1 := hr.kc b e
    rcases f with f | f
    · have := hlow b (by omega); omega
    · have := hr.oc b f; omega
  · have h1 := hr.kc b e
    have h2 := hlow b (by omega)
    show (if b' = some b then 2 * k + 5 else c b) = 2 * k + 4
    rw [if_neg (fun e2 => ?_)]
    · exact h1
    · rcases ho b e2 with e3 | e3
      · have := hr.oc b e3; omega
      · omega
  · show (if b' = some b then 2 * k + 5 else c b) = c b
    split
    · rename_i e
      rcases ho b e with e3 | e3
      · exact (hr.oc b e3).symm
      · omega
    · rfl
  · show (if b' = some b then 2 * k + 5 else c b) = 0 ∨ _ ∨ _
    split
    · exact .inr (.inr rfl)
    · by_cases e : c b = 0
      · exact .inl e
      · have := hlow b e; omega
  · change (if b' = some b then 2 * k + 5 else c b) ≠ 0 at e
    split at e
    · rename_i e2
      exact (hR.lt b (by rw [sl_own]; exact e2)).2
    · exact Nat.lt_of_lt_of_le (hlow b e) (Nat.le_trans hs kk.size)
  · rcases e with e | e
    · exact .inl e
    · obtain ⟨cur, hc⟩ := hr.or.block (k := b) (by rw [sl_own]; exact e)
      exact .inr ⟨.inr (hr.oc b e), cur, _, hc⟩
end
end
section
open Go.RowKit Go.Maps Go.WideMaps
set_option maxRecDepth 100000

/-- What the closures that push read. -/
def SPut (q o bq n : Nat) (v : Value) (w : World) : Prop := w.cell? ⟨q, o, none⟩ = some v ∧ w.cell? ⟨bq, 0, none⟩ = some (.int .i64 n)
section
variable {w : World} {c : Nat → Nat} {k : Nat} {d : Nd}
set_option maxHeartbeats 4000000 in
theorem pushK_ok (hlow : ∀ b, c b ≠ 0 → b < w.heap.size) {bq id : Nat} (hbq : Blk w bq 3 #[.int .i64 id]) (hcq : c bq = 0) (hl : d.kids.length ≤ 5000) : DoOK w c k d { d with kids := d.kids ++ [id] } 52 #[.pointer (some ⟨bq, 0, none⟩)] := by
  intro v W hr kW hb
  have hR := hr.kr.keptN ((Kept.refl Nil W).drew)
  have hn : v.kn = d.kids.length := by
    obtain ⟨a, cap, e⟩ := hr.kr.shape
    unfold Go.Proofs.YtljefbfjehblpaaGreat.sl at e
    injection e
  unfold Go.Proofs.YtljefbfjehblpaaGreat.sl at hR
  obtain ⟨a', cap', W3, hrun, hR3, k3, ho⟩ := hR.push2 elsNt cNt_len cNt_one 28 (Nat.zero_le _) hl id #[.int .i64 id] rfl
  obtain ⟨b', hb'⟩ := RowN.sl hR3
  have hq : w.heap.size < W.heap.size := hb.lt
  have hbqW := (hbq.kept kW (fun e => e))
  have c16 : W.cell? ⟨w.heap.size, 16, none⟩ = some (.slice (v.kb.map fun x => ⟨x, 0, none⟩) v.kn v.kc) := by rw [hb.cell]; rfl
  have cbq : W.cell? ⟨bq, 0, none⟩ = some (.int .i64 id) := by rw [hbqW.cell]; rfl
  have S0 : Hid (SPut w.heap.size 16 bq id (.slice (v.kb.map fun x => ⟨x, 0, none⟩) v.kn v.kc) W.drew) := Lib.hid ⟨c16, cbq⟩
  have kA : Kept Nil W (W.drew.alloc (.cells #[.int .i64 id] 3)) := ((Kept.refl Nil W).drew).alloc _
  have S1 : Hid (SPut w.heap.size 16 bq id (.slice (v.kb.map fun x => ⟨x, 0, none⟩) v.kn v.kc) (W.drew.alloc (.cells #[.int .i64 id] 3))) := Lib.hid ⟨by rw [kA.cell hq (fun e => e)]; exact c16, by rw [kA.cell hbqW.lt (fun e => e)]; exact cbq⟩
  have kk : Kept (fun b => v.kb = some b) W W3 := ((Kept.refl _ W).drew).trans k3 (fun i _ e => by
    have : (Value.slice (v.kb.map fun x => (⟨x, 0, none⟩ : Addr)) v.kn v.kc).ownBlock = v.kb := sl_own _ _ _
    rw [this] at e; exact e)
  have hown : ∀ b, v.kb = some b → b ≠ w.heap.size ∧ b ≠ bq := fun b e => by
    have h1 := hr.kc b e
    have := hlow b (by omega)
    exact ⟨by omega, fun e2 => by rw [e2] at h1; omega⟩
  have hb3 : Blk W3 w.heap.size 89 (aN v) := hb.kept kk (fun e => (hown _ e).1 rfl)
  have S2 : Hid (SPut w.heap.size 16 bq id (.slice (v.kb.map fun x => ⟨x, 0, none⟩) v.kn v.kc) W3) := Lib.hid ⟨by rw [kk.cell hq (fun e => (hown _ e).1 rfl)]; exact c16, by rw [kk.cell hbqW.lt (fun e => (hown _ e).2 rfl)]; exact cbq⟩
  have c3 : W3.cell? ⟨w.heap.size, 16, none⟩ = some (.slice (v.kb.map fun x => ⟨x, 0, none⟩) v.kn v.kc) := S2.out.1
  have f3 := hb3.frozen 16
  have hsl : ∀ b, b' = some b → v.kb = some b ∨ W.heap.size ≤ b := fun b e => by
    have e2 : (Value.slice a' (v.kn + 1) cap').ownBlock = some b := by rw [hb', sl_own]; exact e
    rcases ho b e2 with e3 | e3
    · exact .inl ((sl_own v.kb v.kn v.kc).symm.trans e3)
    · exact .inr e3
  have HE : Hid (∀ W4, W4 = W3.setCell ⟨w.heap.size, 16, none⟩ (.slice a' (v.kn + 1) cap') → ∃ v' c', DoPost w c k w.heap.size { d with kids := d.kids ++ [id] } W4 v' c' ∧ Kept (DoF c k w.heap.size W) W W4) := Lib.hid fun W4 e4 => by
    subst e4
    have k4 : Kept (fun b => b = w.heap.size) W3 (W3.setCell ⟨w.heap.size, 16, none⟩ (.slice a' (v.kn + 1) cap')) := Kept.setCell (F := fun b => b = w.heap.size) (Kept.refl _ _) _ (.inl rfl) _
    have kk4 : Kept (fun b => b = w.heap.size ∨ v.kb = some b) W (W3.setCell ⟨w.heap.size, 16, none⟩ (.slice a' (v.kn + 1) cap')) := (kk.mono (fun _ _ e => .inr e)).trans k4 (fun _ _ e => .inl e)
    have hb4 := hb3.set_ 16 (.slice a' (v.kn + 1) cap')
    have hR4 : RowN (W3.setCell ⟨w.heap.size, 16, none⟩ (.slice a' (v.kn + 1) cap')) (Go.Proofs.YtljefbfjehblpaaGreat.sl b' (v.kn + 1) cap') (d.kids ++ [id]) := by
      rw [← hb']
      exact hR3.keptF k4 (fun b e f => by
        rw [hb', sl_own] at e
        rcases hsl b e with g | g
        · exact (hown b g).1 f
        · omega)
    have hb5 : Blk (W3.setCell ⟨w.heap.size, 16, none⟩ (.slice a' (v.kn + 1) cap')) w.heap.size 89 (aN { v with kb := b', kn := v.kn + 1, kc := cap' }) := by
      rw [hb'] at hb4 ⊢
      exact hb4
    exact ⟨_, _, doPost_k hlow hr kW kk4 hR4 hsl hb5⟩
  have hqq : (W.drew.alloc (.cells #[.int .i64 id] 3)).heap.size = W.heap.size + 1 := by simp
  have HB3 := Lib.hid (show w.heap.size < W3.heap.size from hb3.lt)
  clear hR hR3 hb hb3 hr kW k3 kk kA hbq hbqW hn hl ho hlow hcq hown hsl hb' c16 cbq hqq
  generalize w.heap.size = q at *
  generalize (.slice (v.kb.map fun x => ⟨x, 0, none⟩) v.kn v.kc : Value) = kv at *
  generalize v.kn + 1 = n1 at *
  have hw3 := HB3.out
  show Calls Tryz.prog 52 #[.pointer (some ⟨q, 0, none⟩), .pointer (some ⟨bq, 0, none⟩)] W _
  go_enter Tryz.func52, Tryz.ntmps52
  go_wp2_with fail
  refine wp_region_lastL (SPut q 16 bq id kv) (by simp) (by kernel_rfl) (by kernel_rfl) ?_
  simp only [List.dropLast, List.getLast]
  refine takeH (i := 0) (some 3) (.pointer (some ⟨q, 0, none⟩)) rfl rfl (by kernel_rfl) (by kernel_rfl) (by kernel_rfl) (fun _ _ _ h => h) (by rfl) S0.out ?_ ?_
  · intro w hSw
    go_simp
  simp only [Act.put, List.setIfInBounds_toArray, List.set_cons_succ, List.set_cons_zero]
  refine takeH (i := 1) (some 4) (.pointer (some ⟨q, 0, none⟩)) rfl rfl (by kernel_rfl) (by kernel_rfl) (by kernel_rfl) (fun _ _ _ h => h) (by rfl) S0.out ?_ ?_
  · intro w hSw
    go_simp
  simp only [Act.put, List.setIfInBounds_toArray, List.set_cons_succ, List.set_cons_zero]
  refine takeH (i := 2) (some 5) (.pointer (some ⟨q, 0, none⟩)) rfl rfl (by kernel_rfl) (by kernel_rfl) (by kernel_rfl) (fun _ _ _ h => h) (by rfl) S0.out ?_ ?_
  · intro w hSw
    go_simp
  simp only [Act.put, List.setIfInBounds_toArray, List.set_cons_succ, List.set_cons_zero]
  refine takeH (i := 3) (some 6) (.pointer (some ⟨q, 16, none⟩)) rfl rfl (by kernel_rfl) (by kernel_rfl) (by kernel_rfl) (fun _ _ _ h => h) (by rfl) S0.out ?_ ?_
  · intro w hSw
    go_simp
  simp only [Act.put, List.setIfInBounds_toArray, List.set_cons_succ, List.set_cons_zero]
  refine takeH (i := 4) (some 7) (kv) rfl rfl (by kernel_rfl) (by kernel_rfl) (by kernel_rfl) (fun _ _ _ h => h) (by rfl) S0.out ?_ ?_
  · intro w hSw
    have h1 := hSw.1; go_simp
  simp only [Act.put, List.setIfInBounds_toArray, List.set_cons_succ, List.set_cons_zero]
  refine takeH (i := 5) (some 8) (.int .i64 id) rfl rfl (by kernel_rfl) (by kernel_rfl) (by kernel_rfl) (fun _ _ _ h => h) (by rfl) S0.out ?_ ?_
  · intro w hSw
    have h2 := hSw.2; go_simp
  simp only [Act.put, List.setIfInBounds_toArray, List.set_cons_succ, List.set_cons_zero]
  refine wpAnyH_all (rs := [6]) (by kernel_rfl) (by decide) (forall_one ?_)
  refine wpOp_of rfl rfl (lit_wp (some 9) rfl (v := (.slice (some ⟨W.drew.heap.size, 0, none⟩) 1 1)) (w' := W.drew.alloc (.cells #[.int .i64 id] 3)) ?_ ⟨S1.out, ?_⟩)
  · go_simp
  simp only [Act.put, List.setIfInBounds_toArray, List.set_cons_succ, List.set_cons_zero]
  refine wpAnyH_all (rs := [7]) (by kernel_rfl) (by decide) (forall_one ?_)
  refine wpOp_of rfl rfl (app_wp (some 10) rfl (.tmp 7) (.tmp 9) 28 28 rfl rfl kv _ rfl rfl hrun ⟨S2.out, ?_⟩)
  simp only [Act.put, List.setIfInBounds_toArray, List.set_cons_succ, List.set_cons_zero]
  refine takeH (i := 8) (some 11) (.pointer (some ⟨q, 0, none⟩)) rfl rfl (by kernel_rfl) (by kernel_rfl) (by kernel_rfl) (fun _ _ _ h => h) (by rfl) S2.out ?_ ?_
  · intro w hSw
    go_simp
  simp only [Act.put, List.setIfInBounds_toArray, List.set_cons_succ, List.set_cons_zero]
  refine takeH (i := 9) (some 12) (.pointer (some ⟨q, 16, none⟩)) rfl rfl (by kernel_rfl) (by kernel_rfl) (by kernel_rfl) (fun _ _ _ h => h) (by rfl) S2.out ?_ ?_
  · intro w hSw
    go_simp
  simp only [Act.put, List.setIfInBounds_toArray, List.set_cons_succ, List.set_cons_zero]
  refine wpAnyH_done (by kernel_rfl) ?_ _
  refine store_wp rfl rfl ?_
  go_wp2_with fail
  go_end0
  exact ⟨rfl, HE.out _ rfl⟩
set_option maxHeartbeats 4000000 in
theorem pushO_ok (hlow : ∀ b, c b ≠ 0 → b < w.heap.size) {bq id : Nat} (hbq : Blk w bq 3 #[.int .i64 id]) (hcq : c bq = 0) (hl : d.outer.length ≤ 5000) : DoOK w c k d { d with outer := d.outer ++ [id] } 53 #[.pointer (some ⟨bq, 0, none⟩)] := by
  intro v W hr kW hb
  have hR := hr.or.keptN ((Kept.refl Nil W).drew)
  have hn : v.on = d.outer.length := by
    obtain ⟨a, cap, e⟩ := hr.or.shape
    unfold Go.Proofs.YtljefbfjehblpaaGreat.sl at e
    injection e
  unfold Go.Proofs.YtljefbfjehblpaaGreat.sl at hR
  obtain ⟨a', cap', W3, hrun, hR3, k3, ho⟩ := hR.push2 elsNt cNt_len cNt_one 28 (Nat.zero_le _) hl id #[.int .i64 id] rfl
  obtain ⟨b', hb'⟩ := RowN.sl hR3
  have hq : w.heap.size < W.heap.size := hb.lt
  have hbqW := (hbq.kept kW (fun e => e))
  have c16 : W.cell? ⟨w.heap.size, 17, none⟩ = some (.slice (v.ob.map fun x => ⟨x, 0, none⟩) v.on v.oc) := by rw [hb.cell]; rfl
  have cbq : W.cell? ⟨bq, 0, none⟩ = some (.int .i64 id) := by rw [hbqW.cell]; rfl
  have S0 : Hid (SPut w.heap.size 17 bq id (.slice (v.ob.map fun x => ⟨x, 0, none⟩) v.on v.oc) W.drew) := Lib.hid ⟨c16, cbq⟩
  have kA : Kept Nil W (W.drew.alloc (.cells #[.int .i64 id] 3)) := ((Kept.refl Nil W).drew).alloc _
  have S1 : Hid (SPut w.heap.size 17 bq id (.slice (v.ob.map fun x => ⟨x, 0, none⟩) v.on v.oc) (W.drew.alloc (.cells #[.int .i64 id] 3))) := Lib.hid ⟨by rw [kA.cell hq (fun e => e)]; exact c16, by rw [kA.cell hbqW.lt (fun e => e)]; exact cbq⟩
  have kk : Kept (fun b => v.ob = some b) W W3 := ((Kept.refl _ W).drew).trans k3 (fun i _ e => by
    have : (Value.slice (v.ob.map fun x => (⟨x, 0, none⟩ : Addr)) v.on v.oc).ownBlock = v.ob := sl_own _ _ _
    rw [this] at e; exact e)
  have hown : ∀ b, v.ob = some b → b ≠ w.heap.size ∧ b ≠ bq := fun b e => by
    have h1 := hr.oc b e
    have := hlow b (by omega)
    exact ⟨by omega, fun e2 => by rw [e2] at h1; omega⟩
  have hb3 : Blk W3 w.heap.size 89 (aN v) := hb.kept kk (fun e => (hown _ e).1 rfl)
  have S2 : Hid (SPut w.heap.size 17 bq id (.slice (v.ob.map fun x => ⟨x, 0, none⟩) v.on v.oc) W3) := Lib.hid ⟨by rw [kk.cell hq (fun e => (hown _ e).1 rfl)]; exact c16, by rw [kk.cell hbqW.lt (fun e => (hown _ e).2 rfl)]; exact cbq⟩
  have c3 : W3.cell? ⟨w.heap.size, 17, none⟩ = some (.slice (v.ob.map fun x => ⟨x, 0, none⟩) v.on v.oc) := S2.out.1
  have f3 := hb3.frozen 17
  have hsl : ∀ b, b' = some b → v.ob = some b ∨ W.heap.size ≤ b := fun b e => by
    have e2 : (Value.slice a' (v.on + 1) cap').ownBlock = some b := by rw [hb', sl_own]; exact e
    rcases ho b e2 with e3 | e3
    · exact .inl ((sl_own v.ob v.on v.oc).symm.trans e3)
    · exact .inr e3
  have HE : Hid (∀ W4, W4 = W3.setCell ⟨w.heap.size, 17, none⟩ (.slice a' (v.on + 1) cap') → ∃ v' c', DoPost w c k w.heap.size { d with outer := d.outer ++ [id] } W4 v' c' ∧ Kept (DoF c k w.heap.size W) W W4) := Lib.hid fun W4 e4 => by
    subst e4
    have k4 : Kept (fun b => b = w.heap.size) W3 (W3.setCell ⟨w.heap.size, 17, none⟩ (.slice a' (v.on + 1) cap')) := Kept.setCell (F := fun b => b = w.heap.size) (Kept.refl _ _) _ (.inl rfl) _
    have kk4 : Kept (fun b => b = w.heap.size ∨ v.ob = some b) W (W3.setCell ⟨w.heap.size, 17, none⟩ (.slice a' (v.on + 1) cap')) := (kk.mono (fun _ _ e => .inr e)).trans k4 (fun _ _ e => .inl e)
    have hb4 := hb3.set_ 17 (.slice a' (v.on + 1) cap')
    have hR4 : RowN (W3.setCell ⟨w.heap.size, 17, none⟩ (.slice a' (v.on + 1) cap')) (Go.Proofs.YtljefbfjehblpaaGreat.sl b' (v.on + 1) cap') (d.outer ++ [id]) := by
      rw [← hb']
      exact hR3.keptF k4 (fun b e f => by
        rw [hb', sl_own] at e
        rcases hsl b e with g | g
        · exact (hown b g).1 f
        · omega)
    have hb5 : Blk (W3.setCell ⟨w.heap.size, 17, none⟩ (.slice a' (v.on + 1) cap')) w.heap.size 89 (aN { v with ob := b', on := v.on + 1, oc := cap' }) := by
      rw [hb'] at hb4 ⊢
      exact hb4
    exact ⟨_, _, doPost_o hlow hr kW kk4 hR4 hsl hb5⟩
  have hqq : (W.drew.alloc (.cells #[.int .i64 id] 3)).heap.size = W.heap.size + 1 := by simp
  have HB3 := Lib.hid (show w.heap.size < W3.heap.size from hb3.lt)
  clear hR hR3 hb hb3 hr kW k3 kk kA hbq hbqW hn hl ho hlow hcq hown hsl hb' c16 cbq hqq
  generalize w.heap.size = q at *
  generalize (.slice (v.ob.map fun x => ⟨x, 0, none⟩) v.on v.oc : Value) = kv at *
  generalize v.on + 1 = n1 at *
  have hw3 := HB3.out
  show Calls Tryz.prog 53 #[.pointer (some ⟨q, 0, none⟩), .pointer (some ⟨bq, 0, none⟩)] W _
  go_enter Tryz.func53, Tryz.ntmps53
  go_wp2_with fail
  refine wp_region_lastL (SPut q 17 bq id kv) (by simp) (by kernel_rfl) (by kernel_rfl) ?_
  simp only [List.dropLast, List.getLast]
  refine takeH (i := 0) (some 3) (.pointer (some ⟨q, 0, none⟩)) rfl rfl (by kernel_rfl) (by kernel_rfl) (by kernel_rfl) (fun _ _ _ h => h) (by rfl) S0.out ?_ ?_
  · intro w hSw
    go_simp
  simp only [Act.put, List.setIfInBounds_toArray, List.set_cons_succ, List.set_cons_zero]
  refine takeH (i := 1) (some 4) (.pointer (some ⟨q, 0, none⟩)) rfl rfl (by kernel_rfl) (by kernel_rfl) (by kernel_rfl) (fun _ _ _ h => h) (by rfl) S0.out ?_ ?_
  · intro w hSw
    go_simp
  simp only [Act.put, List.setIfInBounds_toArray, List.set_cons_succ, List.set_cons_zero]
  refine takeH (i := 2) (some 5) (.pointer (some ⟨q, 0, none⟩)) rfl rfl (by kernel_rfl) (by kernel_rfl) (by kernel_rfl) (fun _ _ _ h => h) (by rfl) S0.out ?_ ?_
  · intro w hSw
    go_simp
  simp only [Act.put, List.setIfInBounds_toArray, List.set_cons_succ, List.set_cons_zero]
  refine takeH (i := 3) (some 6) (.pointer (some ⟨q, 17, none⟩)) rfl rfl (by kernel_rfl) (by kernel_rfl) (by kernel_rfl) (fun _ _ _ h => h) (by rfl) S0.out ?_ ?_
  · intro w hSw
    go_simp
  simp only [Act.put, List.setIfInBounds_toArray, List.set_cons_succ, List.set_cons_zero]
  refine takeH (i := 4) (some 7) (kv) rfl rfl (by kernel_rfl) (by kernel_rfl) (by kernel_rfl) (fun _ _ _ h => h) (by rfl) S0.out ?_ ?_
  · intro w hSw
    have h1 := hSw.1; go_simp
  simp only [Act.put, List.setIfInBounds_toArray, List.set_cons_succ, List.set_cons_zero]
  refine takeH (i := 5) (some 8) (.int .i64 id) rfl rfl (by kernel_rfl) (by kernel_rfl) (by kernel_rfl) (fun _ _ _ h => h) (by rfl) S0.out ?_ ?_
  · intro w hSw
    have h2 := hSw.2; go_simp
  simp only [Act.put, List.setIfInBounds_toArray, List.set_cons_succ, List.set_cons_zero]
  refine wpAnyH_all (rs := [6]) (by kernel_rfl) (by decide) (forall_one ?_)
  refine wpOp_of rfl rfl (lit_wp (some 9) rfl (v := (.slice (some ⟨W.drew.heap.size, 0, none⟩) 1 1)) (w' := W.drew.alloc (.cells #[.int .i64 id] 3)) ?_ ⟨S1.out, ?_⟩)
  · go_simp
  simp only [Act.put, List.setIfInBounds_toArray, List.set_cons_succ, List.set_cons_zero]
  refine wpAnyH_all (rs := [7]) (by kernel_rfl) (by decide) (forall_one ?_)
  refine wpOp_of rfl rfl (app_wp (some 10) rfl (.tmp 7) (.tmp 9) 28 28 rfl rfl kv _ rfl rfl hrun ⟨S2.out, ?_⟩)
  simp only [Act.put, List.setIfInBounds_toArray, List.set_cons_succ, List.set_cons_zero]
  refine takeH (i := 8) (some 11) (.pointer (some ⟨q, 0, none⟩)) rfl rfl (by kernel_rfl) (by kernel_rfl) (by kernel_rfl) (fun _ _ _ h => h) (by rfl) S2.out ?_ ?_
  · intro w hSw
    go_simp
  simp only [Act.put, List.setIfInBounds_toArray, List.set_cons_succ, List.set_cons_zero]
  refine takeH (i := 9) (some 12) (.pointer (some ⟨q, 17, none⟩)) rfl rfl (by kernel_rfl) (by kernel_rfl) (by kernel_rfl) (fun _ _ _ h => h) (by rfl) S2.out ?_ ?_
  · intro w hSw
    go_simp
  simp only [Act.put, List.setIfInBounds_toArray, List.set_cons_succ, List.set_cons_zero]
  refine wpAnyH_done (by kernel_rfl) ?_ _
  refine store_wp rfl rfl ?_
  go_wp2_with fail
  go_end0
  exact ⟨rfl, HE.out _ rfl⟩
end
end
section
open Go.RowKit Go.Maps Go.WideMaps
set_option maxRecDepth 100000

abbrev zs (l : List Nat) : List Int := l.map (fun x : Nat => (x : Int))
theorem flatNt (l : List Nat) : l.flatMap cNt = (zs l).map (Value.int .i64) := by
  induction l with
  | nil => rfl
  | cons x r ih => rw [List.flatMap_cons, ih]; rfl
theorem rise_split {x : Nat} : ∀ {l : List Nat}, l.Pairwise (· < ·) → x ∈ l → ∃ i, i < l.length ∧ (zs l).countP (fun y => decide (y < (x : Int))) = i ∧ l.take i ++ l.drop (i + 1) = l.filter fun y => decide (y ≠ x)
  | [], _, h => by cases h
  | y :: r, hp, h => by
    obtain ⟨h1, h2⟩ := List.pairwise_cons.1 hp
    by_cases e : y = x
    · subst e
      refine ⟨0, by simp, ?_, ?_⟩
      · rw [List.countP_eq_zero]
        intro z hz
        rcases List.mem_cons.1 hz with rfl | hz
        · simp
        · obtain ⟨a, ha, rfl⟩ := List.mem_map.1 hz
          have := h1 a ha
          simp; omega
      · rw [List.filter_cons_of_neg (by simp)]
        simp only [List.take_zero, List.nil_append, List.drop_succ_cons, List.drop_zero]
        symm
        rw [List.filter_eq_self]
        intro z hz
        have := h1 z hz
        simp; omega
    · have hx : x ∈ r := (List.mem_cons.1 h).resolve_left (fun e2 => e e2.symm)
      obtain ⟨i, hi, hc, ht⟩ := rise_split h2 hx
      have hlt := h1 x hx
      refine ⟨i + 1, by simp; omega, ?_, ?_⟩
      · show List.countP _ ((y : Int) :: zs r) = i + 1
        rw [List.countP_cons_of_pos (by simp; omega), hc]
      · rw [List.filter_cons_of_pos (by simpa using e), ← ht]
        rfl
set_option maxHeartbeats 4000000 in
theorem without_any {w : World} {b n cap x : Nat} {l : List Nat} (h : RowN w (.slice (some ⟨b, 0, none⟩) n cap) l) (hr : l.Pairwise (· < ·)) (hx : x ∈ l) (hl : l.length ≤ 5000) :
    Calls Tryz.prog 63 #[.slice (some ⟨b, 0, none⟩) n cap, .int .i64 x] w fun e w' => e = .returned (.slice (some ⟨b, 0, none⟩) (n - 1) cap) ∧ RowN w' (.slice (some ⟨b, 0, none⟩) (n - 1) cap) (l.filter fun y => decide (y ≠ x)) ∧ Kept (fun k => k = b) w w' := by
  obtain ⟨i, hi, hc, ht⟩ := rise_split hr hx
  rcases h.2 with ⟨e, _⟩ | ⟨g, cap', cur, e, _, hg, hcap, hmax, hsz, htake⟩
  · cases e
  cases e
  obtain ⟨n, hn⟩ : ∃ n, l.length = n := ⟨_, rfl⟩
  rw [hn] at h hcap ⊢
  have hzl : (zs l).length = l.length := by simp
  have htk : cur.toList.take (zs l).length = (zs l).map (Value.int .i64) := by rw [hzl, ← flatNt]; simpa using htake
  have hH := holds_of_blockI hg htk
  have hcell : ∀ j, j < (zs l).length → w.cell? ⟨b, 0 + j, none⟩ = some (.int .i64 ((zs l).getD j 0)) := fun j hj => by
    rw [(hH j (by simpa using hj)).1]
    simp [List.getD, Array.getElem!_eq_getD]
  have hsort : ((zs l).take n).Pairwise (· ≤ ·) := by
    refine List.Pairwise.sublist (List.take_sublist _ _) (List.pairwise_map.2 (hr.imp (fun {a b} hab => ?_)))
    omega
  have CB := Lib.hid (AnyG.slices_BinarySearch_int Tryz.searchI b 0 n cap (zs l) x w (by omega) (by omega) hcell hsort)
  have hct : ((zs l).take n).countP (fun y => decide (y < (x : Int))) = i := by rw [List.take_of_length_le (by omega)]; exact hc
  have hcn : ((zs l).take n).contains (x : Int) = true := by
    rw [List.take_of_length_le (by omega)]
    exact List.contains_iff_mem.2 (List.mem_map.2 ⟨x, hx, rfl⟩)
  rw [hct, hcn] at CB
  have CD := Lib.hid (fun q => AnyG.slices_Delete_int Tryz.delI b 0 cap i (i + 1) (zs l) (w.drewN q) (fun j hj => hH j hj) (by omega) (by unfold maxLen at hmax; omega) (by omega) (by omega))
  have hw1 : IntKind.i64.wrap ((i : Int) + 1) = ((i + 1 : Nat) : Int) := by rw [IntKind.wrap_i64]; omega
  have HE : Hid (∀ q q', RowN (Go.Sort.putRow (Value.int .i64) (Go.Sort.ahead (w.drewN q) q') b 0 ((zs l).take i ++ (zs l).drop (i + 1) ++ List.replicate (i + 1 - i) 0).toArray) (.slice (some ⟨b, 0, none⟩) (n - 1) cap) (l.filter fun y => decide (y ≠ x)) ∧ Kept (fun k => k = b) w (Go.Sort.putRow (Value.int .i64) (Go.Sort.ahead (w.drewN q) q') b 0 ((zs l).take i ++ (zs l).drop (i + 1) ++ List.replicate (i + 1 - i) 0).toArray)) := Lib.hid fun q q' => by
    have e1 : i + 1 - i = 1 := by omega
    rw [e1]
    have hlen : ((zs l).take i ++ (zs l).drop (i + 1) ++ List.replicate 1 0).length = (zs l).length := by simp; omega
    have o := ownsRow_sortedI (w := w.drewN q) (base := 0) (g := b) (cap := cap) (n := q') (e := 3) (os := #[]) (cur := cur) (ss := zs l) (ts := (zs l).take i ++ (zs l).drop (i + 1) ++ List.replicate 1 0) hlen (Nat.zero_le _) (by simpa using hg) (by omega) hmax (by simpa using hsz)
    have hgr := grownBy_sortedI (w := w.drewN q) (g := b) (n := q') (os := #[]) ((zs l).take i ++ (zs l).drop (i + 1) ++ List.replicate 1 0).toArray
    rw [Go.Sort.grow_empty] at o hgr
    rw [List.map_append] at o
    refine ⟨?_, ((Kept.refl _ w).drewN q).grown hgr (fun k e => .inl (by simpa using e.symm))⟩
    have o2 := ownsRow_head (n := n - 1) o (by simp; omega) (by omega)
    have hfl : (l.filter fun y => decide (y ≠ x)).length = n - 1 := by rw [← ht]; simp; omega
    have hff : (l.filter fun y => decide (y ≠ x)).flatMap cNt = ((zs l).take i ++ (zs l).drop (i + 1)).map (Value.int .i64) := by
      rw [← ht, flatNt]
      simp [zs, List.map_take, List.map_drop]
    unfold RowN Row
    rw [hfl, hff]
    exact o2
  rw [show (zs l).length = n by omega, show n - (i + 1 - i) = n - 1 by omega] at CD
  have hin : i ≤ 5000 := by omega
  clear h hr hx hc ht hg hcap hmax hsz htake hH hcell hsort hct hcn htk
  go_enter Tryz.func63, Tryz.ntmps63
  go_wp2_with fail
  refine CB.out.mono ?_
  rintro e w1 ⟨rfl, q1, rfl⟩
  go_wp2_with fail
  refine (CD.out q1).mono ?_
  rintro e w2 ⟨rfl, q2, rfl⟩
  go_wp2_with fail
  go_ret
  have := HE.out q1 q2
  simp at this ⊢
  exact this
end
end Go.Proofs.YtljefbfjehblpaaGreat
