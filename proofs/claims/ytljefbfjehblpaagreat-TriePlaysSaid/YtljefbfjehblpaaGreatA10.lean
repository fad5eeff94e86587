/- Layer trie: copy of a step's tests into a shape; who is handed each chain's shape. – Layer trie: the program's walk, whatever each chain's shape is handed to. – Layer trie: the program's path, whatever each chain's shape is handed to. -/
import Derived.Test.YtljefbfjehblpaaGreatA9
import Derived.Test.YtljefbfjehblpaaGreatA5
import Derived.Laws.CopyRow
import Derived.Deep.DeepCutAuto
namespace Go.Proofs.YtljefbfjehblpaaGreat
section
open Go.RowKit Go.Maps Go.WideMaps
set_option maxRecDepth 100000

/-- copy, elements of any size. -/
theorem run_copy_rowS {P : Program} (w : World) (dT sT ty elem : TypeId) (sz : Nat) (g o dLen dCap : Nat) (a : Addr) (sLen sCap : Nat) (cur : Array Value) (t : TypeId) (cs : List Value)
    (hu : P.underlying dT = some (.slice elem)) (hs : (P.info? elem).map (·.size) = some sz)
    (hg : w.heap[g]? = some (.cells cur t (0, 0))) (hn : cs.length = Nat.min sLen dLen * sz)
    (hsrc : ∀ j v, cs[j]? = some v → w.cell? (a.add j) = some v) (hfit : o + cs.length ≤ cur.size) (h1 : ∀ v ∈ cs, v.oneCell' = true) :
    (Builtin.copy_ #[dT, sT] ty #[.slice (some ⟨g, o, none⟩) dLen dCap, .slice (some a) sLen sCap]).run P w =
      .ok (goInt (Nat.min sLen dLen)) (w.setRow g (cur.toList.take o ++ cs ++ cur.toList.drop (o + cs.length)).toArray) := by
  have hl := run_loadCells_list (P := P) w a cs hsrc
  have hst := run_storeCells_at P g o t cs 0 cur w hg (by simpa using hfit) h1
  cases hq : P.info? elem with
  | none => simp [hq] at hs
  | some i =>
    have hi : i.size = sz := by simpa [hq] using hs
    simp [Builtin.copy_, run_underlying hu, Builtin.lenOf, Builtin.firstCells, sizeOf, typeInfo, hq, hi, ← hn, hl, hst]
theorem run_copy_noneS {P : Program} (w : World) (dT sT ty elem : TypeId) (g o dLen dCap : Nat) (a : Option Addr) (sCap : Nat)
    (hu : P.underlying dT = some (.slice elem)) (hs : ((P.info? elem).map (·.size)).isSome = true) :
    (Builtin.copy_ #[dT, sT] ty #[.slice (some ⟨g, o, none⟩) dLen dCap, .slice a 0 sCap]).run P w = .ok (goInt 0) w := by
  cases hq : P.info? elem with
  | none => simp [hq] at hs
  | some i => cases a <;> simp [Builtin.copy_, run_underlying hu, Builtin.lenOf, Builtin.firstCells, sizeOf, typeInfo, hq, storeCells, loadCells, loadCellsFrom]
/-- A shape without its tests; with them. -/
def shp0 (p : Int) (h : SH) (q : Int) : Sp := ⟨p, h.k, h.k0, h.k1, h.k2, 0, 0, 0, 0, 0, 0, 0, 0, 0, h.ts.length, q⟩
def shpI (p : Int) (h : SH) (q : Int) : Sp := ⟨p, h.k, h.k0, h.k1, h.k2, tc h.ts 0, tc h.ts 1, tc h.ts 2, tc h.ts 3, tc h.ts 4, tc h.ts 5, tc h.ts 6, tc h.ts 7, tc h.ts 8, h.ts.length, q⟩
theorem copy_tests {w : World} {b9 : Nat} {p q : Int} {h : SH} {ok : Nat → Nat → Prop} {ta : Option Addr} {tc' : Nat} (hb : Blk w b9 62 (aSp (shp0 p h q))) (hl : h.ts.length ≤ 3) (ht : TsAt w ok (.slice ta h.ts.length tc') h.ts) (ty : TypeId) :
    ∃ W', (Builtin.copy_ #[63, 63] ty #[.slice (some ⟨b9, 5, none⟩) 3 3, .slice ta h.ts.length tc']).run Tryz.prog w = .ok (.int .i64 h.ts.length) W' ∧ Kept (fun b => b = b9) w W' ∧ Blk W' b9 62 (aSp (shpI p h q)) := by
  have hs3 : (Tryz.prog.info? 59).map (·.size) = some 3 := infoT3
  obtain ⟨k, k0, k1, k2, ts⟩ := h
  simp only at hl ht ⊢
  by_cases h0 : ts = []
  · subst h0
    exact ⟨w, run_copy_noneS w _ _ _ 59 _ _ _ _ _ _ Tryz.underlying63 (by rw [hs3]; rfl), Kept.refl _ _, hb⟩
  · have hpos : 0 < ts.length := List.length_pos_iff.2 h0
    obtain ⟨b, o, rfl, _, _⟩ := ht.at_ (List.getElem?_eq_getElem hpos)
    have hcell : ∀ j v, (ts.flatMap cT)[j]? = some v → w.cell? ((⟨b, o, none⟩ : Addr).add j) = some v := fun j v hj => by
      have hlt := (List.getElem?_eq_some_iff.1 hj).1
      rw [flat_len (size := 3) (fun _ => rfl)] at hlt
      have hd : j / 3 < ts.length := by omega
      obtain ⟨b', o', e, _, hr⟩ := ht.at_ (List.getElem?_eq_getElem hd)
      cases e
      have e2 : j / 3 * 3 + j % 3 = j := by omega
      have hf := flat_get (cells := cT) (size := 3) (fun _ => rfl) ts (j / 3) (j % 3) _ (List.getElem?_eq_getElem hd) (by omega)
      rw [e2, hj] at hf
      have := hr (j % 3) v hf.symm
      rw [Nat.add_assoc, e2] at this
      rw [Addr.add_mid]; exact this
    have hmin : Nat.min ts.length 3 = ts.length := Nat.min_eq_left hl
    have r := run_copy_rowS (P := Tryz.prog) w 63 63 ty 59 3 b9 5 3 3 ⟨b, o, none⟩ ts.length tc' _ 62 (ts.flatMap cT) Tryz.underlying63 hs3 hb (by rw [flat_len (size := 3) (fun _ => rfl), hmin]) hcell (by rw [flat_len (size := 3) (fun _ => rfl)]; simp [aSp]; omega) (fun v hv => by
      obtain ⟨t, _, ht⟩ := List.mem_flatMap.1 hv
      simp only [cT, List.mem_cons, List.not_mem_nil, or_false] at ht
      rcases ht with rfl | rfl | rfl <;> rfl)
    rw [hmin] at r
    refine ⟨_, r, Kept.setRow (F := fun b => b = b9) (Kept.refl _ w) b9 (.inl rfl) _, ?_⟩
    have hrow := hb.row (((aSp (shp0 p ⟨k, k0, k1, k2, ts⟩ q)).toList.take 5 ++ ts.flatMap cT ++ (aSp (shp0 p ⟨k, k0, k1, k2, ts⟩ q)).toList.drop (5 + (ts.flatMap cT).length)).toArray)
    have e : ((aSp (shp0 p ⟨k, k0, k1, k2, ts⟩ q)).toList.take 5 ++ ts.flatMap cT ++ (aSp (shp0 p ⟨k, k0, k1, k2, ts⟩ q)).toList.drop (5 + (ts.flatMap cT).length)).toArray = aSp (shpI p ⟨k, k0, k1, k2, ts⟩ q) := by
      rcases list_le3 hl with rfl | ⟨⟨a0, a1, a2⟩, rfl⟩ | ⟨⟨a0, a1, a2⟩, ⟨c0, c1, c2⟩, rfl⟩ | ⟨⟨a0, a1, a2⟩, ⟨c0, c1, c2⟩, ⟨d0, d1, d2⟩, rfl⟩
      · exact absurd rfl h0
      · rfl
      · rfl
      · rfl
    rw [e] at hrow ⊢
    exact hrow
/-- A copy, by an equation on its run. -/
theorem copy_wp {P : Program} {o : Oper} (d : Option Tmp) (hd : o.dst = d) {a : Act} {w : World} {K : Act → World → Prop} {Q : Exit → Act → World → Prop} (s x : Operand) (t t2 ty : TypeId) (hty : o.type = ty)
    (ho : o.op = .call { callee := .builtin .copy, args := #[s, x], argTypes := #[t, t2] }) (v y : Value) (hs : a.eval s = v) (hx : a.eval x = y) {v' : Value} {w' : World}
    (hr : (Builtin.copy_ #[t, t2] ty #[v, y]).run P w = .ok v' w') (h : K (a.put d v') w') : o.wp P a w K Q := by
  subst hd hty
  unfold Oper.wp execOp
  simp only [ho, resolve, invoke, builtin, Sem.run_bind, Sem.run_pure, Result.andThen_ok, List.map_toArray, List.map_cons, List.map_nil, hs, hx, hr]
  exact h
theorem wpList_load_Sp {ops : Array Oper} {rest : List Oper} {o : Oper} {a : Act} {w : World} {Q : Exit → Act → World → Prop} (hgd : o.guard = none) (x : Operand) (ho : o.op = .load 62 x)
    (g : Nat) (hx : a.eval x = .pointer (some ⟨g, 0, none⟩)) (s : Sp) (hb : Blk w g 62 (aSp s))
    (h : wpList Tryz.prog ops Q rest (a.put o.dst (.agg (aSp s))) w) : wpList Tryz.prog ops Q (o :: rest) a w :=
  wpList_load_row hgd _ x ho g hx _ _ _ _ hb Tryz.underlying62 rfl (infoSp16 s) h
def inQ (num : List St → Nat) (d : List St) (s : St) : Nat := if s.hd.k = 3 then num (d ++ s.subs) else 0
/-- To what each chain's shape is handed: the numbers of chains; all chains that there will be; what it keeps of those that it has had (I), which blocks it writes. -/
structure NextOK (W0 : World) (num : List St → Nat) (all : List (List St)) (g : FuncId) (bd caps : Array Value) (I : List (List St) → (Nat → Prop) → World → Prop) : Prop where
  enter : ∀ args w, (callFunc g args).run Tryz.prog w = .ok (.enter g args) w
  lt : ∀ D F w, I D F w → ∀ b, F b → b < w.heap.size
  stable : ∀ D F w w' G, I D F w → Kept G w w' → (∀ b, G b → W0.heap.size ≤ b ∧ ¬ F b) → I D F w'
  call : ∀ D d s F w, I D F w → (∃ r, all = D ++ (d ++ [s]) :: r) → W0.heap.size ≤ w.heap.size → Gd s →
    Calls Tryz.prog g (bd ++ #[.agg (aSp (shp (num d) s.hd (inQ num d s)))] ++ caps) w fun o w' => ∃ F', o = .returned (.int .i64 (num (d ++ [s]))) ∧ I (D ++ [d ++ [s]]) F' w' ∧ (∀ b, F' b → F b ∨ w.heap.size ≤ b) ∧ Kept F w w'
/-- What walk leaves. -/
def WalkEnd (num : List St → Nat) (I : List (List St) → (Nat → Prop) → World → Prop) (D : List (List St)) (F : Nat → Prop) (ab l : List St) (w : World) (e : Ending) (w' : World) : Prop :=
  ∃ F', e = .returned (.int .i64 (num (ab ++ l))) ∧ I (D ++ chSL l ab) F' w' ∧ (∀ b, F' b → F b ∨ w.heap.size ≤ b) ∧ Kept F w w'
abbrev WalkOK (W0 : World) (num : List St → Nat) (all : List (List St)) (g : FuncId) (bd caps : Array Value) (I : List (List St) → (Nat → Prop) → World → Prop) (l : List St) : Prop :=
  ∀ (ab : List St) (D r : List (List St)) (F Q : Nat → Prop) (a : Option Addr) (cap : Nat) (w : World), all = D ++ chSL l ab ++ r → I D F w → W0.heap.size ≤ w.heap.size → (∀ b, Q b → b < w.heap.size ∧ ¬ F b) → SHolds w (fun b _ => Q b) (.slice a l.length cap) l → (∀ s ∈ l, Gd s) → cntL l ≤ 5000 →
    Calls Tryz.prog 60 #[.int .i64 (num ab), .slice a l.length cap, .func (.func g) bd caps] w (WalkEnd num I D F ab l w)
end
section
open Go.RowKit Go.Maps Go.WideMaps
set_option maxRecDepth 100000

/-- What walk reads in its region. -/
def SWk (b8 : Nat) (vt : Value) (w : World) : Prop := w.cell? ⟨b8, 4, none⟩ = some vt
abbrev WalkIH (W0 : World) (num : List St → Nat) (all : List (List St)) (g : FuncId) (bd caps : Array Value) (I : List (List St) → (Nat → Prop) → World → Prop) (l : List St) : Prop := ∀ hd sb, St.mk hd sb ∈ l → WalkOK W0 num all g bd caps I sb
set_option maxHeartbeats 8000000 in
theorem walk_step {W0 : World} {num : List St → Nat} {all : List (List St)} {g : FuncId} {bd caps : Array Value} {I : List (List St) → (Nat → Prop) → World → Prop} (N : NextOK W0 num all g bd caps I) (l : List St) (IH : Hid (WalkIH W0 num all g bd caps I l)) : WalkOK W0 num all g bd caps I l := by
  intro ab D r F Q a cap w hall hI hW0 hQ hH hg hcn
  obtain ⟨len, hlen⟩ : ∃ len, l.length = len := ⟨_, rfl⟩
  rw [hlen] at hH ⊢
  have hln : len ≤ 5000 := by have := length_cntL l; omega
  have HCN := Lib.hid hcn
  clear hcn
  have HN := Lib.hid N
  have HA := Lib.hid hall
  have HH := Lib.hid hH
  have HQ := Lib.hid hQ
  have HG := Lib.hid hg
  have HL := Lib.hid hlen
  have HI := Lib.hid hI
  have HW := Lib.hid hW0
  have hent := N.enter
  obtain ⟨x0, hx0⟩ : ∃ x0 : Int, (num ab : Int) = x0 := ⟨_, rfl⟩
  rw [hx0]
  have HX0 := Lib.hid hx0
  clear hall hH hQ hg hI hW0 N hx0 hlen
  go_enter Tryz.func60, Tryz.ntmps60
  go_wp2_with fail
  go_loopw [0, 12] (fun x i wr => ∃ (j : Nat) (F' : Nat → Prop), j ≤ len ∧ i = .int .i64 j ∧ x = .int .i64 (num (ab ++ l.take j)) ∧ I (D ++ chSL (l.take j) ab) F' wr ∧ (∀ b, F' b → F b ∨ w.heap.size ≤ b) ∧ Kept F w wr) (fun _ i _ => len - (intOf i).toNat)
  case atStart =>
    refine ⟨0, F, Nat.zero_le _, rfl, ?_, ?_, fun b e => .inl e, Kept.refl _ _⟩
    · rw [List.take_zero, List.append_nil, HX0.out]
    · rw [List.take_zero, chSL_nil, List.append_nil]; exact HI.out
  case round =>
    obtain ⟨j, F', hj, rfl, rfl, hI, hF', hK⟩ := hrel
    have HI' := Lib.hid hI
    have HF' := Lib.hid hF'
    have HK := Lib.hid hK
    clear hI hF' hK
    by_cases hlt : j < len
    · obtain ⟨⟨⟨k, k0, k1, k2, ts⟩, sb⟩, hx⟩ : ∃ x, l[j]? = some x := ⟨_, List.getElem?_eq_getElem (by have := HL.out; omega)⟩
      have hHr := HH.out.kept HK.out (fun b o e => (HQ.out b e).2)
      obtain ⟨b, o, ta, tc', ua, uc, rfl, hqb, hr, ht, hs⟩ := hHr.at_ hx
      have hgs := HG.out _ (List.mem_of_getElem? hx)
      have hgd := hgs.hd
      have HRow := Lib.hid hr
      have HT := Lib.hid ht
      have HS := Lib.hid hs
      have HGS := Lib.hid hgs
      have HGD := Lib.hid hgd
      have HXm := Lib.hid (List.mem_of_getElem? hx)
      have HTK : Hid (l.take (j + 1) = l.take j ++ [St.mk ⟨k, k0, k1, k2, ts⟩ sb]) := Lib.hid (by rw [List.take_add_one, hx]; rfl)
      have HCH := Lib.hid (chSL_take_succ hx ab)
      obtain ⟨R, hR⟩ : ∃ R, chSL l ab = chSL (l.take (j + 1)) ab ++ R := ⟨chSL (l.drop (j + 1)) (ab ++ l.take (j + 1)), by rw [← chSL_append, List.take_append_drop]⟩
      have HRR := Lib.hid hR
      obtain ⟨x, hxe⟩ : ∃ x : Nat, num (ab ++ l.take j) = x := ⟨_, rfl⟩
      have HXE := Lib.hid hxe
      rw [hxe]
      clear hr ht hs hx hgs hgd hHr hqb hR hxe
      obtain ⟨tn, htn⟩ : ∃ tn, ts.length = tn := ⟨_, rfl⟩
      obtain ⟨un, hun⟩ : ∃ un, sb.length = un := ⟨_, rfl⟩
      simp only at HRow HT HS
      rw [htn] at HRow HT
      rw [hun] at HRow HS
      have HTN := Lib.hid htn
      have HUN := Lib.hid hun
      clear htn hun
      obtain ⟨q8, hq8⟩ : ∃ q8, wr.heap.size = q8 := ⟨_, rfl⟩
      have HQ8 := Lib.hid hq8
      have kA : Kept Nil wr ((wr.alloc (.cells #[.int .i64 k, .int .i64 k0, .int .i64 k1, .int .i64 k2, .slice ta tn tc', .slice ua un uc] 65)).alloc (.cells (aSp (shp0 x ⟨k, k0, k1, k2, ts⟩ 0)) 62)) := ((Kept.refl _ _).alloc _).alloc _
      have b8 : Blk ((wr.alloc (.cells #[.int .i64 k, .int .i64 k0, .int .i64 k1, .int .i64 k2, .slice ta tn tc', .slice ua un uc] 65)).alloc (.cells (aSp (shp0 x ⟨k, k0, k1, k2, ts⟩ 0)) 62)) q8 65 #[.int .i64 k, .int .i64 k0, .int .i64 k1, .int .i64 k2, .slice ta tn tc', .slice ua un uc] := by rw [← hq8]; exact (Blk.new wr _ _).alloc _
      have hz8 : (wr.alloc (.cells #[.int .i64 k, .int .i64 k0, .int .i64 k1, .int .i64 k2, .slice ta tn tc', .slice ua un uc] 65)).heap.size = q8 + 1 := by simp [hq8]
      have b9 : Blk ((wr.alloc (.cells #[.int .i64 k, .int .i64 k0, .int .i64 k1, .int .i64 k2, .slice ta tn tc', .slice ua un uc] 65)).alloc (.cells (aSp (shp0 x ⟨k, k0, k1, k2, ts⟩ 0)) 62)) (q8 + 1) 62 (aSp (shp0 x ⟨k, k0, k1, k2, ts⟩ 0)) := by rw [← hz8]; exact Blk.new _ _ _
      have HKA := Lib.hid kA
      have HB8 := Lib.hid b8
      have HB9 := Lib.hid b9
      have htt : TsAt ((wr.alloc (.cells #[.int .i64 k, .int .i64 k0, .int .i64 k1, .int .i64 k2, .slice ta tn tc', .slice ua un uc] 65)).alloc (.cells (aSp (shp0 x ⟨k, k0, k1, k2, ts⟩ 0)) 62)).drew (fun b _ => Q b) (.slice ta (SH.mk k k0 k1 k2 ts).ts.length tc') (SH.mk k k0 k1 k2 ts).ts := by
        rw [show (SH.mk k k0 k1 k2 ts).ts.length = tn from HTN.out]; exact (HT.out.keptN kA).keptN ((Kept.refl Nil _).drew)
      obtain ⟨W5, r5, k5, b95⟩ := copy_tests b9.drew HGD.out.1.tl htt 3
      rw [show (SH.mk k k0 k1 k2 ts).ts.length = tn from HTN.out] at r5
      have HR5 := Lib.hid r5
      have HK5 := Lib.hid k5
      have HB95 := Lib.hid b95
      clear kA b8 b9 htt r5 k5 b95 hq8
      have e0 : aSp (shp0 x ⟨k, k0, k1, k2, ts⟩ 0) = #[.int .i64 x, .int .i64 k, .int .i64 k0, .int .i64 k1, .int .i64 k2, .int .i64 0, .int .i64 0, .int .i64 0, .int .i64 0, .int .i64 0, .int .i64 0, .int .i64 0, .int .i64 0, .int .i64 0, .int .i64 tn, .int .i64 0] := by rw [← HTN.out]; rfl
      have HE0 := Lib.hid e0
      clear e0
      go_wp2_with ((with_reducible refine wpList_load_S rfl (.tmp 14) rfl _ _ rfl ⟨k, k0, k1, k2, ts⟩ (.slice ta tn tc') (.slice ua un uc) ?_ ?_)
                   · exact HRow.out)
      rw [← HE0.out, HQ8.out]
      generalize ((wr.alloc (.cells #[.int .i64 k, .int .i64 k0, .int .i64 k1, .int .i64 k2, .slice ta tn tc', .slice ua un uc] 65)).alloc (.cells (aSp (shp0 x ⟨k, k0, k1, k2, ts⟩ 0)) 62)) = W1 at *
      obtain ⟨q9, hq9⟩ : ∃ q9, q8 + 1 = q9 := ⟨_, rfl⟩
      rw [hq9] at HB9 HR5 HK5 HB95 ⊢
      have HQ9 := Lib.hid hq9
      clear hq9 hz8
      have S1 : Hid (SWk q8 (.slice ta tn tc') W1.drew) := Lib.hid (by have := HB8.out.drew.cell 4; unfold SWk; simpa using this)
      have kw5 : Kept (fun b => b = q9) W1 W5 := (((Kept.refl Nil W1).drew).mono (fun _ _ e => e.elim)).trans HK5.out (fun _ _ e => e)
      have b85 := HB8.out.kept kw5 (fun e => by have := HQ9.out; omega)
      have S2 : Hid (SWk q8 (.slice ta tn tc') W5) := Lib.hid (by have := b85.cell 4; unfold SWk; simpa using this)
      have kR5 : Kept (fun b => b = q9) wr W5 := (HKA.out.mono (fun _ _ e => e.elim)).trans kw5 (fun _ _ e => e)
      have hq9r : wr.heap.size ≤ q9 ∧ wr.heap.size ≤ q8 := by have := HQ9.out; have := HQ8.out; omega
      have HQR := Lib.hid hq9r
      have kN5 : Kept Nil wr W5 := kR5.mono (fun i hi e => by omega)
      have hFlt : ∀ b, F' b → b < wr.heap.size := HN.out.lt _ _ _ HI'.out
      have hI5 : I (D ++ chSL (l.take j) ab) F' W5 := HN.out.stable _ _ _ _ _ HI'.out kR5 (fun b e => ⟨by have := HW.out; have := HK.out.size; omega, fun f => by have := hFlt b f; omega⟩)
      have HI5 := Lib.hid hI5
      have HB85 := Lib.hid b85
      have HN5 := Lib.hid kN5
      have HLT := Lib.hid hFlt
      have c80 := b85.cell 0
      have c85 := b85.cell 5
      simp at c80 c85
      clear kw5 b85 kR5 hq9r kN5 hFlt hI5
      refine wp_region_held (SWk q8 (.slice ta tn tc')) (by kernel_rfl) ?_
      refine takeH (i := 0) (some 25) (.pointer (some ⟨q9, 5, none⟩)) rfl rfl (by kernel_rfl) (by kernel_rfl) (by kernel_rfl) (fun _ _ _ h => h) (by rfl) S1.out ?_ ?_
      · intro w hSw
        go_simp
      simp only [Act.put, List.setIfInBounds_toArray, List.set_cons_succ, List.set_cons_zero]
      refine takeH (i := 1) (some 26) (.slice (some ⟨q9, 5, none⟩) 3 3) rfl rfl (by kernel_rfl) (by kernel_rfl) (by kernel_rfl) (fun _ _ _ h => h) (by rfl) S1.out ?_ ?_
      · intro w hSw
        go_simp
      simp only [Act.put, List.setIfInBounds_toArray, List.set_cons_succ, List.set_cons_zero]
      refine takeH (i := 2) (some 27) (.pointer (some ⟨q8, 4, none⟩)) rfl rfl (by kernel_rfl) (by kernel_rfl) (by kernel_rfl) (fun _ _ _ h => h) (by rfl) S1.out ?_ ?_
      · intro w hSw
        go_simp
      simp only [Act.put, List.setIfInBounds_toArray, List.set_cons_succ, List.set_cons_zero]
      refine takeH (i := 3) (some 28) (.slice ta tn tc') rfl rfl (by kernel_rfl) (by kernel_rfl) (by kernel_rfl) (fun _ _ _ h => h) (by rfl) S1.out ?_ ?_
      · intro w hSw
        have h1 := hSw; unfold SWk at h1; go_simp
      simp only [Act.put, List.setIfInBounds_toArray, List.set_cons_succ, List.set_cons_zero]
      refine wpAnyH_all (rs := [4]) (by kernel_rfl) (by decide) (forall_one ?_)
      refine wpOp_of rfl rfl (copy_wp (some 29) rfl (.tmp 26) (.tmp 28) 63 63 3 rfl rfl _ _ rfl rfl HR5.out ?_)
      refine ⟨S2.out, ?_⟩
      simp only [Act.put, List.setIfInBounds_toArray, List.set_cons_succ, List.set_cons_zero]
      refine wpAnyH_done (by kernel_rfl) ?_ _
      by_cases hk3 : k = 3
      · subst hk3
        have CW := Lib.hid (IH.out _ _ HXm.out (ab ++ l.take j) (D ++ chSL (l.take j) ab) (((ab ++ l.take j) ++ [St.mk ⟨3, k0, k1, k2, ts⟩ sb]) :: (R ++ r)) F' Q ua uc W5 (by
          rw [HA.out, HRR.out, HCH.out, chsS_mk, if_pos rfl]; simp [List.append_assoc]) HI5.out (Nat.le_trans HW.out (Nat.le_trans HK.out.size HN5.out.size)) (fun b e => by
            have h1 := HQ.out b e
            have h2 := HK.out.size
            have h3 := HN5.out.size
            refine ⟨by omega, fun f => ?_⟩
            rcases HF'.out b f with g | g
            · exact h1.2 g
            · omega) (by rw [HUN.out]; exact HS.out.keptN HN5.out) (HGD.out.2.2 rfl).2 (by have h1 := cnt_mem HXm.out; rw [St.cnt] at h1; have := HCN.out; omega))
        rw [HUN.out, HXE.out] at CW
        unfold WalkEnd at CW
        generalize hy : num (ab ++ l.take j ++ sb) = y at CW
        have HY := Lib.hid hy
        clear hy
        go_wp2_with fail
        refine CW.out.mono ?_
        rintro e W6 ⟨F2, rfl, hI6, hF6, k6⟩
        have hq9w : q9 < W5.heap.size := HB95.out.lt
        have hq8w : q8 < W5.heap.size := HB85.out.lt
        have b96 := HB95.out.kept k6 (fun e => by have := HLT.out _ e; have := HQR.out; omega)
        have hqv6 : q9 < W6.heap.size := b96.lt
        have y15 := b96.cell 15
        have f15 := b96.frozen 15
        simp [aSp, shpI] at y15
        have k7 : Kept (fun b => b = q9) W6 (W6.setCell ⟨q9, 15, none⟩ (.int .i64 (y : Int))) := Kept.setCell (F := fun b => b = q9) (Kept.refl _ _) _ (.inl rfl) _
        have hI7 : I (D ++ chSL (l.take j) ab ++ chSL sb (ab ++ l.take j)) F2 (W6.setCell ⟨q9, 15, none⟩ (.int .i64 (y : Int))) := HN.out.stable _ _ _ _ _ hI6 k7 (fun b e => ⟨by have := HQR.out; have := HW.out; have := HK.out.size; omega, fun f => by
          rcases hF6 b f with g | g
          · have := HLT.out _ g; have := HQR.out; omega
          · omega⟩)
        have b97 : Blk (W6.setCell ⟨q9, 15, none⟩ (.int .i64 (y : Int))) q9 62 (aSp (shpI x ⟨3, k0, k1, k2, ts⟩ (y : Nat))) := b96.set_ 15 _
        have HIV : Hid (I (D ++ chSL (l.take j) ab ++ chSL sb (ab ++ l.take j)) F2 (W6.setCell ⟨q9, 15, none⟩ (.int .i64 (y : Int)))) := Lib.hid hI7
        have HBV := Lib.hid b97
        have HFV : Hid (∀ b, F2 b → F b ∨ w.heap.size ≤ b) := Lib.hid fun b e => by
          rcases hF6 b e with g | g
          · exact HF'.out b g
          · have := HK.out.size; have := HN5.out.size; exact .inr (by omega)
        have HKV : Hid (Kept F w (W6.setCell ⟨q9, 15, none⟩ (.int .i64 (y : Int)))) := Lib.hid (((HK.out.trans HN5.out (fun _ _ e => e.elim)).trans k6 (fun i hi e => by
          rcases HF'.out i e with g | g
          · exact g
          · omega)).trans k7 (fun i hi e => by have := HQR.out; have := HK.out.size; omega))
        have HSZ := Lib.hid (show w.heap.size ≤ (W6.setCell ⟨q9, 15, none⟩ (.int .i64 (y : Int))).heap.size from HKV.out.size)
        have HALL : Hid (∃ r', all = (D ++ chSL (l.take j) ab ++ chSL sb (ab ++ l.take j)) ++ ((ab ++ l.take j) ++ [St.mk ⟨3, k0, k1, k2, ts⟩ sb]) :: r') := Lib.hid ⟨R ++ r, by rw [HA.out, HRR.out, HCH.out, chsS_mk, if_pos rfl]; simp [List.append_assoc]⟩
        have HYE : Hid (inQ num (ab ++ l.take j) (.mk ⟨3, k0, k1, k2, ts⟩ sb) = y) := Lib.hid (by unfold inQ; simp only [St.hd, St.subs, if_true]; exact HY.out)
        clear hI6 hF6 k6 k7 hI7 b97 b96 CW hq9w hq8w
        generalize F2 = FV at *
        have CG := Lib.hid (HN.out.call (D ++ chSL (l.take j) ab ++ chSL sb (ab ++ l.take j)) (ab ++ l.take j) (.mk ⟨3, k0, k1, k2, ts⟩ sb) FV (W6.setCell ⟨q9, 15, none⟩ (.int .i64 (y : Int))) HIV.out HALL.out (Nat.le_trans HW.out HSZ.out) HGS.out)
        have hqv := HBV.out.lt
        simp only [St.hd] at CG
        rw [HXE.out, HYE.out] at CG
        generalize hnum : num ((ab ++ l.take j) ++ [St.mk ⟨3, k0, k1, k2, ts⟩ sb]) = z at CG
        have HZ := Lib.hid hnum
        have eS : aSp (shp x ⟨3, k0, k1, k2, ts⟩ y) = aSp (shpI x ⟨3, k0, k1, k2, ts⟩ (y : Nat)) := rfl
        rw [eS] at CG
        clear hnum
        go_wp2_with (refine wpList_load_Sp rfl (.tmp 9) rfl q9 rfl (shpI x ⟨3, k0, k1, k2, ts⟩ (y : Nat)) HBV.out ?_)
        refine CG.out.mono ?_
        rintro e V2 ⟨F3, rfl, hI3, hF3, k3⟩
        have HI3 := Lib.hid hI3
        have HF3 := Lib.hid hF3
        have HK3 := Lib.hid k3
        clear hI3 hF3 k3 CG
        go_wp2_with fail
        go_roundw
        case rel =>
          refine ⟨j + 1, F3, by omega, by go_num, ?_, ?_, fun b e => ?_, HKV.out.trans HK3.out (fun i hi e => ?_)⟩
          · rw [HTK.out, ← List.append_assoc, HZ.out]
          · have h3 := HI3.out
            rw [HCH.out, chsS_mk, if_pos rfl]
            simpa [List.append_assoc] using h3
          · rcases HF3.out b e with e | e
            · exact HFV.out b e
            · exact .inr (Nat.le_trans HKV.out.size e)
          · rcases HFV.out i e with e | e
            · exact e
            · omega
        case measure => simp [intOf]; omega
      · have hk3' : (k == 3) = false := by simpa using hk3
        have HIV : Hid (I (D ++ chSL (l.take j) ab) F' W5) := HI5
        have HBV : Hid (Blk W5 q9 62 (aSp (shpI x ⟨k, k0, k1, k2, ts⟩ ((0 : Nat) : Int)))) := HB95
        have HFV := HF'
        have HKV : Hid (Kept F w W5) := Lib.hid (HK.out.trans HN5.out (fun _ _ e => e.elim))
        have HSZ := Lib.hid (show w.heap.size ≤ W5.heap.size from HKV.out.size)
        have HALL : Hid (∃ r', all = (D ++ chSL (l.take j) ab) ++ ((ab ++ l.take j) ++ [St.mk ⟨k, k0, k1, k2, ts⟩ sb]) :: r') := Lib.hid ⟨R ++ r, by rw [HA.out, HRR.out, HCH.out, chsS_mk, if_neg hk3]; simp [List.append_assoc]⟩
        have HYE : Hid (inQ num (ab ++ l.take j) (.mk ⟨k, k0, k1, k2, ts⟩ sb) = 0) := Lib.hid (by unfold inQ; simp only [St.hd]; exact if_neg hk3)
        have HNE := Lib.hid hk3
        clear hk3
        generalize W5 = V at *
        generalize F' = FV at *
        clear HF' HB95
        have CG := Lib.hid (HN.out.call (D ++ chSL (l.take j) ab) (ab ++ l.take j) (.mk ⟨k, k0, k1, k2, ts⟩ sb) FV V HIV.out HALL.out (Nat.le_trans HW.out HSZ.out) HGS.out)
        have hqv := HBV.out.lt
        simp only [St.hd] at CG
        rw [HXE.out, HYE.out] at CG
        generalize hnum : num ((ab ++ l.take j) ++ [St.mk ⟨k, k0, k1, k2, ts⟩ sb]) = z at CG
        have HZ := Lib.hid hnum
        have eS : aSp (shp x ⟨k, k0, k1, k2, ts⟩ 0) = aSp (shpI x ⟨k, k0, k1, k2, ts⟩ (0 : Nat)) := rfl
        rw [eS] at CG
        clear hnum
        go_wp2_with (refine wpList_load_Sp rfl (.tmp 9) rfl q9 rfl (shpI x ⟨k, k0, k1, k2, ts⟩ (0 : Nat)) HBV.out ?_)
        refine CG.out.mono ?_
        rintro e V2 ⟨F3, rfl, hI3, hF3, k3⟩
        have HI3 := Lib.hid hI3
        have HF3 := Lib.hid hF3
        have HK3 := Lib.hid k3
        clear hI3 hF3 k3 CG
        go_wp2_with fail
        go_roundw
        case rel =>
          refine ⟨j + 1, F3, by omega, by go_num, ?_, ?_, fun b e => ?_, HKV.out.trans HK3.out (fun i hi e => ?_)⟩
          · rw [HTK.out, ← List.append_assoc, HZ.out]
          · have h3 := HI3.out
            rw [HCH.out, chsS_mk, if_neg HNE.out]
            simpa [List.append_assoc] using h3
          · rcases HF3.out b e with e | e
            · exact HFV.out b e
            · exact .inr (Nat.le_trans HKV.out.size e)
          · rcases HFV.out i e with e | e
            · exact e
            · omega
        case measure => simp [intOf]; omega
    · obtain rfl : len = j := by omega
      have HE : Hid (l.take len = l) := Lib.hid (by rw [← HL.out]; simp)
      go_wp2_with fail
      go_ret
      have h1 := HI'.out
      rw [HE.out] at h1 ⊢
      exact ⟨F', rfl, h1, HF'.out, HK.out⟩
theorem walk_any {W0 : World} {num : List St → Nat} {all : List (List St)} {g : FuncId} {bd caps : Array Value} {I : List (List St) → (Nat → Prop) → World → Prop} (N : NextOK W0 num all g bd caps I) : (∀ s : St, WalkOK W0 num all g bd caps I s.subs) ∧ ∀ l : List St, (∀ x ∈ l, WalkOK W0 num all g bd caps I x.subs) := by
  refine St.ind2 (fun hd subs ih => ?_) (fun x hx => by cases hx) (fun a l ha hl x hx => ?_)
  · exact walk_step N subs (Lib.hid fun hd' sb hm => ih _ hm)
  · rcases List.mem_cons.1 hx with rfl | hx
    · exact ha
    · exact hl x hx
theorem walk_ok {W0 : World} {num : List St → Nat} {all : List (List St)} {g : FuncId} {bd caps : Array Value} {I : List (List St) → (Nat → Prop) → World → Prop} (N : NextOK W0 num all g bd caps I) (l : List St) : WalkOK W0 num all g bd caps I l :=
  walk_step N l (Lib.hid fun _ _ hm => (walk_any N).2 l _ hm)
end
section
open Go.RowKit Go.Maps Go.WideMaps
set_option maxRecDepth 100000

/-- What path's closure keeps: what the one that it hands on to keeps; the numbers so far. -/
structure PaI (num : List St → Nat) (hv : Value) (J : List (List St) → (Nat → Prop) → World → Prop) (q3 q5 B : Nat) (D : List (List St)) (F : Nat → Prop) (w : World) : Prop where
  ex : ∃ FJ a n cap, J D FJ w ∧ Blk w q5 28 #[.slice a n cap] ∧ RowN w (.slice a n cap) (1 :: D.map num) ∧ (∀ b, (Value.slice a n cap).ownBlock = some b → ¬ FJ b ∧ B ≤ b) ∧ ¬ FJ q3 ∧ ¬ FJ q5 ∧ (∀ b, F b ↔ FJ b ∨ b = q5 ∨ (Value.slice a n cap).ownBlock = some b) ∧ (∀ b, FJ b → b < w.heap.size)
  b3 : Blk w q3 55 #[hv]
  ne : q3 ≠ q5
  q5B : q5 < w.heap.size
theorem PaI.notQ3 {num : List St → Nat} {hv : Value} {J : List (List St) → (Nat → Prop) → World → Prop} {q3 q5 B : Nat} {D : List (List St)} {F : Nat → Prop} {w : World} (h : PaI num hv J q3 q5 B D F w) : ¬ F q3 := fun e => by
  obtain ⟨FJ, a, n, cap, _, h5, hr, _, n3, _, hF, _⟩ := h.ex
  rcases (hF _).1 e with e | e | e
  · exact n3 e
  · exact h.ne e
  · obtain ⟨cur, hc⟩ := hr.block e
    have := h.b3
    unfold Blk at this
    rw [this] at hc
    injection hc with hc
    injection hc with _ hc _
    exact absurd hc (by decide)
theorem chSL_bound {l : List St} (hl : cntL l ≤ 5000) : (chSL l []).length ≤ 5000 := Nat.le_trans (chSL_len_le.2 l []) hl
set_option maxHeartbeats 8000000 in
theorem path_next {w W0 : World} {num : List St → Nat} {all : List (List St)} {g : FuncId} {bd caps : Array Value} {J : List (List St) → (Nat → Prop) → World → Prop} (N : NextOK w num all g bd caps J) (hal : all.length ≤ 4000) {q3 q5 : Nat} (hw : w.heap.size ≤ W0.heap.size) (h3 : q3 < W0.heap.size) (h5 : q5 < W0.heap.size) (h5w : w.heap.size ≤ q5) :
    NextOK W0 num all 61 #[] #[.pointer (some ⟨q3, 0, none⟩), .pointer (some ⟨q5, 0, none⟩)] (PaI num (.func (.func g) bd caps) J q3 q5 w.heap.size) := by
  refine ⟨enter_ofZ (by rfl) (by decide) (by kernel_rfl), fun D F W hI b hb => ?_, fun D F W W' G hI k hG => ?_, fun D d s F W hI hall hsz hgs => ?_⟩
  · obtain ⟨FJ, a, n, cap, hJ, hb5, hr, ho, n3, n5, hF, hlt⟩ := hI.ex
    rcases (hF b).1 hb with e | rfl | e
    · exact hlt b e
    · exact hI.q5B
    · exact (hr.lt b e).2
  · have hq3 := hI.notQ3
    obtain ⟨FJ, a, n, cap, hJ, hb5, hr, ho, n3, n5, hF, hlt⟩ := hI.ex
    exact ⟨⟨FJ, a, n, cap, N.stable D FJ W W' G hJ k (fun b e => ⟨Nat.le_trans hw (hG b e).1, fun f => (hG b e).2 ((hF b).2 (.inl f))⟩), hb5.kept k (fun e => (hG _ e).2 ((hF _).2 (.inr (.inl rfl)))), hr.keptF k (fun b e f => (hG b f).2 ((hF b).2 (.inr (.inr e)))), ho, n3, n5, hF, fun b e => Nat.lt_of_lt_of_le (hlt b e) k.size⟩, hI.b3.kept k (fun e => by have := (hG _ e).1; omega), hI.ne, Nat.lt_of_lt_of_le hI.q5B k.size⟩
  · have hq3 := hI.notQ3
    have HI := Lib.hid hI
    obtain ⟨FJ, a, n, cap, hJ, hb5, hr, ho, n3, n5, hF, hlt⟩ := hI.ex
    have hn : n = D.length + 1 := by have := hr.caps.1; simpa using this
    obtain ⟨r, hall⟩ := hall
    have hDl : D.length ≤ 4000 := by have := congrArg List.length hall; simp at this; omega
    obtain ⟨sp, hsp⟩ : ∃ sp, shp (num d) s.hd (inQ num d s) = sp := ⟨_, rfl⟩
    rw [hsp]
    have kA : Kept Nil W (W.alloc (.cells (aSp sp) 62)) := (Kept.refl _ _).alloc _
    have bS : Blk (W.alloc (.cells (aSp sp) 62)) W.heap.size 62 (aSp sp) := Blk.new _ _ _
    have CJ := N.call D d s FJ _ (N.stable D FJ W _ Nil hJ kA (fun _ e => e.elim)) ⟨r, hall⟩ (by have := kA.size; omega) hgs
    rw [hsp] at CJ
    generalize hz : num (d ++ [s]) = z at CJ ⊢
    have HZ := Lib.hid hz
    have HCJ := Lib.hid CJ
    have HBS := Lib.hid bS
    have HKA := Lib.hid kA
    have c3 := (hI.b3.kept kA (fun e => e)).cell 0
    simp at c3
    have H5 := Lib.hid hb5
    have HR := Lib.hid hr
    have HO := Lib.hid ho
    have H35 := Lib.hid (And.intro n3 n5)
    have HFF := Lib.hid hF
    have HLT := Lib.hid hlt
    have HS0 := Lib.hid (And.intro hw hsz)
    have HQ3 := Lib.hid hq3
    have HN := Lib.hid hn
    have hent := N.enter
    have hqs : W.heap.size < (W.alloc (.cells (aSp sp) 62)).heap.size := by simp
    clear CJ bS kA hI hJ hb5 hr ho n3 n5 hF hlt hw hsz hq3 hsp hz hall hn hgs
    simp only [Array.empty_append]
    show Calls Tryz.prog 61 #[.agg (aSp sp), .pointer (some ⟨q3, 0, none⟩), .pointer (some ⟨q5, 0, none⟩)] W _
    go_enter Tryz.func61, Tryz.ntmps61
    go_wp2_with (refine wpList_load_Sp rfl (.tmp 3) rfl _ rfl sp HBS.out ?_)
    refine HCJ.out.mono ?_
    rintro e W2 ⟨FJ', rfl, hJ2, hF2, k2⟩
    have hsz1 : W.heap.size ≤ W2.heap.size := Nat.le_trans HKA.out.size k2.size
    have hown : ∀ b, (Value.slice a n cap).ownBlock = some b → ¬ FJ' b := fun b e f => by
      rcases hF2 b f with g1 | g1
      · exact (HO.out b e).1 g1
      · have := (HR.out.lt b e).2; have := HKA.out.size; omega
    have hrow2 : RowN W2 (.slice a n cap) (1 :: D.map num) := (HR.out.keptN HKA.out).keptF k2 (fun b e f => (HO.out b e).1 f)
    have hb52 : Blk W2 q5 28 #[.slice a n cap] := (H5.out.kept HKA.out (fun e => e)).kept k2 H35.out.2
    have hb32 : Blk W2 q3 55 #[.func (.func g) bd caps] := (HI.out.b3.kept HKA.out (fun e => e)).kept k2 H35.out.1
    have c5 := hb52.cell 0
    simp at c5
    obtain ⟨a', cap', W3, r3, hrow3, k3, ho3⟩ := hrow2.push2 elsNt cNt_len cNt_one 28 (Nat.zero_le _) (by simp; omega) z #[.int .i64 z] rfl
    have h5l : ∀ b, (Value.slice a n cap).ownBlock = some b → b ≠ q5 := fun b e f => by
      obtain ⟨cur, hc⟩ := hrow2.block e
      have := hb52
      unfold Blk at this
      rw [f, this] at hc
      injection hc with hc
      injection hc with _ hc _
      exact absurd hc (by decide)
    have h3l : ∀ b, (Value.slice a n cap).ownBlock = some b → b ≠ q3 := fun b e f => by
      obtain ⟨cur, hc⟩ := hrow2.block e
      have := hb32
      unfold Blk at this
      rw [f, this] at hc
      injection hc with hc
      injection hc with _ hc _
      exact absurd hc (by decide)
    have hb53 : Blk W3 q5 28 #[.slice a n cap] := hb52.kept k3 (fun e => h5l _ e rfl)
    have hb33 := hb32.kept k3 (fun e => h3l _ e rfl)
    have y5 := hb53.cell 0
    have z5 := hb53.frozen 0
    have hq5 := hb53.lt
    simp at y5
    have RR := Lib.hid r3
    have kS : Kept (fun b => b = q5) W3 (W3.setCell ⟨q5, 0, none⟩ (.slice a' (n + 1) cap')) := Kept.setCell (F := fun b => b = q5) (Kept.refl _ _) _ (.inl rfl) _
    have hAll : Kept F W (W3.setCell ⟨q5, 0, none⟩ (.slice a' (n + 1) cap')) := (((HKA.out.mono (fun _ _ e => e.elim)).trans k2 (fun i hi e => (HFF.out i).2 (.inl e))).trans k3 (fun i hi e => (HFF.out i).2 (.inr (.inr e)))).trans kS (fun i hi e => (HFF.out i).2 (.inr (.inl e)))
    have hown3 : ∀ b, (Value.slice a' (n + 1) cap').ownBlock = some b → b ≠ q5 ∧ b ≠ q3 ∧ ¬ FJ' b ∧ w.heap.size ≤ b ∧ ((Value.slice a n cap).ownBlock = some b ∨ W.heap.size ≤ b) := fun b e => by
      rcases ho3 b e with g1 | g1
      · exact ⟨h5l b g1, h3l b g1, hown b g1, (HO.out b g1).2, .inl g1⟩
      · have := hb52.lt
        have := hb32.lt
        have := HS0.out
        refine ⟨by omega, by omega, fun f => ?_, by omega, .inr (by omega)⟩
        rcases hF2 b f with g2 | g2
        · have := HLT.out b g2; omega
        · exact absurd (N.lt _ _ _ hJ2 b f) (by omega)
    have HE : Hid (∃ F', PaI num (.func (.func g) bd caps) J q3 q5 w.heap.size (D ++ [d ++ [s]]) F' (W3.setCell ⟨q5, 0, none⟩ (.slice a' (n + 1) cap')) ∧ (∀ b, F' b → F b ∨ W.heap.size ≤ b) ∧ Kept F W (W3.setCell ⟨q5, 0, none⟩ (.slice a' (n + 1) cap'))) := Lib.hid (by
      refine ⟨fun b => FJ' b ∨ b = q5 ∨ (Value.slice a' (n + 1) cap').ownBlock = some b, ⟨⟨FJ', a', n + 1, cap', ?_, hb53.set_ 0 _, ?_, fun b e => ⟨(hown3 b e).2.2.1, (hown3 b e).2.2.2.1⟩, fun e => ?_, fun e => ?_, fun b => Iff.rfl, fun b e => ?_⟩, hb33.kept kS (fun e => HI.out.ne e), HI.out.ne, Nat.lt_of_lt_of_le hq5 kS.size⟩, fun b e => ?_, hAll⟩
      · have k23 : Kept (fun b => b = q5 ∨ (Value.slice a n cap).ownBlock = some b) W2 (W3.setCell ⟨q5, 0, none⟩ (.slice a' (n + 1) cap')) := (k3.mono (fun _ _ e => .inr e)).trans kS (fun _ _ e => .inl e)
        exact N.stable _ _ _ _ _ hJ2 k23 (fun b e => by
          rcases e with rfl | e
          · exact ⟨h5w, fun f => by
              rcases hF2 _ f with g1 | g1
              · exact H35.out.2 g1
              · have := HI.out.q5B; have := HKA.out.size; omega⟩
          · exact ⟨(HO.out b e).2, hown b e⟩)
      · rw [List.map_append]
        have := hrow3.keptF kS (fun b e f => (hown3 b e).1 f)
        rw [← HZ.out] at this
        simpa using this
      · rcases hF2 _ e with g1 | g1
        · exact H35.out.1 g1
        · have := HI.out.b3.lt; have := HKA.out.size; omega
      · rcases hF2 _ e with g1 | g1
        · exact H35.out.2 g1
        · have := HI.out.q5B; have := HKA.out.size; omega
      · exact Nat.lt_of_lt_of_le (N.lt _ _ _ hJ2 b e) (Nat.le_trans k3.size kS.size)
      · rcases e with e | rfl | e
        · rcases hF2 b e with g1 | g1
          · exact .inl ((HFF.out b).2 (.inl g1))
          · exact .inr (Nat.le_trans HKA.out.size g1)
        · exact .inl ((HFF.out _).2 (.inr (.inl rfl)))
        · rcases (hown3 b e).2.2.2.2 with g1 | g1
          · exact .inl ((HFF.out b).2 (.inr (.inr g1)))
          · exact .inr g1)
    clear hJ2 hF2 k2 hown hrow2 hb52 hb32 r3 hrow3 k3 ho3 h5l h3l hb53 hb33 kS hAll hown3 c3 HCJ
    generalize n + 1 = n1 at *
    go_wp2_with (at_builtin; refine wpList_append_run rfl (.tmp 9) (.tmp 11) 28 rfl _ _ rfl rfl RR.out ?_)
    go_ret
    obtain ⟨F', h1, h2, h3⟩ := HE.out
    exact ⟨F', rfl, h1, h2, h3⟩
/-- What path leaves. -/
def PathEnd (num : List St → Nat) (J : List (List St) → (Nat → Prop) → World → Prop) (F : Nat → Prop) (l : List St) (w : World) (e : Ending) (w' : World) : Prop :=
  ∃ F' a cap, e = .returned (.slice a ((chSL l []).length + 1) cap) ∧ Row cNt 3 1 w' w.heap.size (.slice a ((chSL l []).length + 1) cap) (1 :: (chSL l []).map num) ∧ J (chSL l []) F' w' ∧ (∀ b, F' b → F b ∨ w.heap.size ≤ b) ∧ (∀ b, (Value.slice a ((chSL l []).length + 1) cap).ownBlock = some b → ¬ F' b) ∧ Kept F w w'
set_option maxHeartbeats 8000000 in
theorem path_any {w : World} {num : List St → Nat} {g : FuncId} {bd caps : Array Value} {J : List (List St) → (Nat → Prop) → World → Prop} (l : List St) (N : NextOK w num (chSL l []) g bd caps J) (hc : cntL l ≤ 3000) (hg : ∀ s ∈ l, Gd s) (h1 : num [] = 1) {F Q : Nat → Prop} (hJ : J [] F w) (hQ : ∀ b, Q b → b < w.heap.size ∧ ¬ F b) (a : Option Addr) (cap : Nat) (hH : SHolds w (fun b _ => Q b) (.slice a l.length cap) l)
    (hz : ∀ W, J [] F W → Kept Nil w W → Calls Tryz.prog g (bd ++ #[.agg (aSp zSp)] ++ caps) W fun e W' => e = .returned (.int .i64 1) ∧ ∃ F', J [] F' W' ∧ (∀ b, F' b → F b ∨ W.heap.size ≤ b) ∧ Kept F W W') :
    Calls Tryz.prog 29 #[.slice a l.length cap, .func (.func g) bd caps] w (PathEnd num J F l w) := by
  have kA : Kept Nil w (w.alloc (.cells #[.func (.func g) bd caps] 55)) := (Kept.refl _ _).alloc _
  have b3 : Blk (w.alloc (.cells #[.func (.func g) bd caps] 55)) w.heap.size 55 #[.func (.func g) bd caps] := Blk.new _ _ _
  have CZ := hz _ (N.stable _ _ _ _ Nil hJ kA (fun _ e => e.elim)) kA
  have HCZ := Lib.hid CZ
  have HKA := Lib.hid kA
  have HB3 := Lib.hid b3
  have HN := Lib.hid N
  have HQ := Lib.hid hQ
  have HH := Lib.hid hH
  have HJ := Lib.hid hJ
  have HLT := Lib.hid (N.lt _ _ _ hJ)
  have hent := N.enter
  obtain ⟨len, hlen⟩ : ∃ len, l.length = len := ⟨_, rfl⟩
  rw [hlen] at HH ⊢
  have HL := Lib.hid hlen
  have ez : aSp zSp = #[.int .i64 0, .int .i64 0, .int .i64 0, .int .i64 0, .int .i64 0, .int .i64 0, .int .i64 0, .int .i64 0, .int .i64 0, .int .i64 0, .int .i64 0, .int .i64 0, .int .i64 0, .int .i64 0, .int .i64 0, .int .i64 0] := rfl
  rw [ez] at HCZ
  have hq3 : w.heap.size < (w.alloc (.cells #[.func (.func g) bd caps] 55)).heap.size := by simp
  clear kA b3 CZ hz hJ hQ hH N hlen ez
  go_enter Tryz.func29, Tryz.ntmps29
  go_wp2_with fail
  refine HCZ.out.mono ?_
  rintro e W1 ⟨rfl, F1, hJ1, hF1, k1⟩
  obtain ⟨r0, hr0⟩ : ∃ r0, W1.heap.size = r0 := ⟨_, rfl⟩
  have hz1 : (W1.alloc (.cells #[.int .i64 1] 3)).heap.size = r0 + 1 := by simp [hr0]
  have k2 : Kept Nil W1 ((W1.alloc (.cells #[.int .i64 1] 3)).alloc (.cells #[.slice (some ⟨r0, 0, none⟩) 1 1] 28)) := ((Kept.refl _ _).alloc _).alloc _
  have b5 : Blk ((W1.alloc (.cells #[.int .i64 1] 3)).alloc (.cells #[.slice (some ⟨r0, 0, none⟩) 1 1] 28)) (r0 + 1) 28 #[.slice (some ⟨r0, 0, none⟩) 1 1] := by rw [← hz1]; exact Blk.new _ _ _
  have hrow0 := (Row.lit1 (cells := cNt) (e := 3) (size := 1) W1 1 #[.int .i64 1] rfl rfl).keptN ((Kept.refl Nil _).alloc (.cells #[.slice (some ⟨r0, 0, none⟩) 1 1] 28))
  rw [hr0] at hrow0
  have hc0 : ((W1.alloc (.cells #[.int .i64 1] 3)).alloc (.cells #[.slice (some ⟨r0, 0, none⟩) 1 1] 28)).cell? ⟨r0, 0, none⟩ = some (.int .i64 1) := by
    have := ((Blk.new W1 3 #[.int .i64 1]).alloc (.cells #[.slice (some ⟨r0, 0, none⟩) 1 1] 28)).cell 0
    rw [hr0] at this
    simpa using this
  have kw1 : w.heap.size < W1.heap.size := Nat.lt_of_lt_of_le hq3 k1.size
  have b32 := ((HB3.out.kept k1 (fun e => by have := HLT.out _ e; omega)).kept k2 (fun e => e))
  have hJ2 := HN.out.stable _ _ _ _ Nil hJ1 k2 (fun _ e => e.elim)
  have hlt1 := HN.out.lt _ _ _ hJ1
  have hF1' : ∀ b, F1 b → F b ∨ w.heap.size < b := fun b e => by
    rcases hF1 b e with g1 | g1
    · exact .inl g1
    · exact .inr (by omega)
  have hnot : ∀ b, F1 b → b ≠ w.heap.size ∧ b < r0 := fun b e => by
    have := hlt1 b e
    rcases hF1' b e with g1 | g1
    · have := HLT.out b g1; omega
    · omega
  have hsz2 : ((W1.alloc (.cells #[.int .i64 1] 3)).alloc (.cells #[.slice (some ⟨r0, 0, none⟩) 1 1] 28)).heap.size = r0 + 1 + 1 := by simp [hr0]
  have hPa : PaI num (.func (.func g) bd caps) J w.heap.size (r0 + 1) w.heap.size [] (fun b => F1 b ∨ b = r0 + 1 ∨ (Value.slice (some ⟨r0, 0, none⟩) 1 1).ownBlock = some b) ((W1.alloc (.cells #[.int .i64 1] 3)).alloc (.cells #[.slice (some ⟨r0, 0, none⟩) 1 1] 28)) :=
    ⟨⟨F1, some ⟨r0, 0, none⟩, 1, 1, hJ2, b5, Row.down hrow0 (Nat.zero_le _), fun b e => by
        have : r0 = b := Option.some.inj e
        subst this
        exact ⟨fun f => by have := (hnot _ f).2; omega, by omega⟩, fun e => (hnot _ e).1 rfl, fun e => by have := (hnot _ e).2; omega, fun b => Iff.rfl, fun b e => by have := (hnot b e).2; omega⟩, b32, by omega, by omega⟩
  have NP := path_next HN.out (by have := chSL_len_le.2 l []; omega) (W0 := (W1.alloc (.cells #[.int .i64 1] 3)).alloc (.cells #[.slice (some ⟨r0, 0, none⟩) 1 1] 28)) (q3 := w.heap.size) (q5 := r0 + 1) (by omega) (by omega) (by omega) (by omega)
  have kAll2 : Kept F w ((W1.alloc (.cells #[.int .i64 1] 3)).alloc (.cells #[.slice (some ⟨r0, 0, none⟩) 1 1] 28)) := ((HKA.out.mono (fun _ _ e => e.elim)).trans k1 (fun _ _ e => e)).trans k2 (fun _ _ e => e.elim)
  have CW := walk_ok NP l [] [] [] _ Q a cap _ (by simp) hPa (Nat.le_refl _) (fun b e => by
    have := HQ.out b e
    refine ⟨by omega, fun f => ?_⟩
    rcases f with f | f | f
    · rcases hF1' b f with g1 | g1
      · exact this.2 g1
      · omega
    · omega
    · have : r0 = b := Option.some.inj f
      omega) (by rw [HL.out]; exact HH.out.kept kAll2 (fun b o e => (HQ.out b e).2)) hg (by omega)
  rw [HL.out, h1] at CW
  unfold WalkEnd at CW
  simp only [List.nil_append] at CW
  have HCW := Lib.hid CW
  have HKK := Lib.hid kAll2
  have HF1 := Lib.hid (And.intro hF1' hsz2)
  have HR0 := Lib.hid (And.intro hr0 kw1)
  clear hrow0 hJ1 hJ2 hF1 k1 k2 b5 b32 hlt1 hF1' hnot hsz2 hPa NP kAll2 CW HCZ hz1
  go_wp2_with fail
  refine HCW.out.mono ?_
  rintro e W3 ⟨F3, rfl, hI3, hF3, k3⟩
  obtain ⟨FJ, a3, n3, cap3, hJ3, hb53, hr3, ho3, n33, n35, hFF3, hlt3⟩ := hI3.ex
  have c5 := hb53.cell 0
  simp at c5
  obtain rfl : n3 = (chSL l []).length + 1 := by have := hr3.caps.1; simpa using this
  have HE : Hid (PathEnd num J F l w (.returned (.slice a3 ((chSL l []).length + 1) cap3)) W3) := Lib.hid (by
    refine ⟨FJ, a3, cap3, rfl, ?_, hJ3, fun b e => ?_, fun b e => (ho3 b e).1, HKK.out.trans k3 (fun i hi e => ?_)⟩
    · refine ⟨hr3.1, ?_⟩
      rcases hr3.2 with g1 | ⟨g, cp, cur, e1, _, rest⟩
      · exact .inl g1
      · exact .inr ⟨g, cp, cur, e1, (ho3 g (by rw [e1]; rfl)).2, rest⟩
    · rcases hF3 b ((hFF3 b).2 (.inl e)) with g1 | g1
      · rcases g1 with g1 | g1 | g1
        · rcases HF1.out.1 b g1 with g2 | g2
          · exact .inl g2
          · exact .inr (by omega)
        · have := HR0.out; exact .inr (by omega)
        · have : r0 = b := Option.some.inj g1
          have := HR0.out; exact .inr (by omega)
      · have := HF1.out.2; have := HR0.out; exact .inr (by omega)
    · rcases e with g1 | g1 | g1
      · rcases HF1.out.1 i g1 with g2 | g2
        · exact g2
        · omega
      · have := HR0.out; omega
      · have : r0 = i := Option.some.inj g1
        have := HR0.out; omega)
  clear hI3 hF3 k3 hJ3 hb53 hr3 ho3 n33 n35 hFF3 hlt3 HCW
  go_wp2_with fail
  go_ret
  exact HE.out
end
end Go.Proofs.YtljefbfjehblpaaGreat
