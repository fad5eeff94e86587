/- Layer comp: what a call builds, round by round; steps stored whole. – Layer comp: the law's own Ref of a step, and Refs: the reference's steps, in new memory. – Layer comp: the law's own Refs: the reference's steps, in new memory. – Layer comp: the law's own Steps: the program's steps of the reference's, in new memory. -/
import Derived.Test.YtljefbfjehblpaaGreatA5
import Derived.Deep.RegionHeld3
import Derived.Deep.RegionLaw
import Derived.Deep.AppendLies
import Derived.Deep.DeepCutAuto
import Derived.OwnWalk
namespace Go.Proofs.YtljefbfjehblpaaGreat
section
section
open Go.RowKit
set_option maxRecDepth 100000

/-- Two blocks of the call's own, known whole. -/
structure Two2 (w : World) (t0 : TypeId) (x : Array Value) (t1 : TypeId) (y : Array Value) (W : World) : Prop where
  kept : Kept Nil w W
  b0 : Blk W w.heap.size t0 x
  b1 : Blk W (w.heap.size + 1) t1 y
section
variable {w : World} {t0 t1 : TypeId} {x y : Array Value} {W W' : World}
theorem Two2.start (w : World) (t0 : TypeId) (x : Array Value) (t1 : TypeId) (y : Array Value) : Two2 w t0 x t1 y ((w.alloc (.cells x t0)).alloc (.cells y t1)) := by
  refine ⟨((Kept.refl Nil w).alloc _).alloc _, (Blk.new w _ _).alloc _, ?_⟩
  have := Blk.new (w.alloc (.cells x t0)) t1 y
  simpa using this
theorem Two2.step (r : Two2 w t0 x t1 y W) (k : Kept Nil W W') : Two2 w t0 x t1 y W' := ⟨r.kept.trans k (fun _ _ g => g), r.b0.kept k id, r.b1.kept k id⟩
theorem Two2.alloc (r : Two2 w t0 x t1 y W) (o : Obj) : Two2 w t0 x t1 y (W.alloc o) := r.step ((Kept.refl Nil W).alloc o)
theorem Two2.drew (r : Two2 w t0 x t1 y W) : Two2 w t0 x t1 y W.drew := r.step ((Kept.refl Nil W).drew)
theorem Two2.far {F : Nat → Prop} (r : Two2 w t0 x t1 y W) (k : Kept F W W') (hF : ∀ i, F i → w.heap.size + 1 < i) : Two2 w t0 x t1 y W' :=
  ⟨r.kept.trans k (fun i hi g => by have := hF i g; omega), r.b0.kept k (fun g => by have := hF _ g; omega), r.b1.kept k (fun g => by have := hF _ g; omega)⟩
theorem Two2.lt (r : Two2 w t0 x t1 y W) : w.heap.size + 1 < W.heap.size := r.b1.lt
end
/-- One round of building: an element of new memory is put behind the others, and the new slice is stored in a cell of X. -/
theorem GB.round {Q : Type} {D : Kd Q} {P : Program} {e t : TypeId} (T : Els P t e D.sz) (ty : TypeId) {W1 W1' w2 : World} {B X i : Nat} (hXB : X < B) (hBs : B ≤ W1.heap.size) {xt : TypeId} {cs : Array Value} {av : Option Addr} {pl cv : Nat} {ps : List Q} (b : Blk W1 X xt cs) (hi : cs[i]? = some (.slice av pl cv)) (g : GB D e W1 B (.slice av pl cv) ps) (hl : ps.length ≤ 10000) (hd : Kept Nil W1 W1') (k2 : Kept Nil W1' w2)
    (q : Q) (arr : Array Value) (ha : arr.toList = D.F q) (nt : TypeId) (hq : D.K w2 (okM W1'.heap.size w2) q) :
    w2.cell? ⟨X, i, none⟩ = some (.slice av pl cv) ∧ X < w2.heap.size ∧ ∃ a n c w3, (Builtin.append_ #[t, t] ty #[.slice av pl cv, .slice (some ⟨w2.heap.size, 0, none⟩) 1 1]).run P (w2.alloc (.cells arr nt)) = .ok (.slice a n c) w3 ∧
      w3.cell? ⟨X, i, none⟩ = some (.slice av pl cv) ∧ w3.frozen? ⟨X, i, none⟩ = false ∧ X < w3.heap.size ∧ Kept (fun k => k = X ∨ (Value.slice av pl cv).ownBlock = some k) W1 (w3.setCell ⟨X, i, none⟩ (.slice a n c)) ∧
      Blk (w3.setCell ⟨X, i, none⟩ (.slice a n c)) X xt (cs.setIfInBounds i (.slice a n c)) ∧ GB D e (w3.setCell ⟨X, i, none⟩ (.slice a n c)) B (.slice a n c) (ps ++ [q]) := by
  have k12 : Kept Nil W1 w2 := hd.trans k2 (fun _ _ g => g)
  have b2 := b.kept k12 id
  have hX1 := b.lt
  have hX2 := b2.lt
  have hs1 := hd.size
  have hs2 := k2.size
  obtain ⟨a, n, c, w3, r3, g3, k3⟩ := GB.append_one (P := P) (t := t) T ty (g.kept k12) q arr ha nt (D.mono hq (fun b' o hb' => ⟨hb'.less (by omega), fun eo => by have := g.lt b' eo; have := hb'.1; omega⟩)) hl (by omega)
  have b3 : Blk w3 X xt cs := b2.kept k3 (fun eo => by have := g.base X eo; omega)
  refine ⟨by rw [b2.cell i]; exact hi, hX2, a, n, c, w3, r3, by rw [b3.cell i]; exact hi, b3.frozen i, b3.lt, ?_, b3.set_ i _, ?_⟩
  · exact ((k12.mono (fun _ _ g => g.elim)).trans k3 (fun k _ e => .inr e)).setCell _ (.inl (.inl rfl)) _
  · exact g3.keptF ((Kept.refl (fun k => k = X) w3).setCell ⟨X, i, none⟩ (.inl rfl) _) (fun k e => by omega)
theorem wpList_store_Q {ops : Array Oper} {rest : List Oper} {o : Oper} {a : Act} {w : World} {Q : Exit → Act → World → Prop} (hgd : o.guard = none) (x y : Operand) (ho : o.op = .store 82 x y)
    (g : Nat) (h : SH) (ta : Option Addr) (tn tc : Nat) (s : Option Addr) (n c : Nat) (hx : a.eval x = .pointer (some ⟨g, 0, none⟩)) (hy : a.eval y = vS h (.slice ta tn tc) (.slice s n c)) (v0 : Array Value) (h6 : v0.size = 6) (hg : Blk w g 82 v0)
    (hn : ∀ W, Kept (fun k => k = g) w W → Blk W g 82 (arrS h (.slice ta tn tc) (.slice s n c)) → wpList Tryz.prog ops Q rest (a.put o.dst undef) W) : wpList Tryz.prog ops Q (o :: rest) a w :=
  wpList_store_rowW hgd _ x y ho g _ hx hy _ _ hg infoQ6 h6 (by simp [Value.oneCell']) hn
theorem wpList_store_S {ops : Array Oper} {rest : List Oper} {o : Oper} {a : Act} {w : World} {Q : Exit → Act → World → Prop} (hgd : o.guard = none) (x y : Operand) (ho : o.op = .store 65 x y)
    (g : Nat) (h : SH) (ta : Option Addr) (tn tc : Nat) (s : Option Addr) (n c : Nat) (hx : a.eval x = .pointer (some ⟨g, 0, none⟩)) (hy : a.eval y = vS h (.slice ta tn tc) (.slice s n c)) (v0 : Array Value) (h6 : v0.size = 6) (hg : Blk w g 65 v0)
    (hn : ∀ W, Kept (fun k => k = g) w W → Blk W g 65 (arrS h (.slice ta tn tc) (.slice s n c)) → wpList Tryz.prog ops Q rest (a.put o.dst undef) W) : wpList Tryz.prog ops Q (o :: rest) a w :=
  wpList_store_rowW hgd _ x y ho g _ hx hy _ _ hg infoS6 h6 (by simp [Value.oneCell']) hn
abbrev zS : Array Value := #[.int .i64 0, .int .i64 0, .int .i64 0, .int .i64 0, .slice none 0 0, .slice none 0 0]
end
section
open Go.RowKit
set_option maxRecDepth 100000

/-- A step in new memory. -/
def StEnd (hd : SH) (subs : List St) (w : World) (e : Ending) (w' : World) : Prop :=
  ∃ ta tc a cap, e = .returned (vS hd (.slice ta hd.ts.length tc) (.slice a subs.length cap)) ∧ TsAt w' (okM w.heap.size w') (.slice ta hd.ts.length tc) hd.ts ∧ SHolds w' (okM w.heap.size w') (.slice a subs.length cap) subs ∧ Kept Nil w w'
abbrev RefSIH (subs : List St) : Prop := ∀ hd sb, St.mk hd sb ∈ subs → ∀ ok ta tc a cap w, TsAt w ok (.slice ta hd.ts.length tc) hd.ts → SHolds w ok (.slice a sb.length cap) sb →
  Calls Tryz.prog 50 #[vS hd (.slice ta hd.ts.length tc) (.slice a sb.length cap)] w (StEnd hd sb w)
set_option maxHeartbeats 4000000 in
theorem refS_step (k k0 k1 k2 : Int) (ts : List Tst) (subs : List St) (htl : ts.length ≤ 5000) (hLen : subs.length ≤ 5000) (IH : Hid (RefSIH subs))
    (ok : Nat → Nat → Prop) (ta : Option Addr) (tc : Nat) (a : Option Addr) (cap : Nat) (w : World) (ht : TsAt w ok (.slice ta ts.length tc) ts) (h : SHolds w ok (.slice a subs.length cap) subs) :
    Calls Tryz.prog 50 #[vS ⟨k, k0, k1, k2, ts⟩ (.slice ta ts.length tc) (.slice a subs.length cap)] w (StEnd ⟨k, k0, k1, k2, ts⟩ subs w) := by
  obtain ⟨tn, hn1⟩ : ∃ n, ts.length = n := ⟨_, rfl⟩
  obtain ⟨len, hl1⟩ : ∃ n, subs.length = n := ⟨_, rfl⟩
  have HT := Lib.hid ht
  have HH := Lib.hid h
  rw [hn1] at HT htl ⊢
  rw [hl1] at HH hLen ⊢
  have HN1 := Lib.hid hn1
  have HL1 := Lib.hid hl1
  clear ht h hn1 hl1
  have R0 := Lib.hid ((Two2.start w 65 (arrS ⟨k, k0, k1, k2, ts⟩ (.slice ta tn tc) (.slice a len cap)) 82 zS).alloc (.cells (arrS ⟨k, k0, k1, k2, ts⟩ (.slice none 0 0) (.slice none 0 0)) 82))
  have B0 : Hid (Blk (((w.alloc (.cells (arrS ⟨k, k0, k1, k2, ts⟩ (.slice ta tn tc) (.slice a len cap)) 65)).alloc (.cells zS 82)).alloc (.cells (arrS ⟨k, k0, k1, k2, ts⟩ (.slice none 0 0) (.slice none 0 0)) 82)) (w.heap.size + 1 + 1) 82 (arrS ⟨k, k0, k1, k2, ts⟩ (.slice none 0 0) (.slice none 0 0))) := Lib.hid (by
    have := Blk.new ((w.alloc (.cells (arrS ⟨k, k0, k1, k2, ts⟩ (.slice ta tn tc) (.slice a len cap)) 65)).alloc (.cells zS 82)) 82 (arrS ⟨k, k0, k1, k2, ts⟩ (.slice none 0 0) (.slice none 0 0))
    simpa using this)
  go_enter Tryz.func50, Tryz.ntmps50
  go_wp2_with fail
  go_loopw [16] (fun i wr => ∃ (j : Nat) (v : Value), j ≤ tn ∧ i = .int .i64 j ∧ Two2 w 65 (arrS ⟨k, k0, k1, k2, ts⟩ (.slice ta tn tc) (.slice a len cap)) 82 zS wr ∧ Blk wr (w.heap.size + 1 + 1) 82 (arrS ⟨k, k0, k1, k2, ts⟩ v (.slice none 0 0)) ∧ GB kT 99 wr (w.heap.size + 1 + 1 + 1) v (ts.take j)) (fun i _ => tn - (intOf i).toNat)
  case atStart => exact ⟨0, .slice none 0 0, by omega, rfl, R0.out, B0.out, by rw [List.take_zero]; exact GB.nil _⟩
  case round =>
    obtain ⟨j, v, hj, rfl, hR, hB, hG⟩ := hrel
    have HR := Lib.hid hR
    have HB := Lib.hid hB
    have HG := Lib.hid hG
    have hs : w.heap.size + 1 + 1 < wr.heap.size := hB.lt
    clear hR hB hG R0 B0
    by_cases hlt : j < tn
    · obtain ⟨⟨t0, t1, t2⟩, hx⟩ : ∃ x, ts[j]? = some x := ⟨_, List.getElem?_eq_getElem (by have := HN1.out; omega)⟩
      obtain ⟨b, o, rfl, _, hr⟩ := (HT.out.keptN HR.out.kept).at_ hx
      have HRow := Lib.hid hr
      have hlj : (ts.take j).length = j := by rw [List.length_take]; have := HN1.out; omega
      obtain ⟨av, cv, rfl, _⟩ := HG.out.shape
      rw [hlj] at HB HG
      have HN : Hid (ts.take (j + 1) = ts.take j ++ [(t0, t1, t2)]) := Lib.hid (by rw [List.take_add_one, hx]; rfl)
      have ka := (Kept.refl Nil wr).alloc (.cells #[.int .i64 t0, .int .i64 t1, .int .i64 t2] 59)
      obtain ⟨_, _, a3, n3, c3, w3, r3, y43, f43, hX3, k3, b3, g3⟩ := GB.round (P := Tryz.prog) (t := 80) elsU 80 (Nat.lt_succ_self _) (by have := ka.size; omega) (HB.out.kept ka id) (i := 4) rfl (HG.out.kept ka) (by omega) (Kept.refl Nil _) (Kept.refl Nil _) (t0, t1, t2) #[.int .i64 t0, .int .i64 t1, .int .i64 t2] rfl 99 trivial
      have hsz : (wr.alloc (.cells #[.int .i64 t0, .int .i64 t1, .int .i64 t2] 59)).heap.size = wr.heap.size + 1 := by simp
      rw [hsz] at r3
      have RR := Lib.hid r3
      have G3 := Lib.hid g3
      have B3 : Hid (Blk (w3.setCell ⟨w.heap.size + 1 + 1, 4, none⟩ (.slice a3 n3 c3)) (w.heap.size + 1 + 1) 82 (arrS ⟨k, k0, k1, k2, ts⟩ (.slice a3 n3 c3) (.slice none 0 0))) := Lib.hid (by simpa using b3)
      have R3 := Lib.hid ((HR.out.alloc (.cells #[.int .i64 t0, .int .i64 t1, .int .i64 t2] 59)).far k3 (fun i e => by
        rcases e with e | e
        · omega
        · have := HG.out.base i e; omega))
      have y4 := HB.out.cell 4
      simp at y4
      clear hx hr ka r3 g3 b3 k3 hlj HB HG hsz
      go_wp2_with (first
        | ((with_reducible refine wpList_load_T rfl (.tmp 18) rfl _ _ rfl t0 t1 t2 ?_ ?_)
           · exact HRow.out)
        | (at_builtin; refine wpList_append_run rfl (.tmp 21) (.tmp 29) 80 rfl _ _ rfl rfl RR.out ?_))
      go_roundw
      case rel => exact ⟨j + 1, _, by omega, by go_num, R3.out, B3.out, by rw [HN.out]; exact G3.out⟩
      case measure => simp [intOf]; omega
    · obtain rfl : tn = j := by omega
      have HE : Hid (ts.take tn = ts) := Lib.hid (by rw [← HN1.out]; simp)
      obtain ⟨av, cv, rfl, hcv⟩ := HG.out.shape
      rw [HE.out] at HG HB hcv
      rw [HN1.out] at HG HB hcv
      have c5 := HR.out.b0.cell 5
      simp at c5
      go_wp2_with fail
      go_loopw [36] (fun i wr => ∃ (j : Nat) (v : Value) (ps : List SQ), j ≤ len ∧ i = .int .i64 j ∧ trS ps = subs.take j ∧ Two2 w 65 (arrS ⟨k, k0, k1, k2, ts⟩ (.slice ta tn tc) (.slice a len cap)) 82 zS wr ∧ Blk wr (w.heap.size + 1 + 1) 82 (arrS ⟨k, k0, k1, k2, ts⟩ (.slice av tn cv) v) ∧ GB kT 99 wr (w.heap.size + 1 + 1 + 1) (.slice av tn cv) ts ∧ GB kS 82 wr (w.heap.size + 1 + 1 + 1) v ps) (fun i _ => len - (intOf i).toNat)
      case atStart => exact ⟨0, .slice none 0 0, [], by omega, rfl, rfl, HR.out, HB.out, HG.out, GB.nil _⟩
      case round =>
        obtain ⟨j, v, ps, hj, rfl, hps, hR, hB, hT, hG⟩ := hrel
        have HR := Lib.hid hR
        have HB := Lib.hid hB
        have HT' := Lib.hid hT
        have HG := Lib.hid hG
        have HP := Lib.hid hps
        have hs : w.heap.size + 1 + 1 < wr.heap.size := hB.lt
        clear hR hB hT hG hps c5
        by_cases hlt : j < len
        · obtain ⟨⟨⟨k', k0', k1', k2', ts'⟩, sb⟩, hx⟩ : ∃ x, subs[j]? = some x := ⟨_, List.getElem?_eq_getElem (by have := HL1.out; omega)⟩
          obtain ⟨b, o, ta', tc', a', cap', rfl, _, hr, ht, hs'⟩ := (HH.out.keptN HR.out.kept).at_ hx
          have HX0 := IH.out _ _ (List.mem_of_getElem? hx)
          have HX : Hid (∀ W, TsAt W ok (.slice ta' ts'.length tc') ts' → SHolds W ok (.slice a' sb.length cap') sb → Calls Tryz.prog 50 #[vS ⟨k', k0', k1', k2', ts'⟩ (.slice ta' ts'.length tc') (.slice a' sb.length cap')] W fun e w' => ∃ t2 d2 a2 c2, e = .returned (vS ⟨k', k0', k1', k2', ts'⟩ (.slice t2 ts'.length d2) (.slice a2 sb.length c2)) ∧ TsAt w' (okM W.heap.size w') (.slice t2 ts'.length d2) ts' ∧ SHolds w' (okM W.heap.size w') (.slice a2 sb.length c2) sb ∧ Kept Nil W w') := Lib.hid fun W h1 h2 => HX0 ok ta' tc' a' cap' W h1 h2
          have HRow : Hid (wr.rangeAt b (o + j * 6) (cS ⟨k', k0', k1', k2', ts'⟩ (.slice ta' ts'.length tc') (.slice a' sb.length cap'))) := Lib.hid hr
          have HTs : Hid (TsAt wr ok (.slice ta' ts'.length tc') ts') := Lib.hid ht
          have HS : Hid (SHolds wr ok (.slice a' sb.length cap') sb) := Lib.hid hs'
          have HN : Hid (subs.take (j + 1) = subs.take j ++ [St.mk ⟨k', k0', k1', k2', ts'⟩ sb]) := Lib.hid (by rw [List.take_add_one, hx]; rfl)
          have hpl0 : ps.length = j := by have := congrArg List.length HP.out; rw [trS_len, List.length_take] at this; have := HL1.out; omega
          obtain ⟨sa, sc, rfl, _⟩ := HG.out.shape
          rw [hpl0] at HB HG
          clear hx hr ht hs' HX0
          generalize htn' : ts'.length = tn' at HRow HTs HX
          generalize hsn' : sb.length = sn' at HRow HS HX
          clear htn' hsn'
          go_wp2_with ((with_reducible refine wpList_load_S rfl (.tmp 38) rfl _ _ rfl ⟨k', k0', k1', k2', ts'⟩ (.slice ta' tn' tc') (.slice a' sn' cap') ?_ ?_)
                       · exact HRow.out)
          obtain ⟨W1, hW1⟩ : ∃ W1, wr.alloc (.cells (arrS ⟨k', k0', k1', k2', ts'⟩ (.slice ta' tn' tc') (.slice a' sn' cap')) 65) = W1 := ⟨_, rfl⟩
          have KW : Kept Nil wr W1 := by rw [← hW1]; exact (Kept.refl Nil wr).alloc _
          have by0 : Blk W1 wr.heap.size 65 (arrS ⟨k', k0', k1', k2', ts'⟩ (.slice ta' tn' tc') (.slice a' sn' cap')) := by rw [← hW1]; exact Blk.new _ _ _
          rw [show wr.alloc (.cells #[.int .i64 k', .int .i64 k0', .int .i64 k1', .int .i64 k2', .slice ta' tn' tc', .slice a' sn' cap'] 65) = W1 from hW1]
          have RW := Lib.hid (HR.out.step KW)
          have BW := Lib.hid (HB.out.kept KW id)
          have TW := Lib.hid (HT'.out.kept KW)
          have GW := Lib.hid (HG.out.kept KW)
          have HTW := Lib.hid (HTs.out.keptN KW)
          have HSW := Lib.hid (HS.out.keptN KW)
          have hXW : w.heap.size + 1 + 1 < W1.heap.size := by have := KW.size; omega
          have e0 := by0.cell 0
          have e1 := by0.cell 1
          have e2 := by0.cell 2
          have e3 := by0.cell 3
          have e4 := by0.cell 4
          have e5 := by0.cell 5
          have x5 := BW.out.cell 5
          simp at e0 e1 e2 e3 e4 e5 x5
          clear hW1 KW by0 HR HB HG HT' HS HTs HRow hs
          have RND : Hid (∀ t2 d2 a2 c2 w2, TsAt w2 (okM W1.drew.heap.size w2) (.slice t2 tn' d2) ts' → SHolds w2 (okM W1.drew.heap.size w2) (.slice a2 sn' c2) sb → Kept Nil W1.drew w2 → _) := Lib.hid fun t2 d2 a2 c2 w2 h1 h2 k2 =>
            GB.round (P := Tryz.prog) (t := 35) (D := kS) elsQ 35 (Nat.lt_succ_self _) (by omega) BW.out (i := 5) rfl GW.out (by omega) ((Kept.refl Nil W1).drew) k2 (.mk ⟨k', k0', k1', k2', ts'⟩ sb, .slice t2 tn' d2, .slice a2 sn' c2) (arrS ⟨k', k0', k1', k2', ts'⟩ (.slice t2 tn' d2) (.slice a2 sn' c2)) rfl 82 ⟨h1, h2⟩
          go_region_law (first
            | (refine step_append_run rfl (.tmp 41) (.tmp 44) 35 rfl _ _ rfl rfl r3 ?_)
            | (go_simp; go_at_call 50; refine (HX.out _ (HTW.out.keptN ((Kept.refl Nil _).drew)) (HSW.out.keptN ((Kept.refl Nil _).drew))).mono ?_; rintro e w2 ⟨t2, d2, a2, c2, rfl, h1, h2, k2⟩; obtain ⟨c52, hX2, a3, n3, c3, w3, r3, c53, f53, hX3, F0, F1, F2⟩ := RND.out t2 d2 a2 c2 w2 h1 h2 k2; have F0' := Lib.hid F0; have F1' := Lib.hid F1; have F2' := Lib.hid F2; clear F0 F1 F2 h1 h2 k2))
          all_goals
            have R3 := Lib.hid (RW.out.far F0'.out (fun i e => by
              rcases e with e | e
              · omega
              · have := GW.out.base i e; omega))
            have T3 : Hid (GB kT 99 (w3.setCell ⟨w.heap.size + 1 + 1, 5, none⟩ (.slice a3 n3 c3)) (w.heap.size + 1 + 1 + 1) (.slice av tn cv) ts) := Lib.hid ⟨Kept.row F0'.out TW.out.own (fun i hi e => by
              rcases e with e | e
              · have := TW.out.base i hi; omega
              · obtain ⟨_, _, _, q1⟩ := TW.out.own.base i hi
                obtain ⟨_, _, _, q2⟩ := GW.out.own.base i e
                exact neqUQ (blk_type q1 q2)), fun _ _ => trivial⟩
            have B3 : Hid (Blk (w3.setCell ⟨w.heap.size + 1 + 1, 5, none⟩ (.slice a3 n3 c3)) (w.heap.size + 1 + 1) 82 (arrS ⟨k, k0, k1, k2, ts⟩ (.slice av tn cv) (.slice a3 n3 c3))) := Lib.hid (by simpa using F1'.out)
            go_wp2_with fail
            go_roundw
            case rel =>
              refine ⟨j + 1, _, ps ++ [(.mk ⟨k', k0', k1', k2', ts'⟩ sb, .slice t2 tn' d2, .slice a2 sn' c2)], by omega, by go_num, ?_, R3.out, B3.out, T3.out, F2'.out⟩
              rw [trS_append, HP.out, HN.out]; rfl
            case measure => simp [intOf]; omega
        · obtain rfl : len = j := by omega
          have HE2 : Hid (trS ps = subs) := Lib.hid (by rw [HP.out, ← HL1.out]; simp)
          obtain ⟨sa, sc, rfl, hsc⟩ := HG.out.shape
          have hpl : ps.length = len := by rw [← trS_len, HE2.out, HL1.out]
          rw [hpl] at HG HB hsc
          go_wp2_with (first
            | ((with_reducible refine wpList_load_Q rfl (.tmp 3) rfl _ _ rfl ⟨k, k0, k1, k2, ts⟩ (.slice av tn cv) (.slice sa len sc) ?_ ?_)
               · exact World.rangeAt_of_block HB.out 0 6)
            | ((with_reducible refine wpList_store_Q rfl (.tmp 2) _ rfl _ ⟨k, k0, k1, k2, ts⟩ _ _ _ _ _ _ rfl rfl zS rfl ?_ ?_)
               · exact HR.out.b1
               intro W kW bW
               have KW := Lib.hid kW
               have BW := Lib.hid bW
               clear kW bW))
          refine bodyPost_ret (results_cell_row Tryz.results50 _ _ _ _ _ _ _ rfl BW.out Tryz.underlying82 rfl (by kernel_rfl)) rfl ?_
          have hh := HG.out.sholds
          have htt := HT'.out.tsAt
          rw [HE2.out] at hh
          refine ⟨av, cv, sa, sc, by rw [HL1.out, show (SH.mk k k0 k1 k2 ts).ts.length = tn from HN1.out], ?_, ?_, HR.out.kept.trans KW.out (fun i hi e => by omega)⟩
          · rw [show (SH.mk k k0 k1 k2 ts).ts.length = tn from HN1.out]
            exact (htt.kept KW.out (fun b o hb e => by have := hb.1; omega)).mono (fun b o hb => (hb.kept KW.out (fun e => by have := hb.1; omega)).less (by omega))
          · rw [HL1.out]
            exact (hh.kept KW.out (fun b o hb e => by have := hb.1; omega)).mono (fun b o hb => (hb.kept KW.out (fun e => by have := hb.1; omega)).less (by omega))
theorem refSt_any : ∀ s : St, s.mass ≤ 5000 → ∀ ok ta tc a cap w, TsAt w ok (.slice ta s.hd.ts.length tc) s.hd.ts → SHolds w ok (.slice a s.subs.length cap) s.subs →
    Calls Tryz.prog 50 #[vS s.hd (.slice ta s.hd.ts.length tc) (.slice a s.subs.length cap)] w (StEnd s.hd s.subs w) := by
  refine St.ind fun hd subs ih hc ok ta tc a cap w h1 h2 => ?_
  have hc' : 1 + hd.ts.length + massL subs ≤ 5000 := by simpa [St.mass] using hc
  have hl := length_massL subs
  exact refS_step hd.k hd.k0 hd.k1 hd.k2 hd.ts subs (by omega) (by omega) (Lib.hid fun hd' sb hx => ih _ hx (by have := mass_mem hx; omega)) ok ta tc a cap w h1 h2
end
section
open Go.RowKit
set_option maxRecDepth 100000

/-- Steps in new memory. -/
def StsEnd (l : List St) (w : World) (e : Ending) (w' : World) : Prop :=
  ∃ a cap, e = .returned (.slice a l.length cap) ∧ SHolds w' (okM w.heap.size w') (.slice a l.length cap) l ∧ Kept Nil w w'
end
section
open Go.RowKit
set_option maxRecDepth 100000

/-- What is read of the box. -/
abbrev SeenB (B : Nat) (k k0 k1 k2 : Int) (v : Value) (w' : World) : Prop :=
  w'.cell? ⟨B, 0, none⟩ = some (.int .i64 k) ∧ w'.cell? ⟨B, 1, none⟩ = some (.int .i64 k0) ∧ w'.cell? ⟨B, 2, none⟩ = some (.int .i64 k1) ∧ w'.cell? ⟨B, 3, none⟩ = some (.int .i64 k2) ∧ w'.cell? ⟨B, 5, none⟩ = some v
section
variable {B : Nat} {k k0 k1 k2 : Int} {v : Value} {w w' : World}
theorem SeenB.move (k0' : ∀ i v, w.cell? ⟨B, i, none⟩ = some v → w'.cell? ⟨B, i, none⟩ = some v) (h : SeenB B k k0 k1 k2 v w) : SeenB B k k0 k1 k2 v w' :=
  ⟨k0' _ _ h.1, k0' _ _ h.2.1, k0' _ _ h.2.2.1, k0' _ _ h.2.2.2.1, k0' _ _ h.2.2.2.2⟩
theorem seenB_kept (kk : Kept Nil w w') (h : SeenB B k k0 k1 k2 v w) : SeenB B k k0 k1 k2 v w' := h.move (fun _ _ h => kk.cellOf h)
theorem seenB_alloc (o : Obj) (h : SeenB B k k0 k1 k2 v w) : SeenB B k k0 k1 k2 v (w.alloc o) := seenB_kept ((Kept.refl Nil w).alloc o) h
theorem seenB_da (o : Obj) (h : SeenB B k k0 k1 k2 v w.drew) : SeenB B k k0 k1 k2 v (w.alloc o).drew := seenB_kept ((Kept.refl Nil w.drew).alloc o) h
theorem seenB_set {A i : Nat} {u : Value} (h0 : B ≠ A) (h : SeenB B k k0 k1 k2 v w) : SeenB B k k0 k1 k2 v (w.setCell ⟨A, i, none⟩ u) :=
  h.move (fun i v h => by rw [World.cell?_setCell_other w _ _ _ (fun e => h0 (congrArg Addr.block e).symm)]; exact h)
theorem seenB_set6 {A : Nat} {v0 v1 v2 v3 v4 v5 : Value} (h0 : B ≠ A) (h : SeenB B k k0 k1 k2 v w) : SeenB B k k0 k1 k2 v ((((((w.setCell ⟨A, 0, none⟩ v0).setCell ⟨A, 1, none⟩ v1).setCell ⟨A, 2, none⟩ v2).setCell ⟨A, 3, none⟩ v3).setCell ⟨A, 4, none⟩ v4).setCell ⟨A, 5, none⟩ v5) := (seenB_set h0 (seenB_set h0 (seenB_set h0 (seenB_set h0 (seenB_set h0 (seenB_set h0 h))))))
theorem seenB_swap {o o' : Obj} (h0 : B < w.heap.size) (h : SeenB B k k0 k1 k2 v (w.alloc o)) : SeenB B k k0 k1 k2 v (w.alloc o') :=
  h.move (fun i v h => by rw [World.cell?_alloc_lt w _ _ h0] at *; exact h)
end
theorem newKS {w w' : World} {t : TypeId} {cs : Array Value} (k : Kept Nil (w.alloc (.cells cs t)) w') : Blk w' w.heap.size t cs := (Blk.new w t cs).kept k id
theorem newKSd {w w' : World} {t : TypeId} {cs : Array Value} (k : Kept Nil (w.alloc (.cells cs t)).drew w') : Blk w' w.heap.size t cs := ((Blk.new w t cs).drew).kept k id
theorem blk_set6 {W : World} {X : Nat} {t : TypeId} {c0 c1 c2 c3 c4 c5 : Value} (b : Blk W X t #[c0, c1, c2, c3, c4, c5]) (v0 v1 v2 v3 v4 v5 : Value) : Blk ((((((W.setCell ⟨X, 0, none⟩ v0).setCell ⟨X, 1, none⟩ v1).setCell ⟨X, 2, none⟩ v2).setCell ⟨X, 3, none⟩ v3).setCell ⟨X, 4, none⟩ v4).setCell ⟨X, 5, none⟩ v5) X t #[v0, v1, v2, v3, v4, v5] := by
  have := ((((((b.set_ 0 v0).set_ 1 v1).set_ 2 v2).set_ 3 v3).set_ 4 v4).set_ 5 v5)
  simpa using this
theorem Kept.set6 {F : Nat → Prop} {a W : World} {X : Nat} (h : Kept F a W) (hX : F X ∨ a.heap.size ≤ X) (v0 v1 v2 v3 v4 v5 : Value) : Kept F a ((((((W.setCell ⟨X, 0, none⟩ v0).setCell ⟨X, 1, none⟩ v1).setCell ⟨X, 2, none⟩ v2).setCell ⟨X, 3, none⟩ v3).setCell ⟨X, 4, none⟩ v4).setCell ⟨X, 5, none⟩ v5) :=
  (((((h.setCell ⟨X, 0, none⟩ hX v0).setCell ⟨X, 1, none⟩ hX v1).setCell ⟨X, 2, none⟩ hX v2).setCell ⟨X, 3, none⟩ hX v3).setCell ⟨X, 4, none⟩ hX v4).setCell ⟨X, 5, none⟩ hX v5
/-- A step of the program is made: its Subs lie in new memory, in other blocks than its own. -/
def MadeS (W0 : World) (h : SH) (n : Nat) (sb : List St) (p : Value) (wx : World) : Prop :=
  ∃ X a2 c2, p = .pointer (some ⟨X, 0, none⟩) ∧ W0.heap.size ≤ X ∧ Kept Nil W0 wx ∧ Blk wx X 65 (arrS h (.slice none 0 0) (.slice a2 n c2)) ∧ SHolds wx (fun b o => okM W0.heap.size wx b o ∧ b ≠ X) (.slice a2 n c2) sb
theorem made_last {W0 w7 : World} {h : SH} {n : Nat} {sb : List St} {a2 : Option Addr} {c2 : Nat} (k7 : Kept Nil W0.drew w7) (h2 : SHolds w7 (okM W0.drew.heap.size w7) (.slice a2 n c2) sb) : MadeS W0 h n sb (.pointer (some ⟨w7.heap.size, 0, none⟩)) (w7.alloc (.cells (arrS h (.slice none 0 0) (.slice a2 n c2)) 65)) := by
  have k0 : Kept Nil W0 w7 := ((Kept.refl Nil W0).drew).trans k7 (fun _ _ g => g)
  refine ⟨w7.heap.size, a2, c2, rfl, k0.size, k0.alloc _, Blk.new _ _ _, (h2.keptN ((Kept.refl Nil w7).alloc _)).mono fun b o hb => ⟨hb.kept ((Kept.refl Nil w7).alloc _) id, by have := hb.2.1; omega⟩⟩
theorem made_first {W0 w7 : World} {h : SH} {n : Nat} {sb : List St} {a2 : Option Addr} {c2 : Nat} (k7 : Kept Nil (W0.alloc (.cells zS 65)).drew w7) (h2 : SHolds w7 (okM (W0.alloc (.cells zS 65)).drew.heap.size w7) (.slice a2 n c2) sb) :
    MadeS W0 h n sb (.pointer (some ⟨W0.heap.size, 0, none⟩)) ((((((w7.setCell ⟨W0.heap.size, 0, none⟩ (.int .i64 h.k)).setCell ⟨W0.heap.size, 1, none⟩ (.int .i64 h.k0)).setCell ⟨W0.heap.size, 2, none⟩ (.int .i64 h.k1)).setCell ⟨W0.heap.size, 3, none⟩ (.int .i64 h.k2)).setCell ⟨W0.heap.size, 4, none⟩ (.slice none 0 0)).setCell ⟨W0.heap.size, 5, none⟩ (.slice a2 n c2)) := by
  have k0 : Kept Nil W0 w7 := (((Kept.refl Nil W0).alloc _).drew).trans k7 (fun _ _ g => g)
  have hs : (W0.alloc (.cells zS 65)).drew.heap.size = W0.heap.size + 1 := by simp
  rw [hs] at h2
  have kS := (Kept.refl (fun k => k = W0.heap.size) w7).set6 (X := W0.heap.size) (.inl rfl) (.int .i64 h.k) (.int .i64 h.k0) (.int .i64 h.k1) (.int .i64 h.k2) (.slice none 0 0) (.slice a2 n c2)
  refine ⟨W0.heap.size, a2, c2, rfl, Nat.le_refl _, k0.set6 (.inr (Nat.le_refl _)) _ _ _ _ _ _, blk_set6 (newKSd k7) _ _ _ _ _ _, (h2.kept kS (fun b o hb e => by have := hb.1; omega)).mono fun b o hb => ⟨(hb.kept kS (fun e => by have := hb.1; omega)).less (by omega), by have := hb.1; omega⟩⟩
abbrev StepsIH (l : List St) : Prop := ∀ hd sb, St.mk hd sb ∈ l → ∀ ok a cap w, SHolds w ok (.slice a sb.length cap) sb → Calls Tryz.prog 11 #[.slice a sb.length cap] w (StsEnd sb w)
set_option maxHeartbeats 8000000 in
theorem steps_step (l : List St) (hc : massL l ≤ 5000) (IH : Hid (StepsIH l)) (ok : Nat → Nat → Prop) (a : Option Addr) (cap : Nat) (w : World) (h : SHolds w ok (.slice a l.length cap) l) :
    Calls Tryz.prog 11 #[.slice a l.length cap] w (StsEnd l w) := by
  have HH := Lib.hid h.inb
  have HC := Lib.hid hc
  obtain ⟨len, hlen⟩ : ∃ len, l.length = len := ⟨_, rfl⟩
  rw [hlen] at HH ⊢
  have HL := Lib.hid hlen
  have hLen : len ≤ 5000 := by have := length_massL l; omega
  clear h hc hlen
  go_enter Tryz.func11, Tryz.ntmps11
  go_wp2_with fail
  go_loopw [3, 11] (fun u i wr => ∃ (j : Nat) (ps : List SQ), j ≤ len ∧ i = .int .i64 j ∧ trS ps = l.take j ∧ GB kS 65 wr w.heap.size u ps ∧ Kept Nil w wr) (fun _ i _ => len - (intOf i).toNat)
  case atStart => exact ⟨0, [], by omega, rfl, rfl, GB.nil _, Kept.refl _ _⟩
  case round =>
    rename World => wo
    obtain ⟨j, ps, hj, rfl, hps, hG, hK⟩ := hrel
    have HG := Lib.hid hG
    have HK := Lib.hid hK
    have HP := Lib.hid hps
    clear hG hps hK
    have hpl0 : ps.length = j := by have := congrArg List.length HP.out; rw [trS_len, List.length_take] at this; have := HL.out; omega
    obtain ⟨au, cu, rfl, hcu⟩ := HG.out.shape
    rw [hpl0] at HG hcu ⊢
    by_cases hlt : j < len
    · obtain ⟨⟨⟨k', k0', k1', k2', ts'⟩, sb⟩, hx⟩ : ∃ x, l[j]? = some x := ⟨_, List.getElem?_eq_getElem (by have := HL.out; omega)⟩
      obtain ⟨b, o, ta', tc', a', cap', rfl, _, hr, ht, hs⟩ := (HH.out.keptN HK.out).at_ hx
      have hcx : (St.mk ⟨k', k0', k1', k2', ts'⟩ sb).mass ≤ 5000 := Nat.le_trans (mass_mem (List.mem_of_getElem? hx)) HC.out
      have htl' : ts'.length ≤ 5000 := by rw [St.mass] at hcx; exact Nat.le_trans (Nat.le_trans (Nat.le_add_left _ 1) (Nat.le_add_right _ _)) hcx
      have HX0 := IH.out _ _ (List.mem_of_getElem? hx)
      have HX : Hid (∀ W, SHolds W (fun b _ => b < w.heap.size) (.slice a' sb.length cap') sb → Calls Tryz.prog 11 #[.slice a' sb.length cap'] W fun e w' => ∃ a2 c2, e = .returned (.slice a2 sb.length c2) ∧ SHolds w' (okM W.heap.size w') (.slice a2 sb.length c2) sb ∧ Kept Nil W w') := Lib.hid fun W hW => HX0 _ a' cap' W hW
      have HRow : Hid (wo.rangeAt b (o + j * 6) (cS ⟨k', k0', k1', k2', ts'⟩ (.slice ta' ts'.length tc') (.slice a' sb.length cap'))) := Lib.hid hr
      have HTs : Hid (TsAt wo (fun b _ => b < w.heap.size) (.slice ta' ts'.length tc') ts') := Lib.hid ht
      have HSb : Hid (SHolds wo (fun b _ => b < w.heap.size) (.slice a' sb.length cap') sb) := Lib.hid hs
      have HN : Hid (l.take (j + 1) = l.take j ++ [St.mk ⟨k', k0', k1', k2', ts'⟩ sb]) := Lib.hid (by rw [List.take_add_one, hx]; rfl)
      clear hx hr ht hs hcx HX0
      obtain ⟨tn', htn⟩ : ∃ n, ts'.length = n := ⟨_, rfl⟩
      rw [htn] at HRow HTs htl'
      have HTN := Lib.hid htn
      clear htn
      generalize sb.length = sn' at HRow HX HSb
      go_wp2_with ((with_reducible refine wpList_load_Q rfl (.tmp 13) rfl _ _ rfl ⟨k', k0', k1', k2', ts'⟩ (.slice ta' tn' tc') (.slice a' sn' cap') ?_ ?_)
                   · exact HRow.out)
      obtain ⟨W0, hW0⟩ : ∃ W0, wo.alloc (.cells (arrS ⟨k', k0', k1', k2', ts'⟩ (.slice ta' tn' tc') (.slice a' sn' cap')) 82) = W0 := ⟨_, rfl⟩
      have KW := Lib.hid (show Kept Nil wo W0 by rw [← hW0]; exact (Kept.refl Nil wo).alloc _)
      have BY0 := Lib.hid (show Blk W0 wo.heap.size 82 (arrS ⟨k', k0', k1', k2', ts'⟩ (.slice ta' tn' tc') (.slice a' sn' cap')) by rw [← hW0]; exact Blk.new _ _ _)
      rw [show wo.alloc (.cells #[.int .i64 k', .int .i64 k0', .int .i64 k1', .int .i64 k2', .slice ta' tn' tc', .slice a' sn' cap'] 82) = W0 from hW0]
      have HsW : Hid (W0.heap.size = wo.heap.size + 1) := Lib.hid (by rw [← hW0]; simp)
      have hne : wo.heap.size ≠ W0.heap.size := by have := HsW.out; omega
      have hWlt : wo.heap.size < W0.heap.size := by have := HsW.out; omega
      have HSW := Lib.hid (HSb.out.keptN KW.out)
      have HX2 : Hid (∀ W, Kept Nil W0 W → Calls Tryz.prog 11 #[.slice a' sn' cap'] W fun e w' => ∃ a2 c2, e = .returned (.slice a2 sn' c2) ∧ SHolds w' (okM W.heap.size w') (.slice a2 sn' c2) sb ∧ Kept Nil W w') := Lib.hid fun W kW => HX.out W (HSW.out.keptN kW)
      have SS : Hid (SeenB wo.heap.size k' k0' k1' k2' (.slice a' sn' cap') W0.drew) := Lib.hid ⟨BY0.out.drew.cell 0, BY0.out.drew.cell 1, BY0.out.drew.cell 2, BY0.out.drew.cell 3, BY0.out.drew.cell 5⟩
      have KD1 := Lib.hid ((Kept.refl Nil W0).drew)
      have KD2 := Lib.hid (((Kept.refl Nil W0).alloc (.cells zS 65)).drew)
      clear hW0 HX
      go_cut [6] from 15 to 22 (fun p wx => MadeS W0 ⟨k', k0', k1', k2', ts'⟩ sn' sb p wx)
      case first =>
        go_region_held3 (SeenB wo.heap.size k' k0' k1' k2' (.slice a' sn' cap'))
          (first | (with_reducible exact SS.out) | (with_reducible exact seenB_set6 hne (by with_reducible assumption)) | (with_reducible exact seenB_kept k7 (by with_reducible assumption)) | (with_reducible exact seenB_alloc _ (by with_reducible assumption)) | (with_reducible exact seenB_da _ (by with_reducible assumption)) | (with_reducible refine seenB_swap ?_ (by with_reducible assumption)) <;> omega)
          (first
            | (go_at_call 11; (first | (with_reducible refine (HX2.out _ KD1.out).mono ?_) | (with_reducible refine (HX2.out _ KD2.out).mono ?_)); rintro e w7 ⟨a2, c2, rfl, h2, k7⟩; have z7 : W0.heap.size ≤ w7.heap.size := (by have := k7.size; (try simp at this); omega); (try (have z8 : W0.heap.size < w7.heap.size := (by have := k7.size; (try simp at this); omega))); first | (with_reducible have A7 := newKSd k7; have a0 := A7.cell 0; have b0 := A7.frozen 0; (try simp at a0); (try simp at b0); have a1 := A7.cell 1; have b1 := A7.frozen 1; (try simp at a1); (try simp at b1); have a2' := A7.cell 2; have b2 := A7.frozen 2; (try simp at a2'); (try simp at b2); have a3 := A7.cell 3; have b3 := A7.frozen 3; (try simp at a3); (try simp at b3); have a4 := A7.cell 4; have b4 := A7.frozen 4; (try simp at a4); (try simp at b4); have a5 := A7.cell 5; have b5 := A7.frozen 5; (try simp at a5); (try simp at b5)) | skip))
        all_goals
          have K7 := Lib.hid k7
          have H7 := Lib.hid h2
          clear k7 h2
          go_wp2_with fail
          go_meet
          first
            | with_reducible exact made_last K7.out H7.out
            | with_reducible exact made_first K7.out H7.out
      case rest =>
        obtain ⟨X, a2, c2, rfl, hX, kX, bX, sX⟩ := hcut
        have KX := Lib.hid kX
        have BX := Lib.hid bX
        have SX := Lib.hid sX
        have y4 := (BY0.out.kept kX id).cell 4
        have hXw : X < wc.heap.size := bX.lt
        have hwx : wo.heap.size < wc.heap.size := by have := kX.size; omega
        have hww : w.heap.size ≤ wo.heap.size := HK.out.size
        have KWX : Hid (Kept Nil wo wc) := Lib.hid (KW.out.trans kX (fun _ _ g => g))
        simp at y4
        clear kX bX sX SS KD1 KD2 HX2 HSW
        go_wp2_with fail
        go_loopw [26] (fun i wt => ∃ (n : Nat) (v : Value), n ≤ tn' ∧ i = .int .i64 n ∧ Blk wt X 65 (arrS ⟨k', k0', k1', k2', ts'⟩ v (.slice a2 sn' c2)) ∧ GB kT 59 wt wc.heap.size v (ts'.take n) ∧ Kept (fun k => k = X) wc wt) (fun i _ => tn' - (intOf i).toNat)
        case atStart => exact ⟨0, .slice none 0 0, by omega, rfl, BX.out, by rw [List.take_zero]; exact GB.nil _, Kept.refl _ _⟩
        case round =>
          obtain ⟨n, v, hn, rfl, hB, hT, hK2⟩ := hrel
          have HB := Lib.hid hB
          have HT := Lib.hid hT
          have HK2 := Lib.hid hK2
          have hs3 : wc.heap.size ≤ wr.heap.size := hK2.size
          have hXr : X < wr.heap.size := hB.lt
          clear hB hT hK2 BX y4
          by_cases hlt2 : n < tn'
          · obtain ⟨⟨t0, t1, t2⟩, hx⟩ : ∃ x, ts'[n]? = some x := ⟨_, List.getElem?_eq_getElem (by have := HTN.out; omega)⟩
            have kot : Kept (fun k => k = X) wo wr := (KWX.out.mono (fun _ _ g => g.elim)).trans HK2.out (fun _ _ g => g)
            obtain ⟨b', o', rfl, _, hr⟩ := (HTs.out.kept kot (fun b o hb e => by omega)).at_ hx
            have HRow2 := Lib.hid hr
            have hlj : (ts'.take n).length = n := by rw [List.length_take]; have := HTN.out; omega
            obtain ⟨av, cv, rfl, _⟩ := HT.out.shape
            rw [hlj] at HB HT
            have HN2 : Hid (ts'.take (n + 1) = ts'.take n ++ [(t0, t1, t2)]) := Lib.hid (by rw [List.take_add_one, hx]; rfl)
            have ka := (Kept.refl Nil wr).alloc (.cells #[.int .i64 t0, .int .i64 t1, .int .i64 t2] 99)
            obtain ⟨_, _, a3, n3, c3, w3, r3, y43, f43, hX3, k3, b3, g3⟩ := GB.round (P := Tryz.prog) (t := 63) elsT 63 hXw (by have := ka.size; omega) (HB.out.kept ka id) (i := 4) rfl (HT.out.kept ka) (by omega) (Kept.refl Nil _) (Kept.refl Nil _) (t0, t1, t2) #[.int .i64 t0, .int .i64 t1, .int .i64 t2] rfl 59 trivial
            have hsz : (wr.alloc (.cells #[.int .i64 t0, .int .i64 t1, .int .i64 t2] 99)).heap.size = wr.heap.size + 1 := by simp
            rw [hsz] at r3
            have RR := Lib.hid r3
            have G3 := Lib.hid g3
            have B3 : Hid (Blk (w3.setCell ⟨X, 4, none⟩ (.slice a3 n3 c3)) X 65 (arrS ⟨k', k0', k1', k2', ts'⟩ (.slice a3 n3 c3) (.slice a2 sn' c2))) := Lib.hid (by simpa using b3)
            have K3 : Hid (Kept (fun k => k = X) wc (w3.setCell ⟨X, 4, none⟩ (.slice a3 n3 c3))) := Lib.hid ((HK2.out.alloc _).trans k3 (fun i hi e => by
              rcases e with e | e
              · exact e
              · have := HT.out.base i e; omega))
            have y5 := HB.out.cell 4
            simp at y5
            clear hx hr ka r3 g3 b3 k3 hlj HB HT hsz kot
            go_wp2_with (first
              | ((with_reducible refine wpList_load_U rfl (.tmp 28) rfl _ _ rfl t0 t1 t2 ?_ ?_)
                 · exact HRow2.out)
              | (at_builtin; refine wpList_append_run rfl (.tmp 31) (.tmp 39) 63 rfl _ _ rfl rfl RR.out ?_))
            go_roundw
            case rel => exact ⟨n + 1, _, by omega, by go_num, B3.out, by rw [HN2.out]; exact G3.out, K3.out⟩
            case measure => simp [intOf]; omega
          · obtain rfl : tn' = n := by omega
            have HE : Hid (ts'.take tn' = ts') := Lib.hid (by rw [← HTN.out]; simp)
            obtain ⟨av, cv, rfl, _⟩ := HT.out.shape
            rw [HE.out] at HT HB
            rw [HTN.out] at HT HB
            have kor : Kept Nil wo wr := KWX.out.trans HK2.out (fun i hi e => by omega)
            have hq : kS.K wr (okN w.heap.size wr (.slice au j cu)) (St.mk ⟨k', k0', k1', k2', ts'⟩ sb, .slice av tn' cv, .slice a2 sn' c2) :=
              ⟨HT.out.tsAt.mono (fun b o hb => ⟨hb.less (by omega), fun eo => by have := HG.out.lt b eo; have := hb.1; omega⟩), (SX.out.kept HK2.out (fun b o hb => hb.2)).move (fun _ _ _ _ _ h => h) (fun b o hb => ⟨(hb.1.kept HK2.out hb.2).less (by omega), fun eo => by have := HG.out.lt b eo; have := hb.1.1; omega⟩)⟩
            obtain ⟨a3, n3, c3, w3, r3, g3, k3⟩ := GB.append_one (P := Tryz.prog) (t := 44) elsS 44 (HG.out.kept kor) (St.mk ⟨k', k0', k1', k2', ts'⟩ sb, .slice av tn' cv, .slice a2 sn' c2) (arrS ⟨k', k0', k1', k2', ts'⟩ (.slice av tn' cv) (.slice a2 sn' c2)) rfl 65 hq (by omega) (by omega)
            have RR := Lib.hid r3
            have G3 := Lib.hid g3
            have K3 := Lib.hid ((HK.out.trans kor (fun _ _ g => g)).trans k3 (fun i hi e => by have := HG.out.base i e; omega))
            clear r3 g3 k3 hq kor
            go_wp2_with (first
              | ((with_reducible refine wpList_load_S rfl (.tmp 6) rfl _ _ rfl ⟨k', k0', k1', k2', ts'⟩ (.slice av tn' cv) (.slice a2 sn' c2) ?_ ?_)
                 · exact World.rangeAt_of_block HB.out 0 6)
              | (at_builtin; refine wpList_append_run rfl (.tmp 43) (.tmp 45) 44 rfl _ _ rfl rfl RR.out ?_))
            go_roundw
            case rel =>
              refine ⟨j + 1, ps ++ [(.mk ⟨k', k0', k1', k2', ts'⟩ sb, .slice av tn' cv, .slice a2 sn' c2)], by omega, by go_num, ?_, G3.out, K3.out⟩
              rw [trS_append, HP.out, HN.out]; rfl
            case measure => simp [intOf]; omega
    · obtain rfl : len = j := by omega
      have HE : Hid (trS ps = l) := Lib.hid (by rw [HP.out, ← HL.out]; simp)
      go_wp2_with fail
      go_ret
      have hh := HG.out.sholds
      rw [HE.out] at hh
      exact ⟨au, cu, by rw [HL.out]; rfl, by rw [HL.out]; exact hh, HK.out⟩
theorem steps_tree : ∀ s : St, s.mass ≤ 5001 → ∀ ok a cap w, SHolds w ok (.slice a s.subs.length cap) s.subs → Calls Tryz.prog 11 #[.slice a s.subs.length cap] w (StsEnd s.subs w) := by
  refine St.ind fun hd subs ih hc ok a cap w h => ?_
  have hc' : 1 + hd.ts.length + massL subs ≤ 5001 := by simpa [St.mass] using hc
  exact steps_step subs (by omega) (Lib.hid fun hd' sb hx => ih _ hx (by have := mass_mem hx; omega)) ok a cap w h
theorem steps_any (l : List St) (hc : massL l ≤ 5000) (ok : Nat → Nat → Prop) (a : Option Addr) (cap : Nat) (w : World) (h : SHolds w ok (.slice a l.length cap) l) : Calls Tryz.prog 11 #[.slice a l.length cap] w (StsEnd l w) :=
  steps_tree (.mk ⟨0, 0, 0, 0, []⟩ l) (by simp [St.mass]; omega) ok a cap w h
end
end
end Go.Proofs.YtljefbfjehblpaaGreat
