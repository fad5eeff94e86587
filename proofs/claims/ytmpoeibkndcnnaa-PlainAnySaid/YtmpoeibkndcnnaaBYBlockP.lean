/- Layer plain: the program's Blockers (and which facts meet a step). -/
import Derived.Test.YtmpoeibkndcnnaaA15
import Derived.Test.YtmpoeibkndcnnaaBYBlock
import Derived.Test.YtmpoeibkndcnnaaA11
namespace Go.Proofs.Ytmpoeibkndcnnaa
open Go.RowKit
set_option maxRecDepth 100000

/-- The ids of the facts that meet a step. -/
def whichL (h : SH) (bk : List T3) (fs : List F4) : List Int := (fs.filter fun f => meetH h bk f.2).map Prod.fst
theorem whichL_take {h : SH} {bk : List T3} {fs : List F4} {j : Nat} {f : F4} (hf : fs[j]? = some f) : whichL h bk (fs.take (j + 1)) = whichL h bk (fs.take j) ++ if meetH h bk f.2 then [f.1] else [] := by
  unfold whichL
  rw [List.take_add_one, hf, List.filter_append, List.map_append]
  congr 1
  show (List.filter _ [f]).map Prod.fst = _
  by_cases e : meetH h bk f.2 = true
  · simp [e]
  · simp [e]
theorem whichL_len (h : SH) (bk : List T3) (fs : List F4) : (whichL h bk fs).length = fs.countP fun f => meetH h bk f.2 := by
  unfold whichL
  rw [List.length_map, List.countP_eq_length_filter]
set_option maxHeartbeats 4000000 in
theorem which_any (h : SH) (bk : List T3) (hts : ∀ x ∈ h.ts, tFine x ∧ -1 ≤ x.2.1) (hl : h.ts.length ≤ 5000) (a : Option Addr) (n c : Nat) (hn : n ≤ maxLen) (ta : Option Addr) (tn tc : Nat) (htn : h.ts.length = tn) (ua : Option Addr) (un uc : Nat) (w : World) (hi : In cT3 3 w a n bk) (ht : TsAt w Any2 (.slice ta tn tc) h.ts)
    (fs : List F4) (fa : Option Addr) (fn fc : Nat) (hfn : fn ≤ 100) (hF : In cF 4 w fa fn fs) :
    Calls Try.prog 41 #[vS h (.slice ta tn tc) (.slice ua un uc), .slice a n c, .slice fa fn fc] w fun e w' => ∃ ra rc, e = .returned (.slice ra (fs.countP fun f => meetH h bk f.2) rc) ∧ Kept Nil w w' := by
  subst htn
  have CM : Hid (∀ W (t : T3), Kept Nil w W → Calls Try.prog 63 #[vS h (.slice ta h.ts.length tc) (.slice ua un uc), .slice a n c, av t] W fun e w' => e = .returned (.bool (meetH h bk t)) ∧ Kept Nil W w') := Lib.hid fun W t kW => meets_any h bk t hts hl a n c hn Any2 ta tc (.slice ua un uc) ⟨ua, un, uc, rfl⟩ W (hi.kept kW) (ht.keptN kW)
  have HT : Hid (∀ (j : Nat) (f : F4), fs[j]? = some f → whichL h bk (fs.take (j + 1)) = whichL h bk (fs.take j) ++ if meetH h bk f.2 then [f.1] else []) := Lib.hid fun j f hf => whichL_take hf
  have HLn : Hid (whichL h bk (fs.take fn) = whichL h bk fs) := Lib.hid (by rw [List.take_of_length_le (by rw [hF.1]; exact Nat.le_refl _)])
  have HLe : Hid (∀ j, (whichL h bk (fs.take j)).length ≤ 100) := Lib.hid fun j => by
    rw [whichL_len]
    refine Nat.le_trans List.countP_le_length ?_
    rw [List.length_take, hF.1]
    omega
  have HZ : Hid (whichL h bk (fs.take 0) = []) := Lib.hid rfl
  rw [← whichL_len]
  obtain ⟨k, k0, k1, k2, ts⟩ := h
  simp only at *
  have B0 := Lib.hid (Blk.new w 59 (arrS ⟨k, k0, k1, k2, ts⟩ (.slice ta ts.length tc) (.slice ua un uc)))
  have K0 := Lib.hid ((Kept.refl Nil w).alloc (.cells (arrS ⟨k, k0, k1, k2, ts⟩ (.slice ta ts.length tc) (.slice ua un uc)) 59))
  have HF := Lib.hid hF
  generalize ts.length = tn at *
  clear hi ht hts hF hl
  generalize hwl : whichL ⟨k, k0, k1, k2, ts⟩ bk = wl at *
  generalize hmh : meetH ⟨k, k0, k1, k2, ts⟩ bk = mh at *
  clear hwl hmh
  go_enter Try.func41, Try.ntmps41
  go_wp2_with fail
  go_loopw [7, 12] (fun v i wr => ∃ (j m : Nat) (ia : Option Addr) (ic : Nat), j ≤ fn ∧ i = .int .i64 j ∧ v = .slice ia m ic ∧ (wl (fs.take j)).length = m ∧ Row cN 3 1 wr (w.heap.size + 1) (.slice ia m ic) (wl (fs.take j)) ∧ Blk wr w.heap.size 59 (arrS ⟨k, k0, k1, k2, ts⟩ (.slice ta tn tc) (.slice ua un uc)) ∧ Kept Nil (w.alloc (.cells (arrS ⟨k, k0, k1, k2, ts⟩ (.slice ta tn tc) (.slice ua un uc)) 59)) wr) (fun _ i _ => fn - (intOf i).toNat)
  case atStart =>
    refine ⟨0, 0, none, 0, by omega, rfl, rfl, ?_, ?_, B0.out, Kept.refl _ _⟩
    · rw [HZ.out]; rfl
    · rw [HZ.out]; exact Row.nil _ _
  case round =>
    obtain ⟨j, m, ia, ic, hj, rfl, rfl, hm, hR, hB, hK⟩ := hrel
    have HK := Lib.hid hK
    have HB := Lib.hid hB
    have HR := Lib.hid hR
    have HM := Lib.hid hm
    clear hK hB hR hm
    by_cases hlt : j < fn
    rotate_left
    · obtain rfl : j = fn := by omega
      have HE := Lib.hid (show m = (wl fs).length from by rw [← HLn.out]; exact HM.out.symm)
      go_wp2_with fail
      go_ret
      exact ⟨ia, ic, by rw [← HE.out]; rfl, K0.out.trans HK.out (fun _ _ g => g)⟩
    obtain ⟨⟨fi, x, y, z⟩, hx⟩ : ∃ x, fs[j]? = some x := ⟨_, List.getElem?_eq_getElem (by have := HF.out.1; omega)⟩
    have HK1 := Lib.hid (K0.out.trans HK.out (fun _ _ g => g))
    obtain ⟨b, o, rfl, hb, p0, p1, p2, p3⟩ := (HF.out.kept HK1.out).four hx
    have HTj := Lib.hid (HT.out j _ hx)
    have hm100 : m ≤ 100 := by rw [← HM.out]; exact HLe.out j
    simp only at p0 p1 p2 p3 HTj
    have hbw : w.heap.size < wr.heap.size := HB.out.lt
    have s0 := HB.out.cell 0
    have s1 := HB.out.cell 1
    have s2 := HB.out.cell 2
    have s3 := HB.out.cell 3
    have s4 := HB.out.cell 4
    have s5 := HB.out.cell 5
    simp at s0 s1 s2 s3 s4 s5
    have kA : Kept Nil wr (wr.alloc (.cells #[.int .i64 fi, .int .i64 x, .int .i64 y, .int .i64 z] 62)) := (Kept.refl Nil wr).alloc _
    have bA : Blk (wr.alloc (.cells #[.int .i64 fi, .int .i64 x, .int .i64 y, .int .i64 z] 62)) wr.heap.size 62 #[.int .i64 fi, .int .i64 x, .int .i64 y, .int .i64 z] := Blk.new wr _ _
    have CX := Lib.hid (CM.out _ (x, y, z) (HK1.out.trans kA (fun _ _ g => g)))
    have KA := Lib.hid kA
    have BA := Lib.hid bA
    clear hx kA bA
    generalize hq : mh (x, y, z) = q at CX HTj
    go_wp2_with fail
    refine CX.out.mono ?_
    rintro e w2 ⟨rfl, k2⟩
    have KW := Lib.hid (KA.out.trans k2 (fun _ _ g => g))
    have B2 := Lib.hid (BA.out.kept k2 (fun e => e))
    have HB2 := Lib.hid (HB.out.kept KW.out (fun e => e))
    have HR2 := Lib.hid (HR.out.keptN KW.out)
    have HK2 := Lib.hid (HK.out.trans KW.out (fun _ _ g => g))
    clear k2 s0 s1 s2 s3 s4 s5 p0 p1 p2 p3 CX
    cases q
    · go_wp2_with fail
      go_roundw
      case rel => exact ⟨j + 1, m, ia, ic, by omega, by go_num, rfl, by rw [HTj.out]; simpa using HM.out, by rw [HTj.out]; simpa using HR2.out, HB2.out, HK2.out⟩
      case measure => simp [intOf]; omega
    · have c0 := B2.out.cell 0
      have hb2 := B2.out.lt
      simp at c0
      have kB : Kept Nil w2 (w2.alloc (.cells #[.int .i64 fi] 3)) := (Kept.refl Nil w2).alloc _
      obtain ⟨a3, c3, w3, r3, o3, k3, _⟩ := (HR2.out.keptN kB).pushLit elsI1 cN_len cN_one 49 (by rw [HM.out]; omega) (by have := HB2.out.lt; have := kB.size; omega) (x := fi) (Blk.new w2 _ _) rfl
      rw [HM.out] at r3 o3
      have R3 := Lib.hid r3
      have kk3 : Kept Nil (w.alloc (.cells (arrS ⟨k, k0, k1, k2, ts⟩ (.slice ta tn tc) (.slice ua un uc)) 59)) w3 := (HK2.out.trans kB (fun _ _ g => g)).trans k3 (fun i hi e => by simp at hi; omega)
      have H3 := Lib.hid (And.intro o3 (And.intro ((HB2.out.kept kB (fun e => e)).kept k3 (fun e => by omega)) kk3))
      clear kB r3 o3 k3 kk3
      go_wp2_with (at_builtin; refine wpList_append_run rfl (.tmp 21) (.tmp 24) 49 rfl _ _ rfl rfl R3.out ?_)
      go_roundw
      case rel => exact ⟨j + 1, m + 1, a3, c3, by omega, by go_num, rfl, by rw [HTj.out]; simp [HM.out], by rw [HTj.out]; simpa using H3.out.1, H3.out.2.1, H3.out.2.2⟩
      case measure => simp [intOf]; omega
/-! ### The facts of a match -/
theorem ev_mem {fs : List F4} : ∀ (l : List St) (n : Nat) (ch : List F4) (e : Ev), e ∈ evL fs l n ch → ∀ f ∈ e.2, f ∈ fs ∨ f ∈ ch
  | [], n, ch, e, h => fun f hf => by rw [evL_nil] at h; rw [List.mem_singleton.1 h] at hf; exact .inr hf
  | s :: r, n, ch, e, h => fun f hf => by
    rw [evL_cons] at h
    rcases List.mem_cons.1 h with rfl | h
    · exact .inr hf
    · unfold nxt at h
      split at h
      · obtain ⟨g, hg, h⟩ := List.mem_flatMap.1 h
        split at h
        · rcases ev_mem r (n + 1) (ch ++ [g]) e h f hf with h1 | h1
          · exact .inl h1
          · rcases List.mem_append.1 h1 with h1 | h1
            · exact .inr h1
            · rw [List.mem_singleton.1 h1]; exact .inl (List.mem_of_mem_drop hg)
        · cases h
      · split at h
        · cases h
        · exact ev_mem r (n + 1) ch e h f hf
theorem filter_one : ∀ (fs : List F4) (f : F4), (fs.map Prod.fst).Nodup → f ∈ fs → fs.filter (fun x => x.1 == f.1) = [f]
  | [], f, _, h => by cases h
  | a :: r, f, hn, h => by
    rw [List.map_cons, List.nodup_cons] at hn
    rcases List.mem_cons.1 h with rfl | h
    · rw [List.filter_cons_of_pos (by simp)]
      congr 1
      rw [List.filter_eq_nil_iff]
      intro x hx he
      have : x.1 = f.1 := by simpa using he
      exact hn.1 (this ▸ List.mem_map_of_mem hx)
    · rw [List.filter_cons_of_neg]
      · exact filter_one r f hn.2 h
      · intro he
        have : a.1 = f.1 := by simpa using he
        exact hn.1 (this ▸ List.mem_map_of_mem h)
theorem backOf_ch {fs : List F4} (hn : (fs.map Prod.fst).Nodup) : ∀ (ch : List F4), (∀ f ∈ ch, f ∈ fs) → backOf fs (ch.map Prod.fst) = ch.map Prod.snd
  | [], _ => rfl
  | f :: r, h => by
    have ih := backOf_ch hn r fun g hg => h g (List.mem_cons_of_mem _ hg)
    unfold backOf at ih ⊢
    rw [List.map_cons, List.flatMap_cons, ih, filter_one fs f hn (h f List.mem_cons_self)]
    rfl
/-- How many pairs there are, of matches with their facts. -/
def blkE (fs : List F4) (h : SH) (D : List (List F4)) : Nat := (D.map fun ch => fs.countP fun f => meetH h (ch.map Prod.snd) f.2).sum
theorem blkE_snoc (fs : List F4) (h : SH) (D : List (List F4)) (ch : List F4) : blkE fs h (D ++ [ch]) = blkE fs h D + fs.countP fun f => meetH h (ch.map Prod.snd) f.2 := by
  unfold blkE
  rw [List.map_append, List.sum_append]
  simp
theorem blkE_le (fs : List F4) (h : SH) : ∀ D : List (List F4), blkE fs h D ≤ D.length * fs.length
  | [] => Nat.zero_le _
  | x :: r => by
    have := blkE_le fs h r
    unfold blkE at this ⊢
    rw [List.map_cons, List.sum_cons, List.length_cons, Nat.add_mul, Nat.one_mul]
    have h2 : fs.countP (fun f => meetH h (x.map Prod.snd) f.2) ≤ fs.length := List.countP_le_length
    omega
theorem blkE_N {fs : List F4} {l : List St} (hg : ∀ x ∈ l, kindS x) (hn : (fs.map Prod.fst).Nodup) (h : SH) : blkE fs h (matchE fs l) = blkN fs h (smL fs l []) := by
  unfold blkN
  rw [← matchE_sm hg, List.map_map]
  unfold blkE
  congr 1
  refine List.map_congr_left fun ch hch => ?_
  show _ = fs.countP fun f => meetH h (backOf fs (ch.map Prod.fst)) f.2
  rw [backOf_ch hn]
  intro f hf
  obtain ⟨e, he, rfl⟩ := List.mem_map.1 hch
  rcases ev_mem l 0 [] e (List.mem_filter.1 he).1 f hf with h1 | h1
  · exact h1
  · cases h1
/-- A call of a Go function, one of whatever comes up. -/
theorem call_wp {P : Program} {o : Oper} (d : Option Tmp) (hd : o.dst = d) (f : FuncId) (xs : Array Operand) (ats : Array TypeId) (ho : o.op = .call { callee := .value (.func f), args := xs, argTypes := ats }) (he : ∀ args w, (callFunc f args).run P w = .ok (.enter f args) w) {a : Act} {w : World} {K : Act → World → Prop} {Q : Exit → Act → World → Prop} (vals : Array Value) (hv : xs.map a.eval = vals) {R : Ending → World → Prop} (hc : Calls P f vals w R) (hk : ∀ e w', R e w' → ∃ v, e = .returned v ∧ K (a.put d v) w') : o.wp P a w K Q := by
  subst hd hv
  have e1 : execOp a.eval o = callFunc f (#[] ++ xs.map a.eval ++ #[]) := by
    obtain ⟨d, op, ty, pos, after, guard⟩ := o
    simp only at ho
    subst ho
    rfl
  have e2 : (#[] ++ xs.map a.eval ++ #[] : Array Value) = xs.map a.eval := by simp
  unfold Oper.wp
  rw [e1, e2, he]
  exact hc.mono fun e w' hR => by
    obtain ⟨v, rfl, hK⟩ := hk e w' hR
    exact hK
/-! ### The closure -/
/-- What the closure of Blockers keeps: its number; it reads the step and the facts. -/
structure BlI (fs : List F4) (h : SH) (tv uv fv : Value) (qn qs qf : Nat) (D : List (List F4)) (F : Nat → Prop) (w : World) : Prop where
  bn : Blk w qn 3 #[.int .i64 (blkE fs h D : Nat)]
  bs : Blk w qs 59 (arrS h tv uv)
  bf : Blk w qf 28 #[fv]
  f : ∀ b, F b ↔ b = qn
  n1 : qs ≠ qn
  n2 : qf ≠ qn
/-- What the closure's region reads. -/
abbrev SB (W0 : World) (qn qs qf qm y : Nat) (k k0 k1 k2 : Int) (tv uv fv bv : Value) (w : World) : Prop :=
  w.cell? ⟨qn, 0, none⟩ = some (.int .i64 (y : Int)) ∧   w.cell? ⟨qs, 0, none⟩ = some (.int .i64 k) ∧ w.cell? ⟨qs, 1, none⟩ = some (.int .i64 k0) ∧ w.cell? ⟨qs, 2, none⟩ = some (.int .i64 k1) ∧ w.cell? ⟨qs, 3, none⟩ = some (.int .i64 k2) ∧ w.cell? ⟨qs, 4, none⟩ = some tv ∧ w.cell? ⟨qs, 5, none⟩ = some uv ∧ w.cell? ⟨qf, 0, none⟩ = some fv ∧ w.cell? ⟨qm, 2, none⟩ = some bv ∧ Kept Nil W0 w
theorem sb_kept {W0 w w' : World} {qn qs qf qm y : Nat} {k k0 k1 k2 : Int} {tv uv fv bv : Value} (kk : Kept Nil w w') (h : SB W0 qn qs qf qm y k k0 k1 k2 tv uv fv bv w) : SB W0 qn qs qf qm y k k0 k1 k2 tv uv fv bv w' := by
  obtain ⟨h8, h0, h1, h2, h3, h4, h5, h6, h7, hk⟩ := h
  exact ⟨kk.cellOf h8, kk.cellOf h0, kk.cellOf h1, kk.cellOf h2, kk.cellOf h3, kk.cellOf h4, kk.cellOf h5, kk.cellOf h6, kk.cellOf h7, hk.trans kk (fun _ _ g => g)⟩
set_option maxHeartbeats 8000000 in
theorem blkClo_any {W0 : World} {fs : List F4} {h : SH} (hts : ∀ x ∈ h.ts, tFine x ∧ -1 ≤ x.2.1) (hl : h.ts.length ≤ 5000) {ta : Option Addr} {tn tc : Nat} (htn : h.ts.length = tn) {ua : Option Addr} {un uc : Nat} {fa : Option Addr} {fn fc : Nat} (hfn : fn ≤ 100) (hF : In cF 4 W0 fa fn fs) (ht : TsAt W0 Any2 (.slice ta tn tc) h.ts) {qn qs qf : Nat} {D : List (List F4)} {F : Nat → Prop} (w : World) (hI : BlI fs h (.slice ta tn tc) (.slice ua un uc) (.slice fa fn fc) qn qs qf D F w) (hD : D.length ≤ 5000) (k0 : Kept Nil W0 w) (ch : List F4) (s : Int) (iv : Value) (ba : Option Addr) (nb bc : Nat) (hnb : nb ≤ maxLen) (hb : In cT3 3 w ba nb (ch.map Prod.snd)) :
    Calls Try.prog 40 #[.agg #[.int .i64 s, iv, .slice ba nb bc], .pointer (some ⟨qn, 0, none⟩), .pointer (some ⟨qs, 0, none⟩), .pointer (some ⟨qf, 0, none⟩)] w fun o w' => ∃ F', o = .returned (.tuple #[]) ∧ BlI fs h (.slice ta tn tc) (.slice ua un uc) (.slice fa fn fc) qn qs qf (D ++ [ch]) F' w' ∧ (∀ b, F' b → F b ∨ w.heap.size ≤ b) ∧ Kept F w w' := by
  have HI := Lib.hid hI
  have CW := Lib.hid (fun W (kW : Kept Nil w W) => which_any h (ch.map Prod.snd) hts hl ba nb bc hnb ta tn tc htn ua un uc W (hb.kept kW) (ht.keptN (k0.trans kW (fun _ _ g => g))) fs fa fn fc hfn (hF.kept (k0.trans kW (fun _ _ g => g))))
  have HSn := Lib.hid (blkE_snoc fs h D ch)
  have hle := blkE_le fs h D
  have hle2 : fs.countP (fun f => meetH h (ch.map Prod.snd) f.2) ≤ 100 := Nat.le_trans List.countP_le_length (by rw [hF.1]; exact hfn)
  have hm5 : D.length * fs.length ≤ 5000 * 100 := Nat.mul_le_mul hD (by rw [hF.1]; exact hfn)
  obtain ⟨x, hx⟩ : ∃ x, fs.countP (fun f => meetH h (ch.map Prod.snd) f.2) = x := ⟨_, rfl⟩
  obtain ⟨y, hy⟩ : ∃ y, blkE fs h D = y := ⟨_, rfl⟩
  have bn0 := hI.bn
  rw [hx] at CW hle2
  rw [hy, hx] at HSn
  rw [hy] at hle bn0
  have kA : Kept Nil w (w.alloc (.cells #[.int .i64 s, iv, .slice ba nb bc] 85)) := (Kept.refl Nil w).alloc _
  have bA : Blk (w.alloc (.cells #[.int .i64 s, iv, .slice ba nb bc] 85)) w.heap.size 85 #[.int .i64 s, iv, .slice ba nb bc] := Blk.new w _ _
  have hqm : w.heap.size ≠ qn := fun e => by have := bn0.lt; omega
  go_enter Try.func40, Try.ntmps40
  go_upto_region 1 with fail
  generalize (w.alloc (.cells #[.int .i64 s, iv, .slice ba nb bc] 85)) = W at *
  have BN := Lib.hid ((bn0.kept kA (fun e => e)).drew)
  have x0 := (bn0.kept kA (fun e => e)).cell 0
  have hqW := (bn0.kept kA (fun e => e)).lt
  have xf := (bn0.kept kA (fun e => e)).frozen 0
  simp at x0
  obtain ⟨k, k0', k1, k2, ts⟩ := h
  have S0 : Hid (SB W0 qn qs qf w.heap.size y k k0' k1 k2 (.slice ta tn tc) (.slice ua un uc) (.slice fa fn fc) (.slice ba nb bc) W.drew) := Lib.hid ⟨x0, (hI.bs.kept kA (fun e => e)).cell 0, (hI.bs.kept kA (fun e => e)).cell 1, (hI.bs.kept kA (fun e => e)).cell 2, (hI.bs.kept kA (fun e => e)).cell 3, (hI.bs.kept kA (fun e => e)).cell 4, (hI.bs.kept kA (fun e => e)).cell 5, (hI.bf.kept kA (fun e => e)).cell 0, bA.cell 2, (k0.trans kA (fun _ _ g => g)).drew⟩
  have KA := Lib.hid kA.drew
  have hn1 := hI.n1
  have hn2 := hI.n2
  have hww := bA.lt
  obtain ⟨qm, hqme⟩ : ∃ qm, w.heap.size = qm := ⟨_, rfl⟩
  have HQm := Lib.hid hqme
  rw [hqme] at S0 hqm hww ⊢
  have hyb : y ≤ 500000 := by omega
  clear hI kA bA hts hl htn hF ht hb k0 hle bn0 hm5 hx hy hqme
  have hwx : IntKind.i64.wrap ((y : Int) + (x : Int)) = ((y + x : Nat) : Int) := by rw [IntKind.wrap_i64]; omega
  refine wp_region_lastL (SB W0 qn qs qf qm y k k0' k1 k2 (.slice ta tn tc) (.slice ua un uc) (.slice fa fn fc) (.slice ba nb bc)) (by simp) (by kernel_rfl) (by kernel_rfl) ?_
  simp only [List.dropLast, List.getLast]
  refine takeH (i := 0) (some 5) (.int .i64 (y : Int)) rfl rfl (by kernel_rfl) (by kernel_rfl) (by kernel_rfl) (fun _ _ _ h => h) (by rfl) S0.out ?_ ?_
  · intro w hSw
    go_simp
  simp only [Act.put, List.setIfInBounds_toArray, List.set_cons_succ, List.set_cons_zero]
  refine takeH (i := 1) (some 6) (.agg #[.int .i64 k, .int .i64 k0', .int .i64 k1, .int .i64 k2, .slice ta tn tc, .slice ua un uc]) rfl rfl (by kernel_rfl) (by kernel_rfl) (by kernel_rfl) (fun _ _ _ h => h) (by rfl) S0.out ?_ ?_
  · intro w hSw
    go_simp
  simp only [Act.put, List.setIfInBounds_toArray, List.set_cons_succ, List.set_cons_zero]
  refine takeH (i := 2) (some 7) (.pointer (some ⟨qm, 2, none⟩)) rfl rfl (by kernel_rfl) (by kernel_rfl) (by kernel_rfl) (fun _ _ _ h => h) (by rfl) S0.out ?_ ?_
  · intro w hSw
    go_simp
  simp only [Act.put, List.setIfInBounds_toArray, List.set_cons_succ, List.set_cons_zero]
  refine takeH (i := 3) (some 8) (.slice ba nb bc) rfl rfl (by kernel_rfl) (by kernel_rfl) (by kernel_rfl) (fun _ _ _ h => h) (by rfl) S0.out ?_ ?_
  · intro w hSw
    go_simp
  simp only [Act.put, List.setIfInBounds_toArray, List.set_cons_succ, List.set_cons_zero]
  refine takeH (i := 4) (some 9) (.slice fa fn fc) rfl rfl (by kernel_rfl) (by kernel_rfl) (by kernel_rfl) (fun _ _ _ h => h) (by rfl) S0.out ?_ ?_
  · intro w hSw
    go_simp
  simp only [Act.put, List.setIfInBounds_toArray, List.set_cons_succ, List.set_cons_zero]
  refine wpAnyH_all (rs := [5]) (by kernel_rfl) (by decide) (forall_one ?_)
  refine wpOp_of rfl rfl (call_wp (some 10) rfl 41 #[.tmp 6, .tmp 8, .tmp 9] #[59, 25, 28] rfl (enter_of (by rfl) (by decide) (by kernel_rfl)) #[.agg #[.int .i64 k, .int .i64 k0', .int .i64 k1, .int .i64 k2, .slice ta tn tc, .slice ua un uc], .slice ba nb bc, .slice fa fn fc] (by simp [Act.eval]) (CW.out _ KA.out) ?_)
  rintro e w9 ⟨ra, rc, rfl, k9⟩
  have B9 := Lib.hid (BN.out.kept k9 (fun e => e))
  have S9 := Lib.hid (sb_kept k9 S0.out)
  have K9 := Lib.hid (KA.out.trans k9 (fun _ _ g => g))
  have x9 := B9.out.cell 0
  have f9 := B9.out.frozen 0
  have q9 := B9.out.lt
  simp at x9
  clear k9
  refine ⟨_, rfl, S9.out, ?_⟩
  simp only [Act.put, List.setIfInBounds_toArray, List.set_cons_succ, List.set_cons_zero]
  refine takeH (i := 6) (some 11) (.int .i64 (x : Int)) rfl rfl (by kernel_rfl) (by kernel_rfl) (by kernel_rfl) (fun _ _ _ h => h) (by rfl) S9.out ?_ ?_
  · intro w hSw
    go_simp
  simp only [Act.put, List.setIfInBounds_toArray, List.set_cons_succ, List.set_cons_zero]
  refine takeH (i := 7) (some 12) (.int .i64 ((y + x : Nat) : Int)) rfl rfl (by kernel_rfl) (by kernel_rfl) (by kernel_rfl) (fun _ _ _ h => h) (by rfl) S9.out ?_ ?_
  · intro w hSw
    go_simp
  simp only [Act.put, List.setIfInBounds_toArray, List.set_cons_succ, List.set_cons_zero]
  refine wpAnyH_done (by kernel_rfl) ?_ _
  refine store_wp rfl rfl ?_
  go_wp2_with fail
  have kS : Kept (fun b => b = qn) w (w9.setCell ⟨qn, 0, none⟩ (.int .i64 ((y + x : Nat) : Int))) := (K9.out.mono (G := fun b => b = qn) (fun _ _ e => e.elim)).setCell ⟨qn, 0, none⟩ (.inl rfl) _
  refine ⟨rfl, .tuple #[], by simp [results, Try.results40, go_sem], F, rfl, ⟨?_, HI.out.bs.kept kS HI.out.n1, HI.out.bf.kept kS HI.out.n2, HI.out.f, HI.out.n1, HI.out.n2⟩, fun b hb => .inl hb, kS.mono (fun i _ e => (HI.out.f i).2 e)⟩
  rw [HSn.out]
  exact B9.out.set_ 0 _
def BlockersOK : Prop := ∀ (fs : List F4), (fs.map Prod.fst).Nodup → fs.length ≤ 12 → ∀ (l : List St) (s : St), (∀ x ∈ l, x.okS) → s.goodS → l.length ≤ 16 → (fs.length + 1) ^ posSL l ≤ 3000 → ∀ (fa : Option Addr) (fn fc : Nat) (a : Option Addr) (cap : Nat) (ta : Option Addr) (tc : Nat) (ua : Option Addr) (un uc : Nat) (w : World), In cF 4 w fa fn fs → SHolds w Any2 (.slice a l.length cap) l → TsAt w Any2 (.slice ta s.hd.ts.length tc) s.hd.ts →
  Calls Try.prog 22 #[.slice fa fn fc, .slice a l.length cap, vS s.hd (.slice ta s.hd.ts.length tc) (.slice ua un uc)] w fun e w' => e = .returned (.int .i64 (blkN fs s.hd (smL fs l []) : Nat)) ∧ Kept Nil w w'
set_option maxHeartbeats 4000000 in
theorem blockersOK : BlockersOK := by
  intro fs hnd h12 l s hok hs hl16 hcost fa fn fc a cap ta tc ua un uc w hF hH ht
  obtain ⟨len, hl⟩ : ∃ len, l.length = len := ⟨_, rfl⟩
  rw [hl] at hH ⊢
  have hg : ∀ x ∈ l, x.goodS := fun x hx => (hok x hx).1
  have hkd : ∀ x ∈ l, kindS x := fun x hx => (hg x hx).kind
  have hfn : fn ≤ 12 := by rw [← hF.1]; exact h12
  obtain ⟨h, sb⟩ := s
  obtain ⟨_, hts, htl, _⟩ := goodS_mk.1 hs
  replace ht : TsAt w Any2 (.slice ta h.ts.length tc) h.ts := ht
  show Calls Try.prog 22 #[.slice fa fn fc, .slice a len cap, vS h (.slice ta h.ts.length tc) (.slice ua un uc)] w _
  show Calls _ _ _ _ fun e w' => e = .returned (.int .i64 (blkN fs h (smL fs l []) : Nat)) ∧ Kept Nil w w'
  obtain ⟨tn, htn⟩ : ∃ tn, h.ts.length = tn := ⟨_, rfl⟩
  rw [htn] at ht ⊢
  have hsm := matchE_sm (fs := fs) hkd
  have hMl : (matchE fs l).length ≤ 3000 := by
    have h1 := (sm_len fs).2 l []
    rw [← hsm, List.length_map] at h1
    exact Nat.le_trans h1 hcost
  have hcn : cntL l ≤ 1000 := by have := cntL_okS hok; omega
  have kB : Kept Nil w ((w.alloc (.cells #[.slice fa fn fc] 28)).alloc (.cells (arrS h (.slice ta tn tc) (.slice ua un uc)) 59)) := ((Kept.refl Nil w).alloc _).alloc _
  have bF : Blk ((w.alloc (.cells #[.slice fa fn fc] 28)).alloc (.cells (arrS h (.slice ta tn tc) (.slice ua un uc)) 59)) w.heap.size 28 #[.slice fa fn fc] := (Blk.new w _ _).alloc _
  have bS : Blk ((w.alloc (.cells #[.slice fa fn fc] 28)).alloc (.cells (arrS h (.slice ta tn tc) (.slice ua un uc)) 59)) (w.heap.size + 1) 59 (arrS h (.slice ta tn tc) (.slice ua un uc)) := blk_at (by simp)
  have CRt := Lib.hid (rightP_any l hok a len cap hl (by omega) _ (hH.keptN kB))
  have CM : Hid (∀ w1, Kept Nil ((w.alloc (.cells #[.slice fa fn fc] 28)).alloc (.cells (arrS h (.slice ta tn tc) (.slice ua un uc)) 59)) w1 → Calls Try.prog 32 #[.slice fa fn fc, .slice a len cap, .func (.func 40) #[] #[.pointer (some ⟨w1.heap.size, 0, none⟩), .pointer (some ⟨w.heap.size + 1, 0, none⟩), .pointer (some ⟨w.heap.size, 0, none⟩)]] (w1.alloc (.cells #[.int .i64 0] 3)) fun e w' => e = .returned (.tuple #[]) ∧ ∃ F', BlI fs h (.slice ta tn tc) (.slice ua un uc) (.slice fa fn fc) w1.heap.size (w.heap.size + 1) w.heap.size (matchE fs l) F' w' ∧ (∀ b, F' b → b = w1.heap.size ∨ (w1.alloc (.cells #[.int .i64 0] 3)).heap.size ≤ b) ∧ Kept (fun b => b = w1.heap.size) (w1.alloc (.cells #[.int .i64 0] 3)) w') := Lib.hid fun w1 k1 => by
    have kA : Kept Nil w1 (w1.alloc (.cells #[.int .i64 0] 3)) := (Kept.refl Nil w1).alloc _
    have hsz : (w1.alloc (.cells #[.int .i64 0] 3)).heap.size = w1.heap.size + 1 := by simp
    have hw1 : w.heap.size + 2 ≤ w1.heap.size := by have := k1.size; simp at this; omega
    refine match_any (W0 := w) (fs := fs) (l := l) (I := BlI fs h (.slice ta tn tc) (.slice ua un uc) (.slice fa fn fc) w1.heap.size (w.heap.size + 1) w.heap.size) (F0 := fun b => b = w1.heap.size) _ ((kB.trans k1 (fun _ _ e => e)).trans kA (fun _ _ e => e)) hl hg hF hH (by omega) hcn
      ⟨enter_of (by rfl) (by decide) (by kernel_rfl), fun D F v hI b hb => ⟨by rw [(hI.f b).1 hb]; omega, by rw [(hI.f b).1 hb]; exact hI.bn.lt⟩, fun D F v v' G hI kG hG => ⟨hI.bn.kept kG (fun e => (hG _ e).2 ((hI.f _).2 rfl)), hI.bs.kept kG (fun e => by have := (hG _ e).1; rw [hsz] at this; omega), hI.bf.kept kG (fun e => by have := (hG _ e).1; rw [hsz] at this; omega), hI.f, hI.n1, hI.n2⟩, fun D ch F v s ia ni ic ba nb bc hI hE kv hBv hi hb => ?_⟩
      ⟨by have := Blk.new w1 3 #[.int .i64 0]; exact this, (bS.kept k1 (fun e => e)).kept kA (fun e => e), (bF.kept k1 (fun e => e)).kept kA (fun e => e), fun _ => Iff.rfl, by omega, by omega⟩
    obtain ⟨r, hr⟩ := hE
    have hD : D.length ≤ 5000 := by
      have := congrArg List.length hr
      rw [List.length_append] at this
      omega
    have hch : ch.length ≤ 5000 := by
      have h1 := (sm_ids fs).2 l [] (ch.map Prod.fst) (by rw [← hsm]; exact List.mem_map_of_mem (by rw [hr]; simp))
      rw [List.length_map] at h1
      simp at h1
      omega
    have := blkClo_any (W0 := w) (fs := fs) hts (by omega) htn (by omega) hF ht v hI hD kv ch s (.slice ia ni ic) ba nb bc (by rw [← hb.1, List.length_map]; unfold maxLen; omega) hb
    exact this
  have HV := Lib.hid (blkE_N hkd hnd h)
  have KB := Lib.hid kB
  have BFh := Lib.hid bF
  obtain ⟨k, k0, k1, k2, ts⟩ := h
  simp only [arrS] at CM CRt KB BFh
  clear hF hH ht hok hg hkd hMl hsm hcost hts htl hs kB bF bS hnd h12
  show Calls Try.prog 22 #[.slice fa fn fc, .slice a len cap, .agg #[.int .i64 k, .int .i64 k0, .int .i64 k1, .int .i64 k2, .slice ta tn tc, .slice ua un uc]] w _
  go_enter Try.func22, Try.ntmps22
  go_wp2_with fail
  refine CRt.out.mono ?_
  rintro e w1 ⟨rfl, k1'⟩
  have K1 := Lib.hid k1'
  have CM1 := Lib.hid (CM.out w1 k1')
  have f0 := (BFh.out.kept k1' (fun e => e)).cell 0
  have hfw := (BFh.out.kept k1' (fun e => e)).lt
  simp at f0
  clear k1' CM CRt
  go_wp2_with fail
  refine CM1.out.mono ?_
  rintro e w2 ⟨rfl, F', hP, hF', k2'⟩
  have c0 := hP.bn.cell 0
  have hbw := hP.bn.lt
  rw [HV.out] at c0
  simp at c0
  have H2 := Lib.hid k2'
  clear hP hF' k2' CM1
  go_wp2_with fail
  go_ret
  refine ⟨rfl, ((KB.out.trans K1.out (fun _ _ e => e)).trans ((Kept.refl Nil w1).alloc _) (fun _ _ e => e)).trans H2.out (fun i hi e => ?_)⟩
  have := K1.out.size
  simp at this
  omega
end Go.Proofs.Ytmpoeibkndcnnaa
