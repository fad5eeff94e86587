/- Layer plain: the program's goOn. – Layer plain: the program's eachBeginning, whatever is handed on to. – Layer plain: the program's goesOn. – Layer plain: the program's eachMatch, whatever is handed on to. – Layer plain: the program's right (may the steps of a chain be gone through), of such as may. -/
import Derived.Test.YtiihjlafhiaigaaA13
import Derived.Test.YtiihjlafhiaigaaA4
import Derived.Test.YtiihjlafhiaigaaA12
namespace Go.Proofs.Ytiihjlafhiaigaa
section
open Go.RowKit
set_option maxRecDepth 100000

theorem BackV.adr {W0 w : World} {B : Nat} {a : Option Addr} {n c : Nat} {l : List T3} (h : BackV W0 w B (.slice a n c) l) (k : Kept Nil W0 w) : Adr w a := by
  rcases h with ⟨a', e, _, ⟨b, o, rfl, hb⟩ | rfl⟩ | h
  · cases e; exact .inl ⟨b, o, rfl, Nat.lt_of_lt_of_le hb k.size⟩
  · cases e; exact .inr rfl
  · rcases h.2 with ⟨e1, _⟩ | ⟨g, cap, cur, e1, _⟩
    · cases e1; exact .inr rfl
    · cases e1; exact .inl ⟨g, 0, rfl, (h.lt g rfl).2⟩
theorem BackV.caps {W0 w : World} {B : Nat} {a : Option Addr} {n c : Nat} {l : List T3} (h : BackV W0 w B (.slice a n c) l) (hl : l.length ≤ 5000) : n ≤ c ∧ c ≤ maxLen := by
  rcases h with ⟨a', e, _⟩ | h
  · cases e; exact ⟨Nat.le_refl _, by unfold maxLen; omega⟩
  · exact h.caps.2
/-- What goOn leaves. -/
def GoOnEnd (W0 : World) (B p : Nat) (fv cv : Value) (b0 : List F4) (G : Nat → Prop) (fs : List F4) (l : List St) (n : Nat) (k : Stk) (u : Nat) (w : World) (e : Ending) (w' : World) : Prop :=
  (∃ n' k', e = .returned (.bool true) ∧ Kept G w w' ∧ (∃ iv' bv' hv', Wk W0 B p fv cv b0 w' (Gr G w w') n' k' 0 iv' bv' hv') ∧ WfS fs l n' k' ∧ n' ≤ l.length ∧ kidsAt fs l n (chOf b0 k) u ++ todo fs l b0 k = evL fs (l.drop n') n' (chOf b0 k') ++ todo fs l b0 k') ∨
  (e = .returned (.bool false) ∧ Kept Nil w w' ∧ kidsAt fs l n (chOf b0 k) u = [])
set_option maxHeartbeats 8000000 in
theorem goOn_any {W0 : World} {B p : Nat} {b0 : List F4} {G : Nat → Prop} {n u : Nat} {iv bv hv : Value} {fa : Option Addr} {fn fc : Nat} {a : Option Addr} {len cap : Nat} (fs : List F4) (l : List St) (hl : l.length = len) (hg : ∀ x ∈ l, x.goodS) (GO : ∀ x ∈ l, x.hd.k = 3 → GoesOK fs x.subs) (k : Stk) (w : World) (h : Wk W0 B p (.slice fa fn fc) (.slice a len cap) b0 w G n k u iv bv hv) (hF : In cF 4 W0 fa fn fs) (hH : SHolds W0 Any2 (.slice a len cap) l) (hfn : fn ≤ 1000) (hu : u ≤ fn) (hcnt : b0.length + cntL l ≤ 1000) (hwf : WfS fs l n k) (hnl : n ≤ len)
    (hu0 : ∀ s, l[n]? = some s → s.hd.k ≠ 1 → u = 0) :
    Calls Try.prog 61 #[.pointer (some ⟨p, 0, none⟩)] w (GoOnEnd W0 B p (.slice fa fn fc) (.slice a len cap) b0 G fs l n k u w) := by
  have HW := Lib.hid h
  have hlc := length_cntL l
  have y1 := h.blk.cell 1
  have y2 := h.blk.cell 2
  have hp := h.blk.lt
  simp at y1 y2
  by_cases hend : n = len
  · subst hend
    clear h
    go_enter Try.func61, Try.ntmps61
    go_wp2_with fail
    go_region
    all_goals
      go_wp2_with fail
      go_ret
      exact .inr ⟨rfl, (Kept.refl Nil w).drew, kids_none (by omega)⟩
  have hlt : n < len := by omega
  obtain ⟨⟨⟨sk, sk0, sk1, sk2, sts⟩, sb⟩, hx⟩ : ∃ x, l[n]? = some x := ⟨_, List.getElem?_eq_getElem (by omega)⟩
  obtain ⟨b, o, ta, tc, ua, uc, rfl, _, hr, ht, hs⟩ := hH.at_ hx
  have hgs := hg _ (List.mem_of_getElem? hx)
  have hGO := GO _ (List.mem_of_getElem? hx)
  have hkl := hwf.len
  have hsub : n + cntL sb + 1 ≤ cntL l := by
    have h1 := cntL_take_succ hx
    have h2 := cntL_take_le l (n + 1)
    have h3 := length_cntL (l.take n)
    rw [List.length_take, Nat.min_eq_left (by omega)] at h3
    rw [St.cnt] at h1
    omega
  obtain ⟨tn, htn⟩ : ∃ tn, sts.length = tn := ⟨_, rfl⟩
  obtain ⟨un, hun⟩ : ∃ un, sb.length = un := ⟨_, rfl⟩
  simp only at hr ht hs
  rw [htn, hun] at hr
  rw [htn] at ht
  rw [hun] at hs
  have hrw := rangeAt_kept h.k0 (fun e => e) hr
  have c0 := hrw 0 _ rfl
  have c1 := hrw 1 _ rfl
  have c2 := hrw 2 _ rfl
  have c3 := hrw 3 _ rfl
  have c4 := hrw 4 _ rfl
  have c5 := hrw 5 _ rfl
  have hbw : b < w.heap.size := World.block_lt_of_cell? w _ c0
  simp only [Nat.add_zero] at c0 c1 c2 c3 c4 c5
  have HX := Lib.hid hx
  have HT := Lib.hid ht
  have HS := Lib.hid hs
  have HGs := Lib.hid hgs
  have HGO := Lib.hid hGO
  have HFi := Lib.hid hF
  have HWf := Lib.hid hwf
  have HKL := Lib.hid hkl
  have HSub := Lib.hid hsub
  have hne : decide ((n : Int) = (len : Int)) = false := by simp; omega
  clear h hr ht hs hx hgs hGO hF hH hrw hwf hkl hsub hg GO
  by_cases hk1 : sk = 1
  · subst hk1
    have HKd := Lib.hid (kids_some (fs := fs) (ch := chOf b0 k) (u := u) HX.out)
    go_enter Try.func61, Try.ntmps61
    go_wp2_with fail
    go_region
    go_wp2_with fail
    go_region
    have kV : Kept Nil w (w.alloc (.cells #[.int .i64 1, .int .i64 sk0, .int .i64 sk1, .int .i64 sk2, .slice ta tn tc, .slice ua un uc] 59)).drew.drew := ((Kept.refl Nil w).alloc _).drew.drew
    have bV : Blk (w.alloc (.cells #[.int .i64 1, .int .i64 sk0, .int .i64 sk1, .int .i64 sk2, .slice ta tn tc, .slice ua un uc] 59)).drew.drew w.heap.size 59 #[.int .i64 1, .int .i64 sk0, .int .i64 sk1, .int .i64 sk2, .slice ta tn tc, .slice ua un uc] := (Blk.new w _ _).drew.drew
    generalize (w.alloc (.cells #[.int .i64 1, .int .i64 sk0, .int .i64 sk1, .int .i64 sk2, .slice ta tn tc, .slice ua un uc] 59)).drew.drew = V at *
    have KV := Lib.hid kV
    have WV := Lib.hid (HW.out.keptN kV)
    have BV := Lib.hid bV
    have CC := Lib.hid (choose_any (n := n) fs (.mk ⟨1, sk0, sk1, sk2, sts⟩ sb) rfl HGs.out k V WV.out HFi.out hfn hu (by have := HKL.out; omega) (by omega) (by omega) ta tn tc htn ua un uc HT.out)
    unfold ChooseEnd at CC
    have x0 := bV.cell 0
    have x1 := bV.cell 1
    have x2 := bV.cell 2
    have x3 := bV.cell 3
    have x4 := bV.cell 4
    have x5 := bV.cell 5
    have hbV := bV.lt
    simp at x0 x1 x2 x3 x4 x5
    clear kV bV c0 c1 c2 c3 c4 c5 y1 y2
    go_wp2_with fail
    refine CC.out.mono ?_
    rintro e w2 (⟨i, f, hf, hnx, rfl, k2, hWk⟩ | ⟨hnx, rfl, k2⟩)
    · have H2 := Lib.hid (And.intro hf (And.intro hnx (And.intro k2 hWk)))
      clear hf hnx k2 hWk CC
      go_wp2_with fail
      go_ret
      obtain ⟨hf, hnx, k2, iv', bv', hv', hWk⟩ := H2.out
      have kk : Kept G w w2 := (KV.out.mono (fun _ _ e => e.elim)).trans k2 (fun _ _ e => e)
      refine .inl ⟨n + 1, (n, i, f) :: k, rfl, kk, ⟨iv', bv', hv', hWk.more (fun x hx => ?_) (HW.out.gr kk.size)⟩, ⟨Nat.lt_succ_self n, ⟨_, HX.out, rfl⟩, hf, HWf.out⟩, by omega, ?_⟩
      · rcases hx with hx | hx
        · exact .inl hx
        · exact .inr ⟨Nat.le_trans KV.out.size hx.1, hx.2⟩
      · rw [HKd.out, hnx, todo, List.append_assoc]
        congr 1
        rw [kids_some HX.out]
    · have H2 := Lib.hid (And.intro hnx k2)
      clear hnx k2 CC
      go_wp2_with fail
      go_ret
      exact .inr ⟨rfl, KV.out.trans H2.out.2 (fun _ _ e => e), HKd.out.trans (H2.out.1 _)⟩
  · have hu00 : u = 0 := hu0 _ HX.out hk1
    subst hu00
    have HKd := Lib.hid ((kids_some (fs := fs) (ch := chOf b0 k) (u := 0) HX.out).trans (nxt_stop (by exact hk1)))
    have hb1 : (sk == 1) = false := by simpa using hk1
    obtain ⟨m, hm⟩ : ∃ m, k.length = m := ⟨_, rfl⟩
    obtain ⟨z, hz⟩ : ∃ z, b0.length + m = z := ⟨_, rfl⟩
    obtain ⟨ba, bc, e2⟩ := HW.out.back.shape
    rw [List.length_map, chOf_len, hm, hz] at e2
    subst e2
    go_enter Try.func61, Try.ntmps61
    go_wp2_with fail
    go_region
    go_wp2_with fail
    go_region
    have kV : Kept Nil w (w.alloc (.cells #[.int .i64 sk, .int .i64 sk0, .int .i64 sk1, .int .i64 sk2, .slice ta tn tc, .slice ua un uc] 59)).drew.drew := ((Kept.refl Nil w).alloc _).drew.drew
    have bV : Blk (w.alloc (.cells #[.int .i64 sk, .int .i64 sk0, .int .i64 sk1, .int .i64 sk2, .slice ta tn tc, .slice ua un uc] 59)).drew.drew w.heap.size 59 #[.int .i64 sk, .int .i64 sk0, .int .i64 sk1, .int .i64 sk2, .slice ta tn tc, .slice ua un uc] := (Blk.new w _ _).drew.drew
    generalize (w.alloc (.cells #[.int .i64 sk, .int .i64 sk0, .int .i64 sk1, .int .i64 sk2, .slice ta tn tc, .slice ua un uc] 59)).drew.drew = V at *
    have KV := Lib.hid kV
    have WV := Lib.hid (HW.out.keptN kV)
    have BV := Lib.hid bV
    have x0 := bV.cell 0
    have hbV := bV.lt
    simp at x0
    go_upto_region 6 with fail
    have r0 : ∀ n : CW (Kept Nil V), n.w.cell? ⟨w.heap.size, 0, none⟩ = some (.int .i64 sk) := fun n => (BV.out.kept n.of (fun e => e)).cell 0
    have r1 : ∀ n : CW (Kept Nil V), n.w.cell? ⟨w.heap.size, 1, none⟩ = some (.int .i64 sk0) := fun n => (BV.out.kept n.of (fun e => e)).cell 1
    have r2 : ∀ n : CW (Kept Nil V), n.w.cell? ⟨w.heap.size, 2, none⟩ = some (.int .i64 sk1) := fun n => (BV.out.kept n.of (fun e => e)).cell 2
    have r3 : ∀ n : CW (Kept Nil V), n.w.cell? ⟨w.heap.size, 3, none⟩ = some (.int .i64 sk2) := fun n => (BV.out.kept n.of (fun e => e)).cell 3
    have r4 : ∀ n : CW (Kept Nil V), n.w.cell? ⟨w.heap.size, 4, none⟩ = some (.slice ta tn tc) := fun n => (BV.out.kept n.of (fun e => e)).cell 4
    have r5 : ∀ n : CW (Kept Nil V), n.w.cell? ⟨w.heap.size, 5, none⟩ = some (.slice ua un uc) := fun n => (BV.out.kept n.of (fun e => e)).cell 5
    have h0 : ∀ n : CW (Kept Nil V), n.w.cell? ⟨p, 0, none⟩ = some (.slice fa fn fc) := fun n => (WV.out.keptN n.of).blk.cell 0
    have h4 : ∀ n : CW (Kept Nil V), n.w.cell? ⟨p, 4, none⟩ = some (.slice ba z bc) := fun n => (WV.out.keptN n.of).blk.cell 4
    have CSn : Hid (∀ n : CW (Kept Nil V), Calls Try.prog 74 #[.slice fa fn fc, .agg #[.int .i64 sk, .int .i64 sk0, .int .i64 sk1, .int .i64 sk2, .slice ta tn tc, .slice ua un uc], .slice ba z bc] n.w fun e w' => e = .returned (.bool (stopB fs (.mk ⟨sk, sk0, sk1, sk2, sts⟩ sb) (chOf b0 k))) ∧ Kept Nil n.w w') := Lib.hid (fun n : CW (Kept Nil V) => stops_any fs (by rw [HFi.out.1]; exact hfn) (.mk ⟨sk, sk0, sk1, sk2, sts⟩ sb) HGs.out hk1 HGO.out (chOf b0 k) fa fn fc ta tn tc ua un uc ba z bc n.w htn hun (HFi.out.kept (WV.out.keptN n.of).k0) (HT.out.keptN (WV.out.keptN n.of).k0) (HS.out.keptN (WV.out.keptN n.of).k0) ((WV.out.keptN n.of).back.toIn (WV.out.keptN n.of).k0) ((WV.out.keptN n.of).back.adr (WV.out.keptN n.of).k0) (WV.out.back.caps (by rw [List.length_map, chOf_len]; have := HKL.out; omega)) (by have := HSub.out; have := HKL.out; show z + cntL sb ≤ 1000; omega))
    generalize hq : stopB fs (.mk ⟨sk, sk0, sk1, sk2, sts⟩ sb) (chOf b0 k) = q at CSn HKd
    clear kV bV c0 c1 c2 c3 c4 c5 y1 y2 x0
    refine wp_region_in (Kept Nil V) (by kernel_rfl) (by kernel_rfl) ((Kept.refl _ _).drew) ?_
    have inst : Nonempty (CW (Kept Nil V)) := ⟨⟨V, Kept.refl _ _⟩⟩
    repeat (go_big_quiet_step ((go_at_call 74; with_reducible exact call_in (fun _ _ a b => a.trans b (fun _ _ g => g)) (CSn.out _))))
    refine wpQuiet_nil ?_
    rintro _ ⟨nn, rfl⟩
    have KX := Lib.hid (KV.out.trans nn.of (fun _ _ g => g))
    have WX := Lib.hid (WV.out.keptN nn.of)
    generalize nn.w = X at *
    clear r0 r1 r2 r3 r4 r5 h0 h4 CSn inst nn KV WV BV
    cases q
    · have y2 := WX.out.blk.cell 2
      have yf := WX.out.blk.frozen 2
      have hpX := WX.out.blk.lt
      simp at y2
      have s1 : IntKind.i64.wrap ((n : Int) + 1) = ((n + 1 : Nat) : Int) := by rw [IntKind.wrap_i64]; omega
      go_wp2_with fail
      go_ret
      have kS : Kept (fun b => b = p) X (X.setCell ⟨p, 2, none⟩ (.int .i64 ((n : Int) + 1))) := ((Kept.refl (fun b => b = p) X).setCell ⟨p, 2, none⟩ (.inl rfl) _)
      have bS : Blk (X.setCell ⟨p, 2, none⟩ (.int .i64 ((n : Int) + 1))) p 125 #[.slice fa fn fc, .slice (some ⟨b, o, none⟩) len cap, .int .i64 ((n : Int) + 1), iv, .slice ba z bc, hv, .int .i64 0] := (WX.out.blk.set_ 2 _)
      generalize (X.setCell ⟨p, 2, none⟩ (.int .i64 ((n : Int) + 1))) = U at *
      have kk : Kept G w U := (KX.out.mono (fun _ _ e => e.elim)).trans kS (fun i _ e => by subst e; exact HW.out.gp)
      have hbl := WX.out.blk
      refine .inl ⟨n + 1, k, rfl, kk, ⟨iv, .slice ba z bc, hv, bS, WX.out.ids.keptF kS ?_, WX.out.back.kept kS ?_, WX.out.chs.keptF kS ?_, .inl HW.out.gp, fun x hx => .inl (HW.out.gi x hx), fun x hx hB => .inl (HW.out.gb x hx hB), fun x hx => .inl (HW.out.gh x hx), HW.out.gr kk.size, HW.out.k0.trans kk (fun i hi e => absurd (HW.out.base i e).1 (by have := HW.out.hB; omega)), HW.out.hB, fun hk => (WX.out.bown hk).keptF kS ?_⟩, HWf.out.mono (Nat.le_succ n), by omega, ?_⟩
      · rintro x hx rfl; exact WX.out.ids.notBlk hbl neq_WI hx
      · rintro x hx hB rfl; exact WX.out.back.notBlk WX.out.hB hbl neq_WT ⟨hx, hB⟩
      · rintro x hx rfl; exact WX.out.chs.notBlk hbl neq_WH hx
      · rintro x hx rfl; exact (WX.out.bown hk).notBlk hbl neq_WT hx
      · have := HKd.out
        simp at this
        rw [this]
    · go_wp2_with fail
      go_ret
      exact .inr ⟨rfl, KX.out, by simpa using HKd.out⟩
end
section
open Go.RowKit
set_option maxRecDepth 100000

/-! ### The least number with a property, to count rounds by -/
theorem least_ex (P : Nat → Prop) : (∃ n, P n) → ∃ n, P n ∧ ∀ m, P m → n ≤ m := by
  rintro ⟨n, hn⟩
  induction n using Nat.strongRecOn with
  | _ n ih =>
    by_cases h : ∃ m, m < n ∧ P m
    · obtain ⟨m, hm, hp⟩ := h; exact ih m hm hp
    · exact ⟨n, hn, fun m hm => Nat.le_of_not_lt fun hlt => h ⟨m, hlt, hm⟩⟩
open Classical in
noncomputable def least (P : Nat → Prop) : Nat := if h : ∃ n, P n then Classical.choose (least_ex P h) else 0
theorem least_is {P : Nat → Prop} (h : ∃ n, P n) : P (least P) := by
  unfold least; rw [dif_pos h]; exact (Classical.choose_spec (least_ex P h)).1
theorem least_le {P : Nat → Prop} {m : Nat} (h : P m) : least P ≤ m := by
  unfold least; rw [dif_pos ⟨m, h⟩]; exact (Classical.choose_spec (least_ex P ⟨m, h⟩)).2 m h

/-- To what is handed on: what it keeps of what was handed on (I), which blocks it writes, and when it wants more. -/
structure HandOK (W0 : World) (B1 m0 : Nat) (E : List Ev) (hn : FuncId) (caps : Array Value) (more : Ev → Bool) (I : List Ev → (Nat → Prop) → World → Prop) : Prop where
  enter : ∀ args w, (callFunc hn args).run Try.prog w = .ok (.enter hn args) w
  lt : ∀ D F w, I D F w → ∀ b, F b → W0.heap.size ≤ b ∧ b < w.heap.size
  stable : ∀ D F w w' G, I D F w → Kept G w w' → (∀ b, G b → B1 ≤ b ∧ ¬ F b) → I D F w'
  call : ∀ D e F w ia ni ic ba nb bc, I D F w → (∃ r, E = D ++ e :: r) → (∀ x ∈ D, more x = true) → Kept Nil W0 w → B1 ≤ w.heap.size → Row cN 3 1 w B1 (.slice ia ni ic) ((e.2.drop m0).map Prod.fst) → In cT3 3 w ba nb (e.2.map Prod.snd) →
    Calls Try.prog hn (#[.agg #[.int .i64 (e.1 : Int), .slice ia ni ic, .slice ba nb bc]] ++ caps) w fun o w' => ∃ F', o = .returned (.bool (more e)) ∧ I (D ++ [e]) F' w' ∧ (∀ b, F' b → F b ∨ w.heap.size ≤ b) ∧ Kept F w w'
/-- The walk and the hand, side by side: what was handed on is D, what is left R. -/
structure Way (W0 w : World) (p : Nat) (fv cv : Value) (b0 : List F4) (fs : List F4) (l : List St) (I : List Ev → (Nat → Prop) → World → Prop) (F0 : Nat → Prop) (D : List Ev) (F G : Nat → Prop) (n : Nat) (k : Stk) (u : Nat) (iv bv hv : Value) (wr : World) : Prop where
  wk : Wk W0 w.heap.size p fv cv b0 wr G n k u iv bv hv
  wf : WfS fs l n k
  nl : n ≤ l.length
  un : u ≤ fs.length
  u0 : ∀ s, l[n]? = some s → s.hd.k ≠ 1 → u = 0
  i : I D F wr
  f0 : ∀ b, F b → F0 b ∨ w.heap.size ≤ b
  gf : ∀ b, G b → ¬ F b
  k : Kept F0 w wr
section
variable {W0 w wr w2 : World} {p m0 : Nat} {fv cv : Value} {b0 fs : List F4} {l : List St} {I : List Ev → (Nat → Prop) → World → Prop} {F0 F F' G : Nat → Prop} {D : List Ev} {n n' : Nat} {k k' : Stk} {u u' : Nat} {iv bv hv iv' bv' hv' : Value} {E : List Ev} {hn : FuncId} {caps : Array Value} {more : Ev → Bool}
theorem Way.hand (h : Way W0 w p fv cv b0 fs l I F0 D F G n k u iv bv hv wr) (HO : HandOK W0 w.heap.size m0 E hn caps more I) {D' : List Ev} (hI : I D' F' w2) (hF : ∀ b, F' b → F b ∨ wr.heap.size ≤ b) (kF : Kept F wr w2) : Way W0 w p fv cv b0 fs l I F0 D' F' G n k u iv bv hv w2 :=
  ⟨h.wk.kept kF (fun b hb => ⟨(HO.lt _ _ _ h.i b hb).1, fun hg => h.gf b hg hb⟩), h.wf, h.nl, h.un, h.u0, hI, fun b hb => by
      rcases hF b hb with e | e
      · exact h.f0 b e
      · exact .inr (Nat.le_trans h.k.size e),
    fun b hg hf => by
      rcases hF b hf with e | e
      · exact h.gf b hg e
      · have := (h.wk.base b hg).2
        omega,
    h.k.trans kF (fun b hb hf => by
      rcases h.f0 b hf with e | e
      · exact e
      · omega)⟩
theorem Way.on (h : Way W0 w p fv cv b0 fs l I F0 D F G n k u iv bv hv wr) (HO : HandOK W0 w.heap.size m0 E hn caps more I) (kG : Kept G wr w2) (hW : Wk W0 w.heap.size p fv cv b0 w2 (Gr G wr w2) n' k' u' iv' bv' hv') (hwf : WfS fs l n' k') (hnl : n' ≤ l.length) (hun : u' ≤ fs.length) (hu0 : ∀ s, l[n']? = some s → s.hd.k ≠ 1 → u' = 0) : Way W0 w p fv cv b0 fs l I F0 D F (Gr G wr w2) n' k' u' iv' bv' hv' w2 :=
  ⟨hW, hwf, hnl, hun, hu0, HO.stable _ _ _ _ _ h.i kG (fun b hb => ⟨(h.wk.base b hb).1, h.gf b hb⟩), h.f0, fun b hg hf => by
      rcases hg with e | e
      · exact h.gf b e hf
      · have := (HO.lt _ _ _ h.i b hf).2
        omega,
    h.k.trans kG (fun b hb hg => absurd (h.wk.base b hg).1 (by omega))⟩
theorem Way.onN (h : Way W0 w p fv cv b0 fs l I F0 D F G n k u iv bv hv wr) (HO : HandOK W0 w.heap.size m0 E hn caps more I) (kN : Kept Nil wr w2) : Way W0 w p fv cv b0 fs l I F0 D F G n k u iv bv hv w2 :=
  ⟨h.wk.keptN kN, h.wf, h.nl, h.un, h.u0, HO.stable _ _ _ _ _ h.i kN (fun _ hb => hb.elim), h.f0, h.gf, h.k.trans kN (fun _ _ e => e.elim)⟩
end
theorem wf_small {fs : List F4} (hfs : fs.length ≤ 1000) {l : List St} : ∀ {n : Nat} {k : Stk}, WfS fs l n k → ∀ c ∈ k, c.2.1 ≤ 5000
  | _, [], _ => fun c hc => by cases hc
  | n, d :: r, h => fun c hc => by
    rcases List.mem_cons.1 hc with rfl | hc
    · have := (List.getElem?_eq_some_iff.1 h.2.2.1).1
      omega
    · exact wf_small hfs h.2.2.2 c hc
/-- What is left, at the beginning of a round. -/
def Left (W0 w : World) (p : Nat) (fv cv : Value) (b0 : List F4) (fs : List F4) (l : List St) (more : Ev → Bool) (I : List Ev → (Nat → Prop) → World → Prop) (F0 : Nat → Prop) (wr : World) (r : Nat) : Prop :=
  ∃ D F G n k iv bv hv, Way W0 w p fv cv b0 fs l I F0 D F G n k 0 iv bv hv wr ∧ (∀ x ∈ D, more x = true) ∧ evL fs l 0 b0 = D ++ (evL fs (l.drop n) n (chOf b0 k) ++ todo fs l b0 k) ∧ r = (evL fs (l.drop n) n (chOf b0 k) ++ todo fs l b0 k).length
/-- .. and in the inner one, where D was handed on. -/
def LeftIn (W0 w : World) (p : Nat) (fv cv : Value) (b0 : List F4) (fs : List F4) (l : List St) (I : List Ev → (Nat → Prop) → World → Prop) (F0 : Nat → Prop) (D : List Ev) (wr : World) (r : Nat) : Prop :=
  ∃ F G n k u iv bv hv, Way W0 w p fv cv b0 fs l I F0 D F G n k u iv bv hv wr ∧ evL fs l 0 b0 = D ++ (kidsAt fs l n (chOf b0 k) u ++ todo fs l b0 k) ∧ r = k.length
theorem clip_any (a : Option Addr) (n c : Nat) (hn : n ≤ c) (w : World) :
    Calls Try.prog 60 #[.slice a n c] w fun e w' => e = .returned (.slice a n n) ∧ w' = w := by
  go_enter Try.func60, Try.ntmps60
  go_wp2_with fail
  go_ret
  exact ⟨rfl, rfl⟩
set_option maxHeartbeats 8000000 in
theorem beg_any {W0 : World} {b0 fs : List F4} {l : List St} {fa : Option Addr} {fn fc : Nat} {a : Option Addr} {len cap : Nat} {ba : Option Addr} {bn bc : Nat} {hn : FuncId} {caps : Array Value} {more : Ev → Bool} {I : List Ev → (Nat → Prop) → World → Prop} {F0 : Nat → Prop} (w : World) (k0 : Kept Nil W0 w)
    (hl : l.length = len) (hg : ∀ x ∈ l, x.goodS) (GO : ∀ x ∈ l, x.hd.k = 3 → GoesOK fs x.subs) (hF : In cF 4 W0 fa fn fs) (hH : SHolds W0 Any2 (.slice a len cap) l) (hB : In cT3 3 W0 ba bn (b0.map Prod.snd)) (hba : Adr W0 ba) (hbc : bn ≤ bc) (hfn : fn ≤ 1000) (hcnt : bn + cntL l ≤ 1000)
    (HO : HandOK W0 w.heap.size b0.length (evL fs l 0 b0) hn caps more I) (hI : I [] F0 w) :
    Calls Try.prog 38 #[.slice fa fn fc, .slice a len cap, .slice ba bn bc, .func (.func hn) #[] caps] w fun e w' => e = .returned (.tuple #[]) ∧ ∃ F', I (upto more (evL fs l 0 b0)) F' w' ∧ (∀ b, F' b → F0 b ∨ w.heap.size ≤ b) ∧ Kept F0 w w' := by
  have hbl : b0.length = bn := by rw [← hB.1, List.length_map]
  have HF := Lib.hid hF
  have HH := Lib.hid hH
  have HHO := Lib.hid HO
  have hWay : Hid (Way W0 w w.heap.size (.slice fa fn fc) (.slice a len cap) b0 fs l I F0 [] F0 (fun b => b = w.heap.size) 0 [] 0 (.slice none 0 0) (.slice ba bn bn) (.slice none 0 0) (w.alloc (.cells #[.slice fa fn fc, .slice a len cap, .int .i64 0, .slice none 0 0, .slice ba bn bn, .slice none 0 0, .int .i64 0] 125))) := by
    have kA : Kept Nil w (w.alloc (.cells #[.slice fa fn fc, .slice a len cap, .int .i64 0, .slice none 0 0, .slice ba bn bn, .slice none 0 0, .int .i64 0] 125)) := (Kept.refl Nil w).alloc _
    refine Lib.hid ⟨⟨Blk.new w _ _, Row.nil _ _, .inl ⟨ba, ?_, ?_, hba⟩, Row.nil _ _, rfl, fun _ hb => (by cases hb), fun b hb hB => ?_, fun _ hb => (by cases hb), fun b hb => by subst hb; simp, k0.trans kA (fun _ _ e => e), k0.size, fun h => absurd rfl h⟩, trivial, Nat.zero_le _, Nat.zero_le _, fun _ _ _ => rfl, ?_, fun b hb => .inl hb, fun b hb hf => ?_, kA.mono (fun _ _ e => e.elim)⟩
    · rw [show (chOf b0 []).map Prod.snd = b0.map Prod.snd from rfl, hB.1]
    · rw [show (chOf b0 []).map Prod.snd = b0.map Prod.snd from rfl, hB.1]; exact hB
    · rcases hba with ⟨b', o', rfl, hb'⟩ | rfl
      · have : b' = b := Option.some.inj hb
        have := k0.size
        omega
      · cases hb
    · exact HO.stable _ _ _ _ Nil hI kA (fun _ e => e.elim)
    · subst hb
      exact absurd (HO.lt _ _ _ hI _ hf).2 (Nat.lt_irrefl _)
  have CCl := Lib.hid (clip_any ba bn bc hbc w)
  clear hI hF hH hB HO
  go_enter Try.func38, Try.ntmps38
  go_wp2_with fail
  refine CCl.out.mono ?_
  rintro e w1 ⟨rfl, e1⟩
  have e2 := e1.symm
  subst e2
  clear e1
  go_wp2_with fail
  go_loopw [] (fun wr => ∃ r, Left W0 w w.heap.size (.slice fa fn fc) (.slice a len cap) b0 fs l more I F0 wr r) (fun wr => least (Left W0 w w.heap.size (.slice fa fn fc) (.slice a len cap) b0 fs l more I F0 wr))
  case atStart =>
    refine ⟨_, [], F0, _, 0, [], _, _, _, hWay.out, (fun x hx => by cases hx), ?_, rfl⟩
    simp [todo, chOf]
  case round =>
    have hJ := least_is hrel
    generalize least (Left W0 w w.heap.size (.slice fa fn fc) (.slice a len cap) b0 fs l more I F0 wr) = R at hJ ⊢
    obtain ⟨D, F, G, n, k, iv, bv, hv, hway, hmo, hE, hR⟩ := hJ
    have HWy := Lib.hid hway
    have HE := Lib.hid hE
    have HMo := Lib.hid hmo
    have y2 := hway.wk.blk.cell 2
    have y3 := hway.wk.blk.cell 3
    have y4 := hway.wk.blk.cell 4
    simp at y2 y3 y4
    have hkn := hway.wf.len
    have hnl := hway.nl
    obtain ⟨m, hm⟩ : ∃ m, k.length = m := ⟨_, rfl⟩
    obtain ⟨z, hz⟩ : ∃ z, b0.length + m = z := ⟨_, rfl⟩
    obtain ⟨ia, ic, e1⟩ := hway.wk.ids.shape
    obtain ⟨aa, ac, e2⟩ := hway.wk.back.shape
    rw [idsOf_len, hm] at e1
    rw [List.length_map, chOf_len, hm, hz] at e2
    subst e1 e2
    have CH := Lib.hid (HHO.out.call D (n, chOf b0 k) F wr ia m ic aa z ac hway.i ⟨_, by rw [hE, ev_kids hnl]; rfl⟩ hmo hway.wk.k0 hway.k.size (by rw [ids_drop]; exact hway.wk.ids) (hway.wk.back.toIn hway.wk.k0))
    simp only at CH
    have hent := HHO.out.enter
    clear hway hE hmo hrel
    go_wp2_with fail
    refine CH.out.mono ?_
    rintro e w2 ⟨F', rfl, hI', hF', kF⟩
    have HW2 := Lib.hid (HWy.out.hand HHO.out hI' hF' kF)
    have HEk := Lib.hid (show evL fs l 0 b0 = (D ++ [(n, chOf b0 k)]) ++ (kidsAt fs l n (chOf b0 k) 0 ++ todo fs l b0 k) from by rw [HE.out, ev_kids hnl, List.append_assoc]; rfl)
    have HRk := Lib.hid (show R = 1 + (kidsAt fs l n (chOf b0 k) 0 ++ todo fs l b0 k).length from by rw [hR, ev_kids hnl, List.cons_append, List.length_cons]; omega)
    clear hI' hF' kF CH y2 y3 y4 hent hR
    cases hb : more (n, chOf b0 k)
    · have HB := Lib.hid hb
      clear hb
      go_wp2_with fail
      have hU : upto more (evL fs l 0 b0) = D ++ [(n, chOf b0 k)] := by
        rw [HE.out, ev_kids hnl]
        exact upto_stop HB.out HMo.out
      exact ⟨rfl, .tuple #[], by simp [results, Try.results38, go_sem], rfl, F', by rw [hU]; exact HW2.out.i, HW2.out.f0, HW2.out.k⟩
    have HMo2 : Hid (∀ x ∈ D ++ [(n, chOf b0 k)], more x = true) := Lib.hid fun x hx => by
      rcases List.mem_append.1 hx with hx | hx
      · exact HMo.out x hx
      · rw [List.mem_singleton.1 hx]; exact hb
    generalize hD2 : D ++ [(n, chOf b0 k)] = D2 at HW2 HEk HMo2
    clear hD2 hb HMo HE
    rename World => wo
    go_wp2_with fail
    go_loopw [] (fun wr => ∃ r, LeftIn W0 w w.heap.size (.slice fa fn fc) (.slice a len cap) b0 fs l I F0 D2 wr r) (fun wr => least (LeftIn W0 w w.heap.size (.slice fa fn fc) (.slice a len cap) b0 fs l I F0 D2 wr))
    case atStart => exact ⟨_, F', G, n, k, 0, _, _, _, HW2.out, HEk.out, rfl⟩
    case round =>
      have hJ := least_is hrel
      generalize least (LeftIn W0 w w.heap.size (.slice fa fn fc) (.slice a len cap) b0 fs l I F0 D2 wr) = R2 at hJ ⊢
      obtain ⟨F2, G2, n2, k2, u2, iv2, bv2, hv2, hway, hE2, hR2⟩ := hJ
      have HWy2 := Lib.hid hway
      have HE2 := Lib.hid hE2
      have HR2 := Lib.hid hR2
      have CG := Lib.hid (goOn_any fs l hl hg GO k2 wr hway.wk HF.out HH.out hfn (by rw [← HF.out.1]; exact hway.un) (by rw [hbl]; exact hcnt) hway.wf (by rw [← hl]; exact hway.nl) hway.u0)
      have CB := Lib.hid (fun W (kW : Kept Nil wr W) => goBack_any k2 W (hway.wk.keptN kW) (by have := hway.wf.len; have := hway.nl; have := length_cntL l; omega) (by omega) (wf_small (by rw [HF.out.1]; exact hfn) hway.wf))
      unfold GoOnEnd at CG
      clear hway hE2 hR2 hrel
      go_wp2_with fail
      refine CG.out.mono ?_
      rintro e w3 (⟨n3, k3, rfl, kG, ⟨iv3, bv3, hv3, hWk⟩, hwf, hnl3, hev⟩ | ⟨rfl, kN, hnil⟩)
      · have HW3 := Lib.hid (HWy2.out.on HHO.out kG hWk hwf hnl3 (Nat.zero_le _) (fun _ _ _ => rfl))
        have HE3 := Lib.hid (HE2.out.trans (by rw [hev]))
        have HR3 := Lib.hid (show (evL fs (l.drop n3) n3 (chOf b0 k3) ++ todo fs l b0 k3).length < R from by
          have h1 := congrArg List.length HEk.out
          have h2 := congrArg List.length HE3.out
          rw [List.length_append] at h1 h2
          have := HRk.out
          omega)
        clear kG hWk hwf hnl3 hev CG CB
        go_wp2_with fail
        go_roundw
        case rel => exact ⟨_, D2, F2, _, n3, k3, iv3, bv3, hv3, HW3.out, HMo2.out, HE3.out, rfl⟩
        case measure => exact Nat.lt_of_le_of_lt (least_le ⟨D2, F2, _, n3, k3, iv3, bv3, hv3, HW3.out, HMo2.out, HE3.out, rfl⟩) HR3.out
      · have HW3 := Lib.hid (HWy2.out.onN HHO.out kN)
        have HN := Lib.hid hnil
        have CB3 := Lib.hid (CB.out w3 kN)
        clear kN hnil CG CB
        rcases k2 with _ | ⟨⟨s, i, f⟩, r⟩
        · unfold BackEnd at CB3
          go_wp2_with fail
          refine CB3.out.mono ?_
          rintro e w4 ⟨rfl, k4⟩
          have HW4 := Lib.hid (HW3.out.onN HHO.out k4)
          clear k4 CB3
          go_wp2_with fail
          have hU : upto more (evL fs l 0 b0) = D2 := by
            have : evL fs l 0 b0 = D2 := by rw [HE2.out, HN.out]; simp [todo]
            rw [this]
            exact upto_all HMo2.out
          exact bodyPost_ret (v := .tuple #[]) (by simp [results, Try.results38, go_sem]) rfl ⟨rfl, F2, by rw [hU]; exact HW4.out.i, HW4.out.f0, HW4.out.k⟩
        · unfold BackEnd at CB3
          go_wp2_with fail
          refine CB3.out.mono ?_
          rintro e w4 ⟨rfl, kG, iv4, bv4, hv4, hWk⟩
          have hwf := HW3.out.wf
          obtain ⟨h1, ⟨st, h2, h2k⟩, h3, h4⟩ := hwf
          have hsn : s ≤ l.length := Nat.le_of_lt (List.getElem?_eq_some_iff.1 h2).1
          have HW4 := Lib.hid (HW3.out.on HHO.out kG hWk h4 hsn (List.getElem?_eq_some_iff.1 h3).1 (fun x hx hne => by
            have e2 : l[s]? = some st := h2
            rw [hx] at e2
            cases e2
            exact absurd h2k hne))
          have HE4 := Lib.hid (show evL fs l 0 b0 = D2 ++ (kidsAt fs l s (chOf b0 r) (i + 1) ++ todo fs l b0 r) from by rw [HE2.out, HN.out]; rfl)
          clear kG hWk h1 h2 h2k h3 h4 CB3
          go_wp2_with fail
          go_roundw
          case rel => exact ⟨_, F2, _, s, r, i + 1, iv4, bv4, hv4, HW4.out, HE4.out, rfl⟩
          case measure =>
            refine Nat.lt_of_le_of_lt (least_le ⟨F2, _, s, r, i + 1, iv4, bv4, hv4, HW4.out, HE4.out, rfl⟩) ?_
            rw [HR2.out]
            exact Nat.lt_succ_self _
end
section
open Go.RowKit
set_option maxRecDepth 100000

/-- All steps are there. -/
def fullE (len : Nat) (e : Ev) : Bool := e.1 == len
/-- What the closure of goesOn keeps. -/
structure GoI (a : Option Addr) (len cap q : Nat) (D : List Ev) (F : Nat → Prop) (w : World) : Prop where
  f : ∀ b, F b ↔ b = q + 1
  bc : Blk w q 37 #[.slice a len cap]
  bf : Blk w (q + 1) 4 #[.bool (D.any (fullE len))]
set_option maxHeartbeats 2000000 in
theorem goesClo_any {a : Option Addr} {len cap q : Nat} {D : List Ev} (e : Ev) {F : Nat → Prop} (w : World) (h : GoI a len cap q D F w) (hD : ∀ x ∈ D, (!fullE len x) = true) (iv bv : Value) :
    Calls Try.prog 64 #[.agg #[.int .i64 (e.1 : Int), iv, bv], .pointer (some ⟨q, 0, none⟩), .pointer (some ⟨q + 1, 0, none⟩)] w fun o w' => ∃ F', o = .returned (.bool (!fullE len e)) ∧ GoI a len cap q (D ++ [e]) F' w' ∧ (∀ b, F' b → F b ∨ w.heap.size ≤ b) ∧ Kept F w w' := by
  have HI := Lib.hid h
  have c0 := h.bc.cell 0
  have d0 := h.bf.cell 0
  have hq1 := h.bf.lt
  have hq : q < w.heap.size := by omega
  have fz := h.bf.frozen 0
  simp at c0 d0
  have hDf : D.any (fullE len) = false := by
    rw [Bool.eq_false_iff]
    intro hx
    obtain ⟨x, hx1, hx2⟩ := List.any_eq_true.1 hx
    have := hD x hx1
    rw [hx2] at this; cases this
  have HD := Lib.hid hDf
  obtain ⟨n, ch⟩ := e
  have HV := Lib.hid (show fullE len (n, ch) = decide ((n : Int) = (len : Int)) from by unfold fullE; rw [Bool.eq_iff_iff]; simp; omega)
  simp only
  clear h hDf hD
  obtain ⟨q1, hq1e⟩ : ∃ q1, q + 1 = q1 := ⟨_, rfl⟩
  rw [hq1e] at d0 fz hq1 ⊢
  have HQ := Lib.hid hq1e
  clear hq1e
  go_enter Try.func64, Try.ntmps64
  go_wp2_with fail
  go_ret
  have hE : ((n : Int) == (len : Int)) = fullE len (n, ch) := by rw [HV.out]; rfl
  rw [hE]
  have kS : Kept F w ((w.setCell ⟨q1, 0, none⟩ (.bool (fullE len (n, ch)))).alloc (.cells #[.int .i64 (n : Int), iv, bv] 85)) := ((Kept.refl F w).setCell _ (.inl ((HI.out.f q1).2 HQ.out.symm)) _).alloc _
  refine ⟨F, rfl, ⟨HI.out.f, ?_, ?_⟩, fun b hb => .inl hb, kS⟩
  · exact HI.out.bc.kept kS (fun e => by have := (HI.out.f q).1 e; omega)
  · have h1 := HI.out.bf
    rw [HQ.out] at h1 ⊢
    have := (h1.set_ 0 (.bool (fullE len (n, ch)))).alloc (.cells #[.int .i64 (n : Int), iv, bv] 85)
    rw [List.any_append, HD.out, Bool.false_or]
    simpa using this
theorem enter_of {P : Program} {f : FuncId} {fn : Func} (hf : P.funcs[f]? = some fn) (h1 : fn.name ≠ "runtime.NumGoroutine") (h2 : fn.body.isNone = false) (args : Array Value) (w : World) : (callFunc f args).run P w = .ok (.enter f args) w := by
  have h3 : fn.body ≠ none := fun e => by rw [e] at h2; cases h2
  simp [callFunc, go_sem, hf, h1, h3]
set_option maxHeartbeats 4000000 in
/-- goesOn, where it does what it does with the Subs of the steps. -/
theorem goes_step (fs : List F4) (hfs : fs.length ≤ 1000) (l : List St) (hg : ∀ x ∈ l, x.goodS) (GO : ∀ x ∈ l, x.hd.k = 3 → GoesOK fs x.subs) : GoesOK fs l := by
  intro b0 fa fn fc a cap ba bn bc w hF hH hB hba hbc _ hcnt
  obtain ⟨len, hl⟩ : ∃ len, l.length = len := ⟨_, rfl⟩
  obtain ⟨q, hq⟩ : ∃ q, w.heap.size = q := ⟨_, rfl⟩
  rw [hl] at hH ⊢
  have hw0 : (w.alloc (.cells #[.slice a len cap] 37)).heap.size = q + 1 := by rw [← hq]; simp
  have k1 : Kept Nil w ((w.alloc (.cells #[.slice a len cap] 37)).alloc (.cells #[.bool false] 4)) := ((Kept.refl Nil w).alloc _).alloc _
  have hsz : ((w.alloc (.cells #[.slice a len cap] 37)).alloc (.cells #[.bool false] 4)).heap.size = q + 1 + 1 := by rw [← hq]; simp
  have hB1 : Blk ((w.alloc (.cells #[.slice a len cap] 37)).alloc (.cells #[.bool false] 4)) q 37 #[.slice a len cap] := by rw [← hq]; exact (Blk.new w _ _).alloc _
  have hB2 : Blk ((w.alloc (.cells #[.slice a len cap] 37)).alloc (.cells #[.bool false] 4)) (q + 1) 4 #[.bool false] := by rw [← hw0]; exact Blk.new _ _ _
  have hkd : ∀ x ∈ l, kindS x := fun x hx => (hg x hx).kind
  have CBg := Lib.hid (fun W (hW : W = (w.alloc (.cells #[.slice a len cap] 37)).alloc (.cells #[.bool false] 4)) => beg_any (W0 := w) (b0 := b0) (fs := fs) (l := l) (fa := fa) (fn := fn) (fc := fc) (a := a) (len := len) (cap := cap) (ba := ba) (bn := bn) (bc := bc) (hn := 64) (caps := #[.pointer (some ⟨q, 0, none⟩), .pointer (some ⟨q + 1, 0, none⟩)]) (more := fun e => !fullE len e) (I := GoI a len cap q) (F0 := fun b => b = q + 1) W (by rw [hW]; exact k1) hl hg GO hF hH hB hba hbc (by rw [← hF.1]; exact hfs) hcnt
    ⟨enter_of (by rfl) (by decide) (by kernel_rfl), fun D F v hI b hb => ⟨by have := (hI.f b).1 hb; omega, by rw [(hI.f b).1 hb]; exact hI.bf.lt⟩, fun D F v v' G hI kG hG => ⟨hI.f, hI.bc.kept kG (fun e => by have := (hG q e).1; rw [hW, hsz] at this; omega), hI.bf.kept kG (fun e => (hG _ e).2 ((hI.f _).2 rfl))⟩,
      fun D e F v ia ni ic ba' nb bc' hI _ hD _ _ _ _ => goesClo_any e v hI hD _ _⟩
    ⟨fun _ => Iff.rfl, by rw [hW]; exact hB1, by rw [hW]; exact hB2⟩)
  have HE := Lib.hid ((upto_any (p := fullE len) (evL fs l 0 b0)).trans ((by rw [← hl]; exact ev_any hkd b0 : (evL fs l 0 b0).any (fullE len) = !(smL fs l b0).isEmpty)))
  have HK1 := Lib.hid k1
  clear hF hH hB GO hg hB1 hB2 k1 hsz hkd hw0
  subst hq
  go_enter Try.func43, Try.ntmps43
  go_wp2_with fail
  refine (CBg.out _ rfl).mono ?_
  rintro e w2 ⟨rfl, F', hI, hF', k2⟩
  have d0 := hI.bf.cell 0
  have hqw := hI.bf.lt
  rw [HE.out] at d0
  simp at d0
  have HK2 := Lib.hid k2
  clear hI hF' k2 CBg
  go_wp2_with fail
  go_ret
  refine ⟨rfl, HK1.out.trans HK2.out (fun i hi e => ?_)⟩
  omega
/-- goesOn tells whether there is a match. -/
theorem goes_all (fs : List F4) (hfs : fs.length ≤ 1000) : (∀ s : St, s.goodS → GoesOK fs s.subs) ∧ ∀ l : List St, (∀ x ∈ l, x.goodS) → (∀ x ∈ l, GoesOK fs x.subs) := by
  refine St.ind2 (fun h subs ih hg => ?_) (fun _ x hx => (by cases hx)) (fun a l ha hl hg x hx => ?_)
  · have hs := (goodS_mk.1 hg).2.2.2
    exact goes_step fs hfs subs hs fun x hx _ => ih hs x hx
  · rcases List.mem_cons.1 hx with rfl | hx
    · exact ha (hg x List.mem_cons_self)
    · exact hl (fun y hy => hg y (List.mem_cons_of_mem _ hy)) x hx
theorem goes_ok (fs : List F4) (hfs : fs.length ≤ 1000) (l : List St) (hg : ∀ x ∈ l, x.goodS) : GoesOK fs l := goes_step fs hfs l hg fun x hx _ => (goes_all fs hfs).2 l hg x hx
end
section
open Go.RowKit
set_option maxRecDepth 100000

/-- To what matches are handed on. -/
structure HandM (W0 : World) (B1 : Nat) (Ms : List (List F4)) (hn : FuncId) (caps : Array Value) (I : List (List F4) → (Nat → Prop) → World → Prop) : Prop where
  enter : ∀ args w, (callFunc hn args).run Try.prog w = .ok (.enter hn args) w
  lt : ∀ D F w, I D F w → ∀ b, F b → W0.heap.size ≤ b ∧ b < w.heap.size
  stable : ∀ D F w w' G, I D F w → Kept G w w' → (∀ b, G b → B1 ≤ b ∧ ¬ F b) → I D F w'
  call : ∀ D ch F w (s : Int) ia ni ic ba nb bc, I D F w → (∃ r, Ms = D ++ ch :: r) → Kept Nil W0 w → B1 ≤ w.heap.size → Row cN 3 1 w B1 (.slice ia ni ic) (ch.map Prod.fst) → In cT3 3 w ba nb (ch.map Prod.snd) →
    Calls Try.prog hn (#[.agg #[.int .i64 s, .slice ia ni ic, .slice ba nb bc]] ++ caps) w fun o w' => ∃ F', o = .returned (.tuple #[]) ∧ I (D ++ [ch]) F' w' ∧ (∀ b, F' b → F b ∨ w.heap.size ≤ b) ∧ Kept F w w'
/-- The matches, with their facts. -/
def matchE (fs : List F4) (l : List St) : List (List F4) := ((evL fs l 0 []).filter (fullE l.length)).map Prod.snd
theorem matchE_sm {fs : List F4} {l : List St} (hg : ∀ x ∈ l, kindS x) : (matchE fs l).map (fun ch => ch.map Prod.fst) = smL fs l [] := by
  rw [← ev_all hg [], matchE, List.map_map]; rfl
/-- What the closure of eachMatch keeps. -/
structure MaI (I : List (List F4) → (Nat → Prop) → World → Prop) (a : Option Addr) (len cap q : Nat) (hv : Value) (D : List Ev) (F : Nat → Prop) (w : World) : Prop where
  i : I ((D.filter (fullE len)).map Prod.snd) F w
  bc : Blk w q 37 #[.slice a len cap]
  bh : Blk w (q + 1) 87 #[hv]
  n0 : ¬ F q
  n1 : ¬ F (q + 1)
set_option maxHeartbeats 4000000 in
theorem matchClo_any {W0 : World} {B1 : Nat} {fs : List F4} {l : List St} {hn : FuncId} {caps : Array Value} {I : List (List F4) → (Nat → Prop) → World → Prop} (HM : HandM W0 B1 (matchE fs l) hn caps I) {a : Option Addr} {len cap q : Nat} (hl : l.length = len) {D : List Ev} (e : Ev) (hE : ∃ r, evL fs l 0 [] = D ++ e :: r) {F : Nat → Prop} (w : World) (h : MaI I a len cap q (.func (.func hn) #[] caps) D F w) (k0 : Kept Nil W0 w) (hB : B1 ≤ w.heap.size) (ia : Option Addr) (ni ic : Nat) (ba : Option Addr) (nb bc : Nat) (hi : Row cN 3 1 w B1 (.slice ia ni ic) (e.2.map Prod.fst)) (hb : In cT3 3 w ba nb (e.2.map Prod.snd)) :
    Calls Try.prog 55 #[.agg #[.int .i64 (e.1 : Int), .slice ia ni ic, .slice ba nb bc], .pointer (some ⟨q, 0, none⟩), .pointer (some ⟨q + 1, 0, none⟩)] w fun o w' => ∃ F', o = .returned (.bool true) ∧ MaI I a len cap q (.func (.func hn) #[] caps) (D ++ [e]) F' w' ∧ (∀ b, F' b → F b ∨ w.heap.size ≤ b) ∧ Kept F w w' := by
  have HI := Lib.hid h
  obtain ⟨n, ch⟩ := e
  have kA : Kept Nil w (w.alloc (.cells #[.int .i64 (n : Int), .slice ia ni ic, .slice ba nb bc] 85)) := (Kept.refl Nil w).alloc _
  have hI1 : I ((D.filter (fullE len)).map Prod.snd) F (w.alloc (.cells #[.int .i64 (n : Int), .slice ia ni ic, .slice ba nb bc] 85)) := HM.stable _ _ _ _ Nil h.i kA (fun _ e => e.elim)
  have CH : Hid (fullE len (n, ch) = true → Calls Try.prog hn (#[.agg #[.int .i64 (n : Int), .slice ia ni ic, .slice ba nb bc]] ++ caps) (w.alloc (.cells #[.int .i64 (n : Int), .slice ia ni ic, .slice ba nb bc] 85)) fun o w' => ∃ F', o = .returned (.tuple #[]) ∧ I ((D.filter (fullE len)).map Prod.snd ++ [ch]) F' w' ∧ (∀ b, F' b → F b ∨ (w.alloc (.cells #[.int .i64 (n : Int), .slice ia ni ic, .slice ba nb bc] 85)).heap.size ≤ b) ∧ Kept F (w.alloc (.cells #[.int .i64 (n : Int), .slice ia ni ic, .slice ba nb bc] 85)) w') := Lib.hid fun hf => by
    obtain ⟨r, hr⟩ := hE
    refine HM.call _ ch F _ (n : Int) ia ni ic ba nb bc hI1 ⟨(r.filter (fullE len)).map Prod.snd, ?_⟩ (k0.trans kA (fun _ _ e => e)) (Nat.le_trans hB kA.size) (hi.keptN kA) (hb.kept kA)
    unfold matchE
    rw [hl, hr, List.filter_append, List.filter_cons_of_pos hf, List.map_append, List.map_cons]
  have c0 := h.bc.cell 0
  have d0 := h.bh.cell 0
  have hq1 := h.bh.lt
  have hq : q < w.heap.size := by omega
  have hent := HM.enter
  simp at c0 d0
  have KA := Lib.hid kA
  have HI1 := Lib.hid hI1
  have HV := Lib.hid (show fullE len (n, ch) = decide ((n : Int) = (len : Int)) from by unfold fullE; rw [Bool.eq_iff_iff]; simp; omega)
  simp only
  clear h hI1 kA HM hE hi hb hB k0
  obtain ⟨q1, hq1e⟩ : ∃ q1, q + 1 = q1 := ⟨_, rfl⟩
  rw [hq1e] at d0 hq1 ⊢
  have HQ := Lib.hid hq1e
  clear hq1e
  by_cases hf : n = len
  · subst hf
    have hft : fullE n (n, ch) = true := by unfold fullE; simp
    have HFt := Lib.hid hft
    have CH2 := Lib.hid (CH.out hft)
    clear CH hft HV
    go_enter Try.func55, Try.ntmps55
    go_wp2_with fail
    refine CH2.out.mono ?_
    rintro e w2 ⟨F', rfl, hI2, hF2, k2⟩
    have HI2 := Lib.hid (And.intro hI2 (And.intro hF2 k2))
    clear hI2 hF2 k2 CH2
    go_wp2_with fail
    go_ret
    obtain ⟨hI2, hF2, k2⟩ := HI2.out
    have kk : Kept F w w2 := (KA.out.mono (fun _ _ e => e.elim)).trans k2 (fun _ _ e => e)
    refine ⟨F', rfl, ⟨?_, HI.out.bc.kept kk HI.out.n0, HI.out.bh.kept kk HI.out.n1, fun e => ?_, fun e => ?_⟩, fun b hb => (hF2 b hb).imp id (fun e => Nat.le_trans KA.out.size e), kk⟩
    · rw [List.filter_append, List.map_append, List.filter_cons_of_pos HFt.out]; exact hI2
    · rcases hF2 _ e with e | e
      · exact HI.out.n0 e
      · have := KA.out.size; omega
    · rcases hF2 _ e with e | e
      · exact HI.out.n1 e
      · have := KA.out.size; have := HQ.out; omega
  · have hne : ((n : Int) == (len : Int)) = false := by simp; omega
    have hff : fullE len (n, ch) = false := by rw [HV.out]; exact decide_eq_false (by omega)
    have HFf := Lib.hid hff
    clear CH hff HV hent
    go_enter Try.func55, Try.ntmps55
    go_wp2_with fail
    go_ret
    have kk : Kept F w _ := KA.out.mono (fun _ _ e => e.elim)
    refine ⟨F, rfl, ⟨?_, HI.out.bc.kept kk HI.out.n0, HI.out.bh.kept kk HI.out.n1, HI.out.n0, HI.out.n1⟩, fun b hb => .inl hb, kk⟩
    rw [List.filter_append, List.map_append, List.filter_cons_of_neg (by rw [HFf.out]; decide)]
    simpa using HI1.out
set_option maxHeartbeats 4000000 in
theorem match_any {W0 : World} {fs : List F4} {l : List St} {fa : Option Addr} {fn fc : Nat} {a : Option Addr} {len cap : Nat} {hn : FuncId} {caps : Array Value} {I : List (List F4) → (Nat → Prop) → World → Prop} {F0 : Nat → Prop} (w : World) (k0 : Kept Nil W0 w)
    (hl : l.length = len) (hg : ∀ x ∈ l, x.goodS) (hF : In cF 4 W0 fa fn fs) (hH : SHolds W0 Any2 (.slice a len cap) l) (hfn : fn ≤ 1000) (hcnt : cntL l ≤ 1000)
    (HM : HandM W0 w.heap.size (matchE fs l) hn caps I) (hI : I [] F0 w) :
    Calls Try.prog 32 #[.slice fa fn fc, .slice a len cap, .func (.func hn) #[] caps] w fun e w' => e = .returned (.tuple #[]) ∧ ∃ F', I (matchE fs l) F' w' ∧ (∀ b, F' b → F0 b ∨ w.heap.size ≤ b) ∧ Kept F0 w w' := by
  have hw0 : (w.alloc (.cells #[.slice a len cap] 37)).heap.size = w.heap.size + 1 := by simp
  have k1 : Kept Nil w ((w.alloc (.cells #[.slice a len cap] 37)).alloc (.cells #[.func (.func hn) #[] caps] 87)) := ((Kept.refl Nil w).alloc _).alloc _
  have hsz : ((w.alloc (.cells #[.slice a len cap] 37)).alloc (.cells #[.func (.func hn) #[] caps] 87)).heap.size = w.heap.size + 1 + 1 := by simp
  have hB1 : Blk ((w.alloc (.cells #[.slice a len cap] 37)).alloc (.cells #[.func (.func hn) #[] caps] 87)) w.heap.size 37 #[.slice a len cap] := (Blk.new w _ _).alloc _
  have hB2 : Blk ((w.alloc (.cells #[.slice a len cap] 37)).alloc (.cells #[.func (.func hn) #[] caps] 87)) (w.heap.size + 1) 87 #[.func (.func hn) #[] caps] := by rw [← hw0]; exact Blk.new _ _ _
  have CBg := Lib.hid (fun W (hW : W = (w.alloc (.cells #[.slice a len cap] 37)).alloc (.cells #[.func (.func hn) #[] caps] 87)) => beg_any (W0 := W0) (b0 := []) (fs := fs) (l := l) (fa := fa) (fn := fn) (fc := fc) (a := a) (len := len) (cap := cap) (ba := none) (bn := 0) (bc := 0) (hn := 55) (caps := #[.pointer (some ⟨w.heap.size, 0, none⟩), .pointer (some ⟨w.heap.size + 1, 0, none⟩)]) (more := fun _ => true) (I := MaI I a len cap w.heap.size (.func (.func hn) #[] caps)) (F0 := F0) W (by rw [hW]; exact k0.trans k1 (fun _ _ e => e)) hl hg (fun x hx _ => (goes_all fs (by rw [hF.1]; exact hfn)).2 l hg x hx) hF hH ⟨rfl, .inl rfl⟩ (.inr rfl) (Nat.le_refl _) hfn (by omega)
    ⟨enter_of (by rfl) (by decide) (by kernel_rfl), fun D F v hI b hb => HM.lt _ _ _ hI.i b hb, fun D F v v' G hI kG hG => ⟨HM.stable _ _ _ _ G hI.i kG (fun b hb => ⟨by have := (hG b hb).1; rw [hW, hsz] at this; omega, (hG b hb).2⟩), hI.bc.kept kG (fun e => by have := (hG _ e).1; rw [hW, hsz] at this; omega), hI.bh.kept kG (fun e => by have := (hG _ e).1; rw [hW, hsz] at this; omega), hI.n0, hI.n1⟩,
      fun D e F v ia ni ic ba' nb bc' hI hE _ kv hBv hi hb => by
        have := matchClo_any HM hl e hE v hI kv (by rw [hW, hsz] at hBv; omega) ia ni ic ba' nb bc' (hi.down (by rw [hW, hsz]; omega)) hb
        exact this⟩
    ⟨by rw [hW]; exact HM.stable _ _ _ _ Nil hI k1 (fun _ e => e.elim), by rw [hW]; exact hB1, by rw [hW]; exact hB2, fun e => by have := (HM.lt _ _ _ hI _ e).2; omega, fun e => by have := (HM.lt _ _ _ hI _ e).2; omega⟩)
  have HU := Lib.hid (upto_all (more := fun _ => true) (E := evL fs l 0 []) (fun _ _ => rfl))
  have HK1 := Lib.hid k1
  have HL := Lib.hid hl
  clear hF hH hB1 hB2 k1 hsz hw0 hg hI HM
  go_enter Try.func32, Try.ntmps32
  go_wp2_with fail
  refine (CBg.out _ rfl).mono ?_
  rintro e w2 ⟨rfl, F', hI2, hF2, k2⟩
  have H2 := Lib.hid (And.intro hI2 (And.intro hF2 k2))
  clear hI2 hF2 k2 CBg
  go_wp2_with fail
  obtain ⟨hI2, hF2, k2⟩ := H2.out
  rw [HU.out] at hI2
  refine ⟨rfl, .tuple #[], by simp [results, Try.results32, go_sem], rfl, F', ?_, fun b hb => (hF2 b hb).imp id (fun e => Nat.le_trans HK1.out.size e), (HK1.out.mono (fun _ _ e => e.elim)).trans k2 (fun _ _ e => e)⟩
  have := hI2.i
  rw [← HL.out] at this
  exact this
end
section
open Go.RowKit
set_option maxRecDepth 100000

set_option maxHeartbeats 2000000 in
theorem rightPClo_any (h : SH) (sb : List St) (hok : (St.mk h sb).okS) (ta : Option Addr) (tn tc : Nat) (htn : h.ts.length = tn) (ua : Option Addr) (un uc : Nat) (hun : sb.length = un) (w : World) (ht : TsAt w Any2 (.slice ta tn tc) h.ts) (hu : SHolds w Any2 (.slice ua un uc) sb) :
    Calls Try.prog 53 #[vS h (.slice ta tn tc) (.slice ua un uc)] w fun e w' => e = .returned (.bool false) ∧ Kept Nil w w' := by
  subst htn hun
  have K0 := Lib.hid ((Kept.refl Nil w).alloc (.cells (arrS h (.slice ta h.ts.length tc) (.slice ua sb.length uc)) 59))
  have CR := Lib.hid (stRight_any (.mk h sb) (by have := hok.mass; omega) Any2 ta tc ua uc _ (ht.keptN K0.out) (hu.keptN K0.out))
  rw [show (St.mk h sb).right = true from hok.2] at CR
  obtain ⟨k, k0, k1, k2, ts⟩ := h
  generalize hh : sb.length = un at *
  simp only [St.hd, St.subs] at CR
  rw [hh] at CR
  clear ht hu hok hh
  generalize ts.length = tn at *
  simp only [arrS] at K0 CR
  go_enter Try.func53, Try.ntmps53
  go_wp2_with fail
  refine CR.out.mono ?_
  rintro e w2 ⟨rfl, k2'⟩
  go_wp2_with fail
  go_ret
  exact ⟨rfl, K0.out.trans k2' (fun _ _ g => g)⟩
set_option maxHeartbeats 4000000 in
theorem rightPIdx_any (l : List St) (hok : ∀ x ∈ l, x.okS) (a : Option Addr) (len cap : Nat) (hl : l.length = len) (hl5 : len ≤ 5000) (w : World) (hH : SHolds w Any2 (.slice a len cap) l) :
    Calls Try.prog 65 #[.slice a len cap, .func (.func 53) #[] #[]] w fun e w' => e = .returned (.int .i64 (-1)) ∧ Kept Nil w w' := by
  have HH := Lib.hid hH
  have HOk := Lib.hid hok
  have HL := Lib.hid hl
  clear hH hok hl
  go_enter Try.func65, Try.ntmps65
  go_wp2_with fail
  go_loopw [5, 8] (fun _ i wr => ∃ j : Nat, j ≤ len ∧ i = .int .i64 j ∧ Kept Nil w wr) (fun _ i _ => len - (intOf i).toNat)
  case atStart => exact ⟨0, by omega, rfl, Kept.refl _ _⟩
  case round =>
    obtain ⟨j, hj, rfl, hK⟩ := hrel
    have HK := Lib.hid hK
    clear hK
    by_cases hlt : j < len
    · obtain ⟨⟨⟨k, k0, k1, k2, ts⟩, sb⟩, hx⟩ : ∃ x, l[j]? = some x := ⟨_, List.getElem?_eq_getElem (by rw [HL.out]; exact hlt)⟩
      obtain ⟨b, o, ta, tc, ua, uc, rfl, _, hr, ht, hs⟩ := (HH.out.keptN HK.out).at_ hx
      have CX := Lib.hid (rightPClo_any ⟨k, k0, k1, k2, ts⟩ sb (HOk.out _ (List.mem_of_getElem? hx)) ta _ tc rfl ua _ uc rfl wr ht hs)
      have c0 := hr 0 _ rfl
      have c1 := hr 1 _ rfl
      have c2 := hr 2 _ rfl
      have c3 := hr 3 _ rfl
      have c4 := hr 4 _ rfl
      have c5 := hr 5 _ rfl
      simp only [Nat.add_zero] at c0 c1 c2 c3 c4 c5
      simp only at CX
      generalize ts.length = tn at *
      generalize sb.length = un at *
      clear hx hr ht hs
      go_wp2_with fail
      refine CX.out.mono ?_
      rintro e w2 ⟨rfl, k2'⟩
      have K2 := Lib.hid (HK.out.trans k2' (fun _ _ g => g))
      clear k2'
      go_wp2_with fail
      go_roundw
      case rel => exact ⟨j + 1, by omega, by go_num, K2.out⟩
      case measure => simp [intOf]; omega
    · obtain rfl : j = len := by omega
      go_wp2_with fail
      go_ret
      exact ⟨rfl, HK.out⟩
set_option maxHeartbeats 2000000 in
theorem rightPCont_any (fv gv : Value) (w : World) (C : Calls Try.prog 65 #[fv, gv] w fun e w' => e = .returned (.int .i64 (-1)) ∧ Kept Nil w w') :
    Calls Try.prog 52 #[fv, gv] w fun e w' => e = .returned (.bool false) ∧ Kept Nil w w' := by
  have C := Lib.hid C
  go_enter Try.func52, Try.ntmps52
  go_wp2_with fail
  refine C.out.mono ?_
  rintro e w2 ⟨rfl, k2⟩
  go_wp2_with fail
  go_ret
  exact ⟨rfl, k2⟩
set_option maxHeartbeats 2000000 in
theorem rightP_any (l : List St) (hok : ∀ x ∈ l, x.okS) (a : Option Addr) (len cap : Nat) (hl : l.length = len) (hl5 : len ≤ 5000) (w : World) (hH : SHolds w Any2 (.slice a len cap) l) :
    Calls Try.prog 31 #[.slice a len cap] w fun e w' => e = .returned (.bool true) ∧ Kept Nil w w' := by
  have C := Lib.hid (rightPCont_any _ _ w (rightPIdx_any l hok a len cap hl hl5 w hH))
  clear hH hok hl
  go_enter Try.func31, Try.ntmps31
  go_wp2_with fail
  refine C.out.mono ?_
  rintro e w2 ⟨rfl, k2⟩
  go_wp2_with fail
  go_ret
  exact ⟨rfl, k2⟩
end
end Go.Proofs.Ytiihjlafhiaigaa
