/- Layer plain: the program's eachBeginning, whatever is handed on to. – Layer plain: the program's goesOn. – Layer plain: the program's eachMatch, whatever is handed on to. – Layer plain: the program's right (may the steps of a chain be gone through), of such as may. – Layer plain: the program's Partial. – Layer plain: the reference's Same: two lists of matches held against each other. – Layer rule: one round of building a slice of conditions that hangs in whatever block (after layer cond's build_round). – Layer rule: what it needs of names: fits, Right (both); after layer sym. – Layer cond: plain mathematics of whether a variable stands in a condition. No program. -/
import Derived.Test.YtmpoeibkndcnnaaA11
import Derived.Test.YtmpoeibkndcnnaaA4
import Derived.Test.YtmpoeibkndcnnaaA9
import Derived.Lib.SliceRun
import Derived.Deep.RegionLaw
import Derived.Test.YtmpoeibkndcnnaaA7
import Derived.BigRegion
import Derived.BigQuiet
import Derived.Test.YtmpoeibkndcnnaaA2
import Derived.Test.YtmpoeibkndcnnaaA1
import Derived.WalkSpells
import Derived.WalkLawsBesides
import Derived.ProofKit
import Derived.Outline
import Derived.Deep.QuietTactic
import Derived.Laws.RangeAny
namespace Go.Proofs.Ytmpoeibkndcnnaa
section
open Go.RowKit
set_option maxRecDepth 100000

/-! ### The least number with a property, to count rounds by -/
theorem least_ex (P : Nat → Prop) : (∃ n, P n) → ∃ n, P n ∧ ∀ m, P m → n ≤ m := by
  rintro ⟨n, hn⟩
  induction n using Nat.strongRecOn with
  | _ n ih =>
    by_cases h : ∃ m, m < n ∧ P m
    · obtain ⟨m, hm, hp⟩ := h; exact ih m hm hp
    · exact ⟨n, hn, fun m hm => Nat.le_of_not_lt fun hlt => h ⟨m, hlt, hm⟩⟩
open Classical in
noncomputable def least (P : Nat → Prop) : Nat := if h : ∃ n, P n then Classical.choose (least_ex P h) else 0
theorem least_is {P : Nat → Prop} (h : ∃ n, P n) : P (least P) := by
  unfold least; rw [dif_pos h]; exact (Classical.choose_spec (least_ex P h)).1
theorem least_le {P : Nat → Prop} {m : Nat} (h : P m) : least P ≤ m := by
  unfold least; rw [dif_pos ⟨m, h⟩]; exact (Classical.choose_spec (least_ex P ⟨m, h⟩)).2 m h

/-- To what is handed on: what it keeps of what was handed on (I), which blocks it writes, and when it wants more. -/
structure HandOK (W0 : World) (B1 m0 : Nat) (E : List Ev) (hn : FuncId) (caps : Array Value) (more : Ev → Bool) (I : List Ev → (Nat → Prop) → World → Prop) : Prop where
  enter : ∀ args w, (callFunc hn args).run Try.prog w = .ok (.enter hn args) w
  lt : ∀ D F w, I D F w → ∀ b, F b → W0.heap.size ≤ b ∧ b < w.heap.size
  stable : ∀ D F w w' G, I D F w → Kept G w w' → (∀ b, G b → B1 ≤ b ∧ ¬ F b) → I D F w'
  call : ∀ D e F w ia ni ic ba nb bc, I D F w → (∃ r, E = D ++ e :: r) → (∀ x ∈ D, more x = true) → Kept Nil W0 w → B1 ≤ w.heap.size → Row cN 3 1 w B1 (.slice ia ni ic) ((e.2.drop m0).map Prod.fst) → In cT3 3 w ba nb (e.2.map Prod.snd) →
    Calls Try.prog hn (#[.agg #[.int .i64 (e.1 : Int), .slice ia ni ic, .slice ba nb bc]] ++ caps) w fun o w' => ∃ F', o = .returned (.bool (more e)) ∧ I (D ++ [e]) F' w' ∧ (∀ b, F' b → F b ∨ w.heap.size ≤ b) ∧ Kept F w w'
/-- The walk and the hand, side by side: what was handed on is D, what is left R. -/
structure Way (W0 w : World) (p : Nat) (fv cv : Value) (b0 : List F4) (fs : List F4) (l : List St) (I : List Ev → (Nat → Prop) → World → Prop) (F0 : Nat → Prop) (D : List Ev) (F G : Nat → Prop) (n : Nat) (k : Stk) (u : Nat) (iv bv hv : Value) (wr : World) : Prop where
  wk : Wk W0 w.heap.size p fv cv b0 wr G n k u iv bv hv
  wf : WfS fs l n k
  nl : n ≤ l.length
  un : u ≤ fs.length
  u0 : ∀ s, l[n]? = some s → s.hd.k ≠ 1 → u = 0
  i : I D F wr
  f0 : ∀ b, F b → F0 b ∨ w.heap.size ≤ b
  gf : ∀ b, G b → ¬ F b
  k : Kept F0 w wr
section
variable {W0 w wr w2 : World} {p m0 : Nat} {fv cv : Value} {b0 fs : List F4} {l : List St} {I : List Ev → (Nat → Prop) → World → Prop} {F0 F F' G : Nat → Prop} {D : List Ev} {n n' : Nat} {k k' : Stk} {u u' : Nat} {iv bv hv iv' bv' hv' : Value} {E : List Ev} {hn : FuncId} {caps : Array Value} {more : Ev → Bool}
theorem Way.hand (h : Way W0 w p fv cv b0 fs l I F0 D F G n k u iv bv hv wr) (HO : HandOK W0 w.heap.size m0 E hn caps more I) {D' : List Ev} (hI : I D' F' w2) (hF : ∀ b, F' b → F b ∨ wr.heap.size ≤ b) (kF : Kept F wr w2) : Way W0 w p fv cv b0 fs l I F0 D' F' G n k u iv bv hv w2 :=
  ⟨h.wk.kept kF (fun b hb => ⟨(HO.lt _ _ _ h.i b hb).1, fun hg => h.gf b hg hb⟩), h.wf, h.nl, h.un, h.u0, hI, fun b hb => by
      rcases hF b hb with e | e
      · exact h.f0 b e
      · exact .inr (Nat.le_trans h.k.size e),
    fun b hg hf => by
      rcases hF b hf with e | e
      · exact h.gf b hg e
      · have := (h.wk.base b hg).2
        omega,
    h.k.trans kF (fun b hb hf => by
      rcases h.f0 b hf with e | e
      · exact e
      · omega)⟩
theorem Way.on (h : Way W0 w p fv cv b0 fs l I F0 D F G n k u iv bv hv wr) (HO : HandOK W0 w.heap.size m0 E hn caps more I) (kG : Kept G wr w2) (hW : Wk W0 w.heap.size p fv cv b0 w2 (Gr G wr w2) n' k' u' iv' bv' hv') (hwf : WfS fs l n' k') (hnl : n' ≤ l.length) (hun : u' ≤ fs.length) (hu0 : ∀ s, l[n']? = some s → s.hd.k ≠ 1 → u' = 0) : Way W0 w p fv cv b0 fs l I F0 D F (Gr G wr w2) n' k' u' iv' bv' hv' w2 :=
  ⟨hW, hwf, hnl, hun, hu0, HO.stable _ _ _ _ _ h.i kG (fun b hb => ⟨(h.wk.base b hb).1, h.gf b hb⟩), h.f0, fun b hg hf => by
      rcases hg with e | e
      · exact h.gf b e hf
      · have := (HO.lt _ _ _ h.i b hf).2
        omega,
    h.k.trans kG (fun b hb hg => absurd (h.wk.base b hg).1 (by omega))⟩
theorem Way.onN (h : Way W0 w p fv cv b0 fs l I F0 D F G n k u iv bv hv wr) (HO : HandOK W0 w.heap.size m0 E hn caps more I) (kN : Kept Nil wr w2) : Way W0 w p fv cv b0 fs l I F0 D F G n k u iv bv hv w2 :=
  ⟨h.wk.keptN kN, h.wf, h.nl, h.un, h.u0, HO.stable _ _ _ _ _ h.i kN (fun _ hb => hb.elim), h.f0, h.gf, h.k.trans kN (fun _ _ e => e.elim)⟩
end
theorem wf_small {fs : List F4} (hfs : fs.length ≤ 1000) {l : List St} : ∀ {n : Nat} {k : Stk}, WfS fs l n k → ∀ c ∈ k, c.2.1 ≤ 5000
  | _, [], _ => fun c hc => by cases hc
  | n, d :: r, h => fun c hc => by
    rcases List.mem_cons.1 hc with rfl | hc
    · have := (List.getElem?_eq_some_iff.1 h.2.2.1).1
      omega
    · exact wf_small hfs h.2.2.2 c hc
/-- What is left, at the beginning of a round. -/
def Left (W0 w : World) (p : Nat) (fv cv : Value) (b0 : List F4) (fs : List F4) (l : List St) (more : Ev → Bool) (I : List Ev → (Nat → Prop) → World → Prop) (F0 : Nat → Prop) (wr : World) (r : Nat) : Prop :=
  ∃ D F G n k iv bv hv, Way W0 w p fv cv b0 fs l I F0 D F G n k 0 iv bv hv wr ∧ (∀ x ∈ D, more x = true) ∧ evL fs l 0 b0 = D ++ (evL fs (l.drop n) n (chOf b0 k) ++ todo fs l b0 k) ∧ r = (evL fs (l.drop n) n (chOf b0 k) ++ todo fs l b0 k).length
/-- .. and in the inner one, where D was handed on. -/
def LeftIn (W0 w : World) (p : Nat) (fv cv : Value) (b0 : List F4) (fs : List F4) (l : List St) (I : List Ev → (Nat → Prop) → World → Prop) (F0 : Nat → Prop) (D : List Ev) (wr : World) (r : Nat) : Prop :=
  ∃ F G n k u iv bv hv, Way W0 w p fv cv b0 fs l I F0 D F G n k u iv bv hv wr ∧ evL fs l 0 b0 = D ++ (kidsAt fs l n (chOf b0 k) u ++ todo fs l b0 k) ∧ r = k.length
theorem clip_any (a : Option Addr) (n c : Nat) (hn : n ≤ c) (w : World) :
    Calls Try.prog 60 #[.slice a n c] w fun e w' => e = .returned (.slice a n n) ∧ w' = w := by
  go_enter Try.func60, Try.ntmps60
  go_wp2_with fail
  go_ret
  exact ⟨rfl, rfl⟩
set_option maxHeartbeats 8000000 in
theorem beg_any {W0 : World} {b0 fs : List F4} {l : List St} {fa : Option Addr} {fn fc : Nat} {a : Option Addr} {len cap : Nat} {ba : Option Addr} {bn bc : Nat} {hn : FuncId} {caps : Array Value} {more : Ev → Bool} {I : List Ev → (Nat → Prop) → World → Prop} {F0 : Nat → Prop} (w : World) (k0 : Kept Nil W0 w)
    (hl : l.length = len) (hg : ∀ x ∈ l, x.goodS) (GO : ∀ x ∈ l, x.hd.k = 3 → GoesOK fs x.subs) (hF : In cF 4 W0 fa fn fs) (hH : SHolds W0 Any2 (.slice a len cap) l) (hB : In cT3 3 W0 ba bn (b0.map Prod.snd)) (hba : Adr W0 ba) (hbc : bn ≤ bc) (hfn : fn ≤ 1000) (hcnt : bn + cntL l ≤ 1000)
    (HO : HandOK W0 w.heap.size b0.length (evL fs l 0 b0) hn caps more I) (hI : I [] F0 w) :
    Calls Try.prog 38 #[.slice fa fn fc, .slice a len cap, .slice ba bn bc, .func (.func hn) #[] caps] w fun e w' => e = .returned (.tuple #[]) ∧ ∃ F', I (upto more (evL fs l 0 b0)) F' w' ∧ (∀ b, F' b → F0 b ∨ w.heap.size ≤ b) ∧ Kept F0 w w' := by
  have hbl : b0.length = bn := by rw [← hB.1, List.length_map]
  have HF := Lib.hid hF
  have HH := Lib.hid hH
  have HHO := Lib.hid HO
  have hWay : Hid (Way W0 w w.heap.size (.slice fa fn fc) (.slice a len cap) b0 fs l I F0 [] F0 (fun b => b = w.heap.size) 0 [] 0 (.slice none 0 0) (.slice ba bn bn) (.slice none 0 0) (w.alloc (.cells #[.slice fa fn fc, .slice a len cap, .int .i64 0, .slice none 0 0, .slice ba bn bn, .slice none 0 0, .int .i64 0] 125))) := by
    have kA : Kept Nil w (w.alloc (.cells #[.slice fa fn fc, .slice a len cap, .int .i64 0, .slice none 0 0, .slice ba bn bn, .slice none 0 0, .int .i64 0] 125)) := (Kept.refl Nil w).alloc _
    refine Lib.hid ⟨⟨Blk.new w _ _, Row.nil _ _, .inl ⟨ba, ?_, ?_, hba⟩, Row.nil _ _, rfl, fun _ hb => (by cases hb), fun b hb hB => ?_, fun _ hb => (by cases hb), fun b hb => by subst hb; simp, k0.trans kA (fun _ _ e => e), k0.size, fun h => absurd rfl h⟩, trivial, Nat.zero_le _, Nat.zero_le _, fun _ _ _ => rfl, ?_, fun b hb => .inl hb, fun b hb hf => ?_, kA.mono (fun _ _ e => e.elim)⟩
    · rw [show (chOf b0 []).map Prod.snd = b0.map Prod.snd from rfl, hB.1]
    · rw [show (chOf b0 []).map Prod.snd = b0.map Prod.snd from rfl, hB.1]; exact hB
    · rcases hba with ⟨b', o', rfl, hb'⟩ | rfl
      · have : b' = b := Option.some.inj hb
        have := k0.size
        omega
      · cases hb
    · exact HO.stable _ _ _ _ Nil hI kA (fun _ e => e.elim)
    · subst hb
      exact absurd (HO.lt _ _ _ hI _ hf).2 (Nat.lt_irrefl _)
  have CCl := Lib.hid (clip_any ba bn bc hbc w)
  clear hI hF hH hB HO
  go_enter Try.func38, Try.ntmps38
  go_wp2_with fail
  refine CCl.out.mono ?_
  rintro e w1 ⟨rfl, e1⟩
  have e2 := e1.symm
  subst e2
  clear e1
  go_wp2_with fail
  go_loopw [] (fun wr => ∃ r, Left W0 w w.heap.size (.slice fa fn fc) (.slice a len cap) b0 fs l more I F0 wr r) (fun wr => least (Left W0 w w.heap.size (.slice fa fn fc) (.slice a len cap) b0 fs l more I F0 wr))
  case atStart =>
    refine ⟨_, [], F0, _, 0, [], _, _, _, hWay.out, (fun x hx => by cases hx), ?_, rfl⟩
    simp [todo, chOf]
  case round =>
    have hJ := least_is hrel
    generalize least (Left W0 w w.heap.size (.slice fa fn fc) (.slice a len cap) b0 fs l more I F0 wr) = R at hJ ⊢
    obtain ⟨D, F, G, n, k, iv, bv, hv, hway, hmo, hE, hR⟩ := hJ
    have HWy := Lib.hid hway
    have HE := Lib.hid hE
    have HMo := Lib.hid hmo
    have y2 := hway.wk.blk.cell 2
    have y3 := hway.wk.blk.cell 3
    have y4 := hway.wk.blk.cell 4
    simp at y2 y3 y4
    have hkn := hway.wf.len
    have hnl := hway.nl
    obtain ⟨m, hm⟩ : ∃ m, k.length = m := ⟨_, rfl⟩
    obtain ⟨z, hz⟩ : ∃ z, b0.length + m = z := ⟨_, rfl⟩
    obtain ⟨ia, ic, e1⟩ := hway.wk.ids.shape
    obtain ⟨aa, ac, e2⟩ := hway.wk.back.shape
    rw [idsOf_len, hm] at e1
    rw [List.length_map, chOf_len, hm, hz] at e2
    subst e1 e2
    have CH := Lib.hid (HHO.out.call D (n, chOf b0 k) F wr ia m ic aa z ac hway.i ⟨_, by rw [hE, ev_kids hnl]; rfl⟩ hmo hway.wk.k0 hway.k.size (by rw [ids_drop]; exact hway.wk.ids) (hway.wk.back.toIn hway.wk.k0))
    simp only at CH
    have hent := HHO.out.enter
    clear hway hE hmo hrel
    go_wp2_with fail
    refine CH.out.mono ?_
    rintro e w2 ⟨F', rfl, hI', hF', kF⟩
    have HW2 := Lib.hid (HWy.out.hand HHO.out hI' hF' kF)
    have HEk := Lib.hid (show evL fs l 0 b0 = (D ++ [(n, chOf b0 k)]) ++ (kidsAt fs l n (chOf b0 k) 0 ++ todo fs l b0 k) from by rw [HE.out, ev_kids hnl, List.append_assoc]; rfl)
    have HRk := Lib.hid (show R = 1 + (kidsAt fs l n (chOf b0 k) 0 ++ todo fs l b0 k).length from by rw [hR, ev_kids hnl, List.cons_append, List.length_cons]; omega)
    clear hI' hF' kF CH y2 y3 y4 hent hR
    cases hb : more (n, chOf b0 k)
    · have HB := Lib.hid hb
      clear hb
      go_wp2_with fail
      have hU : upto more (evL fs l 0 b0) = D ++ [(n, chOf b0 k)] := by
        rw [HE.out, ev_kids hnl]
        exact upto_stop HB.out HMo.out
      exact ⟨rfl, .tuple #[], by simp [results, Try.results38, go_sem], rfl, F', by rw [hU]; exact HW2.out.i, HW2.out.f0, HW2.out.k⟩
    have HMo2 : Hid (∀ x ∈ D ++ [(n, chOf b0 k)], more x = true) := Lib.hid fun x hx => by
      rcases List.mem_append.1 hx with hx | hx
      · exact HMo.out x hx
      · rw [List.mem_singleton.1 hx]; exact hb
    generalize hD2 : D ++ [(n, chOf b0 k)] = D2 at HW2 HEk HMo2
    clear hD2 hb HMo HE
    rename World => wo
    go_wp2_with fail
    go_loopw [] (fun wr => ∃ r, LeftIn W0 w w.heap.size (.slice fa fn fc) (.slice a len cap) b0 fs l I F0 D2 wr r) (fun wr => least (LeftIn W0 w w.heap.size (.slice fa fn fc) (.slice a len cap) b0 fs l I F0 D2 wr))
    case atStart => exact ⟨_, F', G, n, k, 0, _, _, _, HW2.out, HEk.out, rfl⟩
    case round =>
      have hJ := least_is hrel
      generalize least (LeftIn W0 w w.heap.size (.slice fa fn fc) (.slice a len cap) b0 fs l I F0 D2 wr) = R2 at hJ ⊢
      obtain ⟨F2, G2, n2, k2, u2, iv2, bv2, hv2, hway, hE2, hR2⟩ := hJ
      have HWy2 := Lib.hid hway
      have HE2 := Lib.hid hE2
      have HR2 := Lib.hid hR2
      have CG := Lib.hid (goOn_any fs l hl hg GO k2 wr hway.wk HF.out HH.out hfn (by rw [← HF.out.1]; exact hway.un) (by rw [hbl]; exact hcnt) hway.wf (by rw [← hl]; exact hway.nl) hway.u0)
      have CB := Lib.hid (fun W (kW : Kept Nil wr W) => goBack_any k2 W (hway.wk.keptN kW) (by have := hway.wf.len; have := hway.nl; have := length_cntL l; omega) (by omega) (wf_small (by rw [HF.out.1]; exact hfn) hway.wf))
      unfold GoOnEnd at CG
      clear hway hE2 hR2 hrel
      go_wp2_with fail
      refine CG.out.mono ?_
      rintro e w3 (⟨n3, k3, rfl, kG, ⟨iv3, bv3, hv3, hWk⟩, hwf, hnl3, hev⟩ | ⟨rfl, kN, hnil⟩)
      · have HW3 := Lib.hid (HWy2.out.on HHO.out kG hWk hwf hnl3 (Nat.zero_le _) (fun _ _ _ => rfl))
        have HE3 := Lib.hid (HE2.out.trans (by rw [hev]))
        have HR3 := Lib.hid (show (evL fs (l.drop n3) n3 (chOf b0 k3) ++ todo fs l b0 k3).length < R from by
          have h1 := congrArg List.length HEk.out
          have h2 := congrArg List.length HE3.out
          rw [List.length_append] at h1 h2
          have := HRk.out
          omega)
        clear kG hWk hwf hnl3 hev CG CB
        go_wp2_with fail
        go_roundw
        case rel => exact ⟨_, D2, F2, _, n3, k3, iv3, bv3, hv3, HW3.out, HMo2.out, HE3.out, rfl⟩
        case measure => exact Nat.lt_of_le_of_lt (least_le ⟨D2, F2, _, n3, k3, iv3, bv3, hv3, HW3.out, HMo2.out, HE3.out, rfl⟩) HR3.out
      · have HW3 := Lib.hid (HWy2.out.onN HHO.out kN)
        have HN := Lib.hid hnil
        have CB3 := Lib.hid (CB.out w3 kN)
        clear kN hnil CG CB
        rcases k2 with _ | ⟨⟨s, i, f⟩, r⟩
        · unfold BackEnd at CB3
          go_wp2_with fail
          refine CB3.out.mono ?_
          rintro e w4 ⟨rfl, k4⟩
          have HW4 := Lib.hid (HW3.out.onN HHO.out k4)
          clear k4 CB3
          go_wp2_with fail
          have hU : upto more (evL fs l 0 b0) = D2 := by
            have : evL fs l 0 b0 = D2 := by rw [HE2.out, HN.out]; simp [todo]
            rw [this]
            exact upto_all HMo2.out
          exact bodyPost_ret (v := .tuple #[]) (by simp [results, Try.results38, go_sem]) rfl ⟨rfl, F2, by rw [hU]; exact HW4.out.i, HW4.out.f0, HW4.out.k⟩
        · unfold BackEnd at CB3
          go_wp2_with fail
          refine CB3.out.mono ?_
          rintro e w4 ⟨rfl, kG, iv4, bv4, hv4, hWk⟩
          have hwf := HW3.out.wf
          obtain ⟨h1, ⟨st, h2, h2k⟩, h3, h4⟩ := hwf
          have hsn : s ≤ l.length := Nat.le_of_lt (List.getElem?_eq_some_iff.1 h2).1
          have HW4 := Lib.hid (HW3.out.on HHO.out kG hWk h4 hsn (List.getElem?_eq_some_iff.1 h3).1 (fun x hx hne => by
            have e2 : l[s]? = some st := h2
            rw [hx] at e2
            cases e2
            exact absurd h2k hne))
          have HE4 := Lib.hid (show evL fs l 0 b0 = D2 ++ (kidsAt fs l s (chOf b0 r) (i + 1) ++ todo fs l b0 r) from by rw [HE2.out, HN.out]; rfl)
          clear kG hWk h1 h2 h2k h3 h4 CB3
          go_wp2_with fail
          go_roundw
          case rel => exact ⟨_, F2, _, s, r, i + 1, iv4, bv4, hv4, HW4.out, HE4.out, rfl⟩
          case measure =>
            refine Nat.lt_of_le_of_lt (least_le ⟨F2, _, s, r, i + 1, iv4, bv4, hv4, HW4.out, HE4.out, rfl⟩) ?_
            rw [HR2.out]
            exact Nat.lt_succ_self _
end
section
open Go.RowKit
set_option maxRecDepth 100000

/-- All steps are there. -/
def fullE (len : Nat) (e : Ev) : Bool := e.1 == len
/-- What the closure of goesOn keeps. -/
structure GoI (a : Option Addr) (len cap q : Nat) (D : List Ev) (F : Nat → Prop) (w : World) : Prop where
  f : ∀ b, F b ↔ b = q + 1
  bc : Blk w q 37 #[.slice a len cap]
  bf : Blk w (q + 1) 4 #[.bool (D.any (fullE len))]
set_option maxHeartbeats 2000000 in
theorem goesClo_any {a : Option Addr} {len cap q : Nat} {D : List Ev} (e : Ev) {F : Nat → Prop} (w : World) (h : GoI a len cap q D F w) (hD : ∀ x ∈ D, (!fullE len x) = true) (iv bv : Value) :
    Calls Try.prog 64 #[.agg #[.int .i64 (e.1 : Int), iv, bv], .pointer (some ⟨q, 0, none⟩), .pointer (some ⟨q + 1, 0, none⟩)] w fun o w' => ∃ F', o = .returned (.bool (!fullE len e)) ∧ GoI a len cap q (D ++ [e]) F' w' ∧ (∀ b, F' b → F b ∨ w.heap.size ≤ b) ∧ Kept F w w' := by
  have HI := Lib.hid h
  have c0 := h.bc.cell 0
  have d0 := h.bf.cell 0
  have hq1 := h.bf.lt
  have hq : q < w.heap.size := by omega
  have fz := h.bf.frozen 0
  simp at c0 d0
  have hDf : D.any (fullE len) = false := by
    rw [Bool.eq_false_iff]
    intro hx
    obtain ⟨x, hx1, hx2⟩ := List.any_eq_true.1 hx
    have := hD x hx1
    rw [hx2] at this; cases this
  have HD := Lib.hid hDf
  obtain ⟨n, ch⟩ := e
  have HV := Lib.hid (show fullE len (n, ch) = decide ((n : Int) = (len : Int)) from by unfold fullE; rw [Bool.eq_iff_iff]; simp; omega)
  simp only
  clear h hDf hD
  obtain ⟨q1, hq1e⟩ : ∃ q1, q + 1 = q1 := ⟨_, rfl⟩
  rw [hq1e] at d0 fz hq1 ⊢
  have HQ := Lib.hid hq1e
  clear hq1e
  go_enter Try.func64, Try.ntmps64
  go_wp2_with fail
  go_ret
  have hE : ((n : Int) == (len : Int)) = fullE len (n, ch) := by rw [HV.out]; rfl
  rw [hE]
  have kS : Kept F w ((w.setCell ⟨q1, 0, none⟩ (.bool (fullE len (n, ch)))).alloc (.cells #[.int .i64 (n : Int), iv, bv] 85)) := ((Kept.refl F w).setCell _ (.inl ((HI.out.f q1).2 HQ.out.symm)) _).alloc _
  refine ⟨F, rfl, ⟨HI.out.f, ?_, ?_⟩, fun b hb => .inl hb, kS⟩
  · exact HI.out.bc.kept kS (fun e => by have := (HI.out.f q).1 e; omega)
  · have h1 := HI.out.bf
    rw [HQ.out] at h1 ⊢
    have := (h1.set_ 0 (.bool (fullE len (n, ch)))).alloc (.cells #[.int .i64 (n : Int), iv, bv] 85)
    rw [List.any_append, HD.out, Bool.false_or]
    simpa using this
theorem enter_of {P : Program} {f : FuncId} {fn : Func} (hf : P.funcs[f]? = some fn) (h1 : fn.name ≠ "runtime.NumGoroutine") (h2 : fn.body.isNone = false) (args : Array Value) (w : World) : (callFunc f args).run P w = .ok (.enter f args) w := by
  have h3 : fn.body ≠ none := fun e => by rw [e] at h2; cases h2
  simp [callFunc, go_sem, hf, h1, h3]
set_option maxHeartbeats 4000000 in
/-- goesOn, where it does what it does with the Subs of the steps. -/
theorem goes_step (fs : List F4) (hfs : fs.length ≤ 1000) (l : List St) (hg : ∀ x ∈ l, x.goodS) (GO : ∀ x ∈ l, x.hd.k = 3 → GoesOK fs x.subs) : GoesOK fs l := by
  intro b0 fa fn fc a cap ba bn bc w hF hH hB hba hbc _ hcnt
  obtain ⟨len, hl⟩ : ∃ len, l.length = len := ⟨_, rfl⟩
  obtain ⟨q, hq⟩ : ∃ q, w.heap.size = q := ⟨_, rfl⟩
  rw [hl] at hH ⊢
  have hw0 : (w.alloc (.cells #[.slice a len cap] 37)).heap.size = q + 1 := by rw [← hq]; simp
  have k1 : Kept Nil w ((w.alloc (.cells #[.slice a len cap] 37)).alloc (.cells #[.bool false] 4)) := ((Kept.refl Nil w).alloc _).alloc _
  have hsz : ((w.alloc (.cells #[.slice a len cap] 37)).alloc (.cells #[.bool false] 4)).heap.size = q + 1 + 1 := by rw [← hq]; simp
  have hB1 : Blk ((w.alloc (.cells #[.slice a len cap] 37)).alloc (.cells #[.bool false] 4)) q 37 #[.slice a len cap] := by rw [← hq]; exact (Blk.new w _ _).alloc _
  have hB2 : Blk ((w.alloc (.cells #[.slice a len cap] 37)).alloc (.cells #[.bool false] 4)) (q + 1) 4 #[.bool false] := by rw [← hw0]; exact Blk.new _ _ _
  have hkd : ∀ x ∈ l, kindS x := fun x hx => (hg x hx).kind
  have CBg := Lib.hid (fun W (hW : W = (w.alloc (.cells #[.slice a len cap] 37)).alloc (.cells #[.bool false] 4)) => beg_any (W0 := w) (b0 := b0) (fs := fs) (l := l) (fa := fa) (fn := fn) (fc := fc) (a := a) (len := len) (cap := cap) (ba := ba) (bn := bn) (bc := bc) (hn := 64) (caps := #[.pointer (some ⟨q, 0, none⟩), .pointer (some ⟨q + 1, 0, none⟩)]) (more := fun e => !fullE len e) (I := GoI a len cap q) (F0 := fun b => b = q + 1) W (by rw [hW]; exact k1) hl hg GO hF hH hB hba hbc (by rw [← hF.1]; exact hfs) hcnt
    ⟨enter_of (by rfl) (by decide) (by kernel_rfl), fun D F v hI b hb => ⟨by have := (hI.f b).1 hb; omega, by rw [(hI.f b).1 hb]; exact hI.bf.lt⟩, fun D F v v' G hI kG hG => ⟨hI.f, hI.bc.kept kG (fun e => by have := (hG q e).1; rw [hW, hsz] at this; omega), hI.bf.kept kG (fun e => (hG _ e).2 ((hI.f _).2 rfl))⟩,
      fun D e F v ia ni ic ba' nb bc' hI _ hD _ _ _ _ => goesClo_any e v hI hD _ _⟩
    ⟨fun _ => Iff.rfl, by rw [hW]; exact hB1, by rw [hW]; exact hB2⟩)
  have HE := Lib.hid ((upto_any (p := fullE len) (evL fs l 0 b0)).trans ((by rw [← hl]; exact ev_any hkd b0 : (evL fs l 0 b0).any (fullE len) = !(smL fs l b0).isEmpty)))
  have HK1 := Lib.hid k1
  clear hF hH hB GO hg hB1 hB2 k1 hsz hkd hw0
  subst hq
  go_enter Try.func43, Try.ntmps43
  go_wp2_with fail
  refine (CBg.out _ rfl).mono ?_
  rintro e w2 ⟨rfl, F', hI, hF', k2⟩
  have d0 := hI.bf.cell 0
  have hqw := hI.bf.lt
  rw [HE.out] at d0
  simp at d0
  have HK2 := Lib.hid k2
  clear hI hF' k2 CBg
  go_wp2_with fail
  go_ret
  refine ⟨rfl, HK1.out.trans HK2.out (fun i hi e => ?_)⟩
  omega
/-- goesOn tells whether there is a match. -/
theorem goes_all (fs : List F4) (hfs : fs.length ≤ 1000) : (∀ s : St, s.goodS → GoesOK fs s.subs) ∧ ∀ l : List St, (∀ x ∈ l, x.goodS) → (∀ x ∈ l, GoesOK fs x.subs) := by
  refine St.ind2 (fun h subs ih hg => ?_) (fun _ x hx => (by cases hx)) (fun a l ha hl hg x hx => ?_)
  · have hs := (goodS_mk.1 hg).2.2.2
    exact goes_step fs hfs subs hs fun x hx _ => ih hs x hx
  · rcases List.mem_cons.1 hx with rfl | hx
    · exact ha (hg x List.mem_cons_self)
    · exact hl (fun y hy => hg y (List.mem_cons_of_mem _ hy)) x hx
theorem goes_ok (fs : List F4) (hfs : fs.length ≤ 1000) (l : List St) (hg : ∀ x ∈ l, x.goodS) : GoesOK fs l := goes_step fs hfs l hg fun x hx _ => (goes_all fs hfs).2 l hg x hx
end
section
open Go.RowKit
set_option maxRecDepth 100000

/-- To what matches are handed on. -/
structure HandM (W0 : World) (B1 : Nat) (Ms : List (List F4)) (hn : FuncId) (caps : Array Value) (I : List (List F4) → (Nat → Prop) → World → Prop) : Prop where
  enter : ∀ args w, (callFunc hn args).run Try.prog w = .ok (.enter hn args) w
  lt : ∀ D F w, I D F w → ∀ b, F b → W0.heap.size ≤ b ∧ b < w.heap.size
  stable : ∀ D F w w' G, I D F w → Kept G w w' → (∀ b, G b → B1 ≤ b ∧ ¬ F b) → I D F w'
  call : ∀ D ch F w (s : Int) ia ni ic ba nb bc, I D F w → (∃ r, Ms = D ++ ch :: r) → Kept Nil W0 w → B1 ≤ w.heap.size → Row cN 3 1 w B1 (.slice ia ni ic) (ch.map Prod.fst) → In cT3 3 w ba nb (ch.map Prod.snd) →
    Calls Try.prog hn (#[.agg #[.int .i64 s, .slice ia ni ic, .slice ba nb bc]] ++ caps) w fun o w' => ∃ F', o = .returned (.tuple #[]) ∧ I (D ++ [ch]) F' w' ∧ (∀ b, F' b → F b ∨ w.heap.size ≤ b) ∧ Kept F w w'
/-- The matches, with their facts. -/
def matchE (fs : List F4) (l : List St) : List (List F4) := ((evL fs l 0 []).filter (fullE l.length)).map Prod.snd
theorem matchE_sm {fs : List F4} {l : List St} (hg : ∀ x ∈ l, kindS x) : (matchE fs l).map (fun ch => ch.map Prod.fst) = smL fs l [] := by
  rw [← ev_all hg [], matchE, List.map_map]; rfl
/-- What the closure of eachMatch keeps. -/
structure MaI (I : List (List F4) → (Nat → Prop) → World → Prop) (a : Option Addr) (len cap q : Nat) (hv : Value) (D : List Ev) (F : Nat → Prop) (w : World) : Prop where
  i : I ((D.filter (fullE len)).map Prod.snd) F w
  bc : Blk w q 37 #[.slice a len cap]
  bh : Blk w (q + 1) 87 #[hv]
  n0 : ¬ F q
  n1 : ¬ F (q + 1)
set_option maxHeartbeats 4000000 in
theorem matchClo_any {W0 : World} {B1 : Nat} {fs : List F4} {l : List St} {hn : FuncId} {caps : Array Value} {I : List (List F4) → (Nat → Prop) → World → Prop} (HM : HandM W0 B1 (matchE fs l) hn caps I) {a : Option Addr} {len cap q : Nat} (hl : l.length = len) {D : List Ev} (e : Ev) (hE : ∃ r, evL fs l 0 [] = D ++ e :: r) {F : Nat → Prop} (w : World) (h : MaI I a len cap q (.func (.func hn) #[] caps) D F w) (k0 : Kept Nil W0 w) (hB : B1 ≤ w.heap.size) (ia : Option Addr) (ni ic : Nat) (ba : Option Addr) (nb bc : Nat) (hi : Row cN 3 1 w B1 (.slice ia ni ic) (e.2.map Prod.fst)) (hb : In cT3 3 w ba nb (e.2.map Prod.snd)) :
    Calls Try.prog 55 #[.agg #[.int .i64 (e.1 : Int), .slice ia ni ic, .slice ba nb bc], .pointer (some ⟨q, 0, none⟩), .pointer (some ⟨q + 1, 0, none⟩)] w fun o w' => ∃ F', o = .returned (.bool true) ∧ MaI I a len cap q (.func (.func hn) #[] caps) (D ++ [e]) F' w' ∧ (∀ b, F' b → F b ∨ w.heap.size ≤ b) ∧ Kept F w w' := by
  have HI := Lib.hid h
  obtain ⟨n, ch⟩ := e
  have kA : Kept Nil w (w.alloc (.cells #[.int .i64 (n : Int), .slice ia ni ic, .slice ba nb bc] 85)) := (Kept.refl Nil w).alloc _
  have hI1 : I ((D.filter (fullE len)).map Prod.snd) F (w.alloc (.cells #[.int .i64 (n : Int), .slice ia ni ic, .slice ba nb bc] 85)) := HM.stable _ _ _ _ Nil h.i kA (fun _ e => e.elim)
  have CH : Hid (fullE len (n, ch) = true → Calls Try.prog hn (#[.agg #[.int .i64 (n : Int), .slice ia ni ic, .slice ba nb bc]] ++ caps) (w.alloc (.cells #[.int .i64 (n : Int), .slice ia ni ic, .slice ba nb bc] 85)) fun o w' => ∃ F', o = .returned (.tuple #[]) ∧ I ((D.filter (fullE len)).map Prod.snd ++ [ch]) F' w' ∧ (∀ b, F' b → F b ∨ (w.alloc (.cells #[.int .i64 (n : Int), .slice ia ni ic, .slice ba nb bc] 85)).heap.size ≤ b) ∧ Kept F (w.alloc (.cells #[.int .i64 (n : Int), .slice ia ni ic, .slice ba nb bc] 85)) w') := Lib.hid fun hf => by
    obtain ⟨r, hr⟩ := hE
    refine HM.call _ ch F _ (n : Int) ia ni ic ba nb bc hI1 ⟨(r.filter (fullE len)).map Prod.snd, ?_⟩ (k0.trans kA (fun _ _ e => e)) (Nat.le_trans hB kA.size) (hi.keptN kA) (hb.kept kA)
    unfold matchE
    rw [hl, hr, List.filter_append, List.filter_cons_of_pos hf, List.map_append, List.map_cons]
  have c0 := h.bc.cell 0
  have d0 := h.bh.cell 0
  have hq1 := h.bh.lt
  have hq : q < w.heap.size := by omega
  have hent := HM.enter
  simp at c0 d0
  have KA := Lib.hid kA
  have HI1 := Lib.hid hI1
  have HV := Lib.hid (show fullE len (n, ch) = decide ((n : Int) = (len : Int)) from by unfold fullE; rw [Bool.eq_iff_iff]; simp; omega)
  simp only
  clear h hI1 kA HM hE hi hb hB k0
  obtain ⟨q1, hq1e⟩ : ∃ q1, q + 1 = q1 := ⟨_, rfl⟩
  rw [hq1e] at d0 hq1 ⊢
  have HQ := Lib.hid hq1e
  clear hq1e
  by_cases hf : n = len
  · subst hf
    have hft : fullE n (n, ch) = true := by unfold fullE; simp
    have HFt := Lib.hid hft
    have CH2 := Lib.hid (CH.out hft)
    clear CH hft HV
    go_enter Try.func55, Try.ntmps55
    go_wp2_with fail
    refine CH2.out.mono ?_
    rintro e w2 ⟨F', rfl, hI2, hF2, k2⟩
    have HI2 := Lib.hid (And.intro hI2 (And.intro hF2 k2))
    clear hI2 hF2 k2 CH2
    go_wp2_with fail
    go_ret
    obtain ⟨hI2, hF2, k2⟩ := HI2.out
    have kk : Kept F w w2 := (KA.out.mono (fun _ _ e => e.elim)).trans k2 (fun _ _ e => e)
    refine ⟨F', rfl, ⟨?_, HI.out.bc.kept kk HI.out.n0, HI.out.bh.kept kk HI.out.n1, fun e => ?_, fun e => ?_⟩, fun b hb => (hF2 b hb).imp id (fun e => Nat.le_trans KA.out.size e), kk⟩
    · rw [List.filter_append, List.map_append, List.filter_cons_of_pos HFt.out]; exact hI2
    · rcases hF2 _ e with e | e
      · exact HI.out.n0 e
      · have := KA.out.size; omega
    · rcases hF2 _ e with e | e
      · exact HI.out.n1 e
      · have := KA.out.size; have := HQ.out; omega
  · have hne : ((n : Int) == (len : Int)) = false := by simp; omega
    have hff : fullE len (n, ch) = false := by rw [HV.out]; exact decide_eq_false (by omega)
    have HFf := Lib.hid hff
    clear CH hff HV hent
    go_enter Try.func55, Try.ntmps55
    go_wp2_with fail
    go_ret
    have kk : Kept F w _ := KA.out.mono (fun _ _ e => e.elim)
    refine ⟨F, rfl, ⟨?_, HI.out.bc.kept kk HI.out.n0, HI.out.bh.kept kk HI.out.n1, HI.out.n0, HI.out.n1⟩, fun b hb => .inl hb, kk⟩
    rw [List.filter_append, List.map_append, List.filter_cons_of_neg (by rw [HFf.out]; decide)]
    simpa using HI1.out
set_option maxHeartbeats 4000000 in
theorem match_any {W0 : World} {fs : List F4} {l : List St} {fa : Option Addr} {fn fc : Nat} {a : Option Addr} {len cap : Nat} {hn : FuncId} {caps : Array Value} {I : List (List F4) → (Nat → Prop) → World → Prop} {F0 : Nat → Prop} (w : World) (k0 : Kept Nil W0 w)
    (hl : l.length = len) (hg : ∀ x ∈ l, x.goodS) (hF : In cF 4 W0 fa fn fs) (hH : SHolds W0 Any2 (.slice a len cap) l) (hfn : fn ≤ 1000) (hcnt : cntL l ≤ 1000)
    (HM : HandM W0 w.heap.size (matchE fs l) hn caps I) (hI : I [] F0 w) :
    Calls Try.prog 32 #[.slice fa fn fc, .slice a len cap, .func (.func hn) #[] caps] w fun e w' => e = .returned (.tuple #[]) ∧ ∃ F', I (matchE fs l) F' w' ∧ (∀ b, F' b → F0 b ∨ w.heap.size ≤ b) ∧ Kept F0 w w' := by
  have hw0 : (w.alloc (.cells #[.slice a len cap] 37)).heap.size = w.heap.size + 1 := by simp
  have k1 : Kept Nil w ((w.alloc (.cells #[.slice a len cap] 37)).alloc (.cells #[.func (.func hn) #[] caps] 87)) := ((Kept.refl Nil w).alloc _).alloc _
  have hsz : ((w.alloc (.cells #[.slice a len cap] 37)).alloc (.cells #[.func (.func hn) #[] caps] 87)).heap.size = w.heap.size + 1 + 1 := by simp
  have hB1 : Blk ((w.alloc (.cells #[.slice a len cap] 37)).alloc (.cells #[.func (.func hn) #[] caps] 87)) w.heap.size 37 #[.slice a len cap] := (Blk.new w _ _).alloc _
  have hB2 : Blk ((w.alloc (.cells #[.slice a len cap] 37)).alloc (.cells #[.func (.func hn) #[] caps] 87)) (w.heap.size + 1) 87 #[.func (.func hn) #[] caps] := by rw [← hw0]; exact Blk.new _ _ _
  have CBg := Lib.hid (fun W (hW : W = (w.alloc (.cells #[.slice a len cap] 37)).alloc (.cells #[.func (.func hn) #[] caps] 87)) => beg_any (W0 := W0) (b0 := []) (fs := fs) (l := l) (fa := fa) (fn := fn) (fc := fc) (a := a) (len := len) (cap := cap) (ba := none) (bn := 0) (bc := 0) (hn := 55) (caps := #[.pointer (some ⟨w.heap.size, 0, none⟩), .pointer (some ⟨w.heap.size + 1, 0, none⟩)]) (more := fun _ => true) (I := MaI I a len cap w.heap.size (.func (.func hn) #[] caps)) (F0 := F0) W (by rw [hW]; exact k0.trans k1 (fun _ _ e => e)) hl hg (fun x hx _ => (goes_all fs (by rw [hF.1]; exact hfn)).2 l hg x hx) hF hH ⟨rfl, .inl rfl⟩ (.inr rfl) (Nat.le_refl _) hfn (by omega)
    ⟨enter_of (by rfl) (by decide) (by kernel_rfl), fun D F v hI b hb => HM.lt _ _ _ hI.i b hb, fun D F v v' G hI kG hG => ⟨HM.stable _ _ _ _ G hI.i kG (fun b hb => ⟨by have := (hG b hb).1; rw [hW, hsz] at this; omega, (hG b hb).2⟩), hI.bc.kept kG (fun e => by have := (hG _ e).1; rw [hW, hsz] at this; omega), hI.bh.kept kG (fun e => by have := (hG _ e).1; rw [hW, hsz] at this; omega), hI.n0, hI.n1⟩,
      fun D e F v ia ni ic ba' nb bc' hI hE _ kv hBv hi hb => by
        have := matchClo_any HM hl e hE v hI kv (by rw [hW, hsz] at hBv; omega) ia ni ic ba' nb bc' (hi.down (by rw [hW, hsz]; omega)) hb
        exact this⟩
    ⟨by rw [hW]; exact HM.stable _ _ _ _ Nil hI k1 (fun _ e => e.elim), by rw [hW]; exact hB1, by rw [hW]; exact hB2, fun e => by have := (HM.lt _ _ _ hI _ e).2; omega, fun e => by have := (HM.lt _ _ _ hI _ e).2; omega⟩)
  have HU := Lib.hid (upto_all (more := fun _ => true) (E := evL fs l 0 []) (fun _ _ => rfl))
  have HK1 := Lib.hid k1
  have HL := Lib.hid hl
  clear hF hH hB1 hB2 k1 hsz hw0 hg hI HM
  go_enter Try.func32, Try.ntmps32
  go_wp2_with fail
  refine (CBg.out _ rfl).mono ?_
  rintro e w2 ⟨rfl, F', hI2, hF2, k2⟩
  have H2 := Lib.hid (And.intro hI2 (And.intro hF2 k2))
  clear hI2 hF2 k2 CBg
  go_wp2_with fail
  obtain ⟨hI2, hF2, k2⟩ := H2.out
  rw [HU.out] at hI2
  refine ⟨rfl, .tuple #[], by simp [results, Try.results32, go_sem], rfl, F', ?_, fun b hb => (hF2 b hb).imp id (fun e => Nat.le_trans HK1.out.size e), (HK1.out.mono (fun _ _ e => e.elim)).trans k2 (fun _ _ e => e)⟩
  have := hI2.i
  rw [← HL.out] at this
  exact this
end
section
open Go.RowKit
set_option maxRecDepth 100000

set_option maxHeartbeats 2000000 in
theorem rightPClo_any (h : SH) (sb : List St) (hok : (St.mk h sb).okS) (ta : Option Addr) (tn tc : Nat) (htn : h.ts.length = tn) (ua : Option Addr) (un uc : Nat) (hun : sb.length = un) (w : World) (ht : TsAt w Any2 (.slice ta tn tc) h.ts) (hu : SHolds w Any2 (.slice ua un uc) sb) :
    Calls Try.prog 53 #[vS h (.slice ta tn tc) (.slice ua un uc)] w fun e w' => e = .returned (.bool false) ∧ Kept Nil w w' := by
  subst htn hun
  have K0 := Lib.hid ((Kept.refl Nil w).alloc (.cells (arrS h (.slice ta h.ts.length tc) (.slice ua sb.length uc)) 59))
  have CR := Lib.hid (stRight_any (.mk h sb) (by have := hok.mass; omega) Any2 ta tc ua uc _ (ht.keptN K0.out) (hu.keptN K0.out))
  rw [show (St.mk h sb).right = true from hok.2] at CR
  obtain ⟨k, k0, k1, k2, ts⟩ := h
  generalize hh : sb.length = un at *
  simp only [St.hd, St.subs] at CR
  rw [hh] at CR
  clear ht hu hok hh
  generalize ts.length = tn at *
  simp only [arrS] at K0 CR
  go_enter Try.func53, Try.ntmps53
  go_wp2_with fail
  refine CR.out.mono ?_
  rintro e w2 ⟨rfl, k2'⟩
  go_wp2_with fail
  go_ret
  exact ⟨rfl, K0.out.trans k2' (fun _ _ g => g)⟩
set_option maxHeartbeats 4000000 in
theorem rightPIdx_any (l : List St) (hok : ∀ x ∈ l, x.okS) (a : Option Addr) (len cap : Nat) (hl : l.length = len) (hl5 : len ≤ 5000) (w : World) (hH : SHolds w Any2 (.slice a len cap) l) :
    Calls Try.prog 65 #[.slice a len cap, .func (.func 53) #[] #[]] w fun e w' => e = .returned (.int .i64 (-1)) ∧ Kept Nil w w' := by
  have HH := Lib.hid hH
  have HOk := Lib.hid hok
  have HL := Lib.hid hl
  clear hH hok hl
  go_enter Try.func65, Try.ntmps65
  go_wp2_with fail
  go_loopw [5, 8] (fun _ i wr => ∃ j : Nat, j ≤ len ∧ i = .int .i64 j ∧ Kept Nil w wr) (fun _ i _ => len - (intOf i).toNat)
  case atStart => exact ⟨0, by omega, rfl, Kept.refl _ _⟩
  case round =>
    obtain ⟨j, hj, rfl, hK⟩ := hrel
    have HK := Lib.hid hK
    clear hK
    by_cases hlt : j < len
    · obtain ⟨⟨⟨k, k0, k1, k2, ts⟩, sb⟩, hx⟩ : ∃ x, l[j]? = some x := ⟨_, List.getElem?_eq_getElem (by rw [HL.out]; exact hlt)⟩
      obtain ⟨b, o, ta, tc, ua, uc, rfl, _, hr, ht, hs⟩ := (HH.out.keptN HK.out).at_ hx
      have CX := Lib.hid (rightPClo_any ⟨k, k0, k1, k2, ts⟩ sb (HOk.out _ (List.mem_of_getElem? hx)) ta _ tc rfl ua _ uc rfl wr ht hs)
      have c0 := hr 0 _ rfl
      have c1 := hr 1 _ rfl
      have c2 := hr 2 _ rfl
      have c3 := hr 3 _ rfl
      have c4 := hr 4 _ rfl
      have c5 := hr 5 _ rfl
      simp only [Nat.add_zero] at c0 c1 c2 c3 c4 c5
      simp only at CX
      generalize ts.length = tn at *
      generalize sb.length = un at *
      clear hx hr ht hs
      go_wp2_with fail
      refine CX.out.mono ?_
      rintro e w2 ⟨rfl, k2'⟩
      have K2 := Lib.hid (HK.out.trans k2' (fun _ _ g => g))
      clear k2'
      go_wp2_with fail
      go_roundw
      case rel => exact ⟨j + 1, by omega, by go_num, K2.out⟩
      case measure => simp [intOf]; omega
    · obtain rfl : j = len := by omega
      go_wp2_with fail
      go_ret
      exact ⟨rfl, HK.out⟩
set_option maxHeartbeats 2000000 in
theorem rightPCont_any (fv gv : Value) (w : World) (C : Calls Try.prog 65 #[fv, gv] w fun e w' => e = .returned (.int .i64 (-1)) ∧ Kept Nil w w') :
    Calls Try.prog 52 #[fv, gv] w fun e w' => e = .returned (.bool false) ∧ Kept Nil w w' := by
  have C := Lib.hid C
  go_enter Try.func52, Try.ntmps52
  go_wp2_with fail
  refine C.out.mono ?_
  rintro e w2 ⟨rfl, k2⟩
  go_wp2_with fail
  go_ret
  exact ⟨rfl, k2⟩
set_option maxHeartbeats 2000000 in
theorem rightP_any (l : List St) (hok : ∀ x ∈ l, x.okS) (a : Option Addr) (len cap : Nat) (hl : l.length = len) (hl5 : len ≤ 5000) (w : World) (hH : SHolds w Any2 (.slice a len cap) l) :
    Calls Try.prog 31 #[.slice a len cap] w fun e w' => e = .returned (.bool true) ∧ Kept Nil w w' := by
  have C := Lib.hid (rightPCont_any _ _ w (rightPIdx_any l hok a len cap hl hl5 w hH))
  clear hH hok hl
  go_enter Try.func31, Try.ntmps31
  go_wp2_with fail
  refine C.out.mono ?_
  rintro e w2 ⟨rfl, k2⟩
  go_wp2_with fail
  go_ret
  exact ⟨rfl, k2⟩
end
section
open Go.RowKit
set_option maxRecDepth 100000

set_option maxHeartbeats 2000000 in
theorem cloneI_any (l : List Int) (hl : l.length ≤ 5000) (B : Nat) (a : Option Addr) (n c : Nat) (w : World) (h : Row cN 3 1 w B (.slice a n c) l) :
    Calls Try.prog 34 #[.slice a n c] w fun e w' => ∃ a' c', e = .returned (.slice a' n c') ∧ Row cN 3 1 w' w.heap.size (.slice a' n c') l ∧ Kept Nil w w' := by
  obtain ⟨hn, _, _⟩ := h.caps
  have hI := h.toIn cN_len (by decide)
  rcases h.2 with ⟨e1, e2⟩ | ⟨g, cap, cur, e1, _⟩
  · cases e1
    obtain rfl := List.length_eq_zero_iff.1 e2
    have hnil : ∀ W : World, (binOp .eql 49 (.slice none 0 0) (.slice none 0 0)).run Try.prog W = .ok (.bool true) W := fun W => Lib.run_eql_slice_nil W _ _ _ _ _ _ _ Try.underlying49
    clear h hI hn
    go_enter Try.func34, Try.ntmps34
    go_wp2_with fail
    go_ret
    exact ⟨none, 0, rfl, Row.nil _ _, Kept.refl _ _⟩
  · have ea : a = some ⟨g, 0, none⟩ := by injection e1
    subst ea
    clear e1
    have kA : Kept Nil w (w.alloc (.cells #[] 3)) := (Kept.refl Nil w).alloc _
    have o0 : Row cN 3 1 (w.alloc (.cells #[] 3)) w.heap.size (.slice (some ⟨w.heap.size, 0, none⟩) 0 0) [] := ⟨rfl, .inr ⟨w.heap.size, 0, #[], rfl, Nat.le_refl _, Blk.new w _ _, Nat.le_refl _, by decide, rfl, rfl⟩⟩
    obtain ⟨a2, c2, w2, r2, o2, k2, _⟩ := o0.pushAll (w := w) elsI1 cN_len cN_one (by decide) 49 kA rfl (by simp) (c2 := c) (hI.kept kA) hl
    rw [Nat.zero_add] at r2 o2
    have R2 := Lib.hid r2
    have O2 := Lib.hid o2
    have K2 := Lib.hid k2
    have hnil : ∀ W : World, (binOp .eql 49 (.slice (some ⟨g, 0, none⟩) n c) (.slice none 0 0)).run Try.prog W = .ok (.bool false) W := fun W => Lib.run_eql_slice_nil W _ _ _ _ _ _ _ Try.underlying49
    clear r2 o2 k2 o0 kA h hI hn
    go_enter Try.func34, Try.ntmps34
    go_wp2_with (at_builtin; refine wpList_append_run rfl (.tmp 5) (.tmp 6) 49 rfl _ _ rfl rfl R2.out ?_)
    go_ret
    exact ⟨a2, c2, rfl, O2.out, K2.out⟩
/-- One element more, out of a block that is known whole (what is asked of this one element alone). -/
theorem Row.pushLit1 {α : Type} {cells : α → List Value} {e : TypeId} {size B g : Nat} {l : List α} {P : Program} {t : TypeId} (T : Els P t e size) (hsz : ∀ x, (cells x).length = size) (ty : TypeId) {W : World} {v : Value} (h : Row cells e size W B v l) (hl : l.length ≤ 5000) (hB : B ≤ W.heap.size) {x : α} (h1 : ∀ u ∈ cells x, u.oneCell' = true) {cs : Array Value} (hb : Blk W g e cs) (hcs : cs.toList = cells x) :
    ∃ a' c' W', (Builtin.append_ #[t, t] ty #[v, .slice (some ⟨g, 0, none⟩) 1 1]).run P W = .ok (.slice a' (l.length + 1) c') W' ∧
      Row cells e size W' B (.slice a' (l.length + 1) c') (l ++ [x]) ∧ Kept (fun k => v.ownBlock = some k ∧ B ≤ k) W W' ∧ (∀ b, (Value.slice a' (l.length + 1) c').ownBlock = some b → (v.ownBlock = some b ∧ B ≤ b) ∨ b = W.heap.size) := by
  have hat : At W (.slice (some ⟨g, 0, none⟩) 1 1) 1 (cells x) := ⟨_, _, rfl, .inr ⟨g, 0, rfl, fun j y hj => by
    rw [Nat.zero_add, hb.cell j, ← hj, ← hcs]; simp⟩⟩
  obtain ⟨v', W', r, o, k, hw⟩ := append_any T ty h hat (by rw [hsz, Nat.one_mul]) h1 (by omega) hB
  have o2 : Row cells e size W' B v' (l ++ [x]) := by simpa [Row] using o
  obtain ⟨a', c', e'⟩ := o2.shape
  rw [List.length_append] at e'
  subst e'
  refine ⟨a', c', W', r, o2, k.mono (fun i _ e => ⟨e, (h.lt i e).1⟩), fun b hb => ?_⟩
  rcases hw with e | e
  · have hb' : v.ownBlock = some b := e.symm.trans hb
    exact .inl ⟨hb', (h.lt b hb').1⟩
  · exact .inr (Option.some.inj (e.symm.trans hb)).symm
/-- What the closure of Partial keeps: its variable, the rows of ids. -/
structure PaD (B q : Nat) (D : List (List F4)) (F : Nat → Prop) (w : World) (ra : Option Addr) (rc : Nat) (ps : List (Value × List Int)) : Prop where
  bq : Blk w q 35 #[.slice ra D.length rc]
  row : Row cM1 49 1 w B (.slice ra D.length rc) ps
  ids : ∀ p ∈ ps, Row cN 3 1 w B p.1 p.2
  eq : ps.map Prod.snd = D.map fun ch => ch.map Prod.fst
  f : ∀ b, F b ↔ b = q ∨ (Value.slice ra D.length rc).ownBlock = some b ∨ ∃ p ∈ ps, p.1.ownBlock = some b
  hB : B ≤ q
def PaI (B q : Nat) (D : List (List F4)) (F : Nat → Prop) (w : World) : Prop := ∃ ra rc ps, PaD B q D F w ra rc ps
theorem PaD.len {B q : Nat} {D : List (List F4)} {F : Nat → Prop} {w : World} {ra : Option Addr} {rc : Nat} {ps : List (Value × List Int)} (h : PaD B q D F w ra rc ps) : ps.length = D.length := by
  have := congrArg List.length h.eq
  simpa using this
theorem PaI.lt {B q : Nat} {D : List (List F4)} {F : Nat → Prop} {w : World} (h : PaI B q D F w) : ∀ b, F b → B ≤ b ∧ b < w.heap.size := fun b hb => by
  obtain ⟨ra, rc, ps, h⟩ := h
  rcases (h.f b).1 hb with rfl | e | ⟨p, hp, e⟩
  · exact ⟨h.hB, h.bq.lt⟩
  · exact h.row.lt b e
  · exact (h.ids p hp).lt b e
theorem PaI.kept {B q : Nat} {D : List (List F4)} {F G : Nat → Prop} {w w' : World} (h : PaI B q D F w) (k : Kept G w w') (hG : ∀ b, G b → ¬ F b) : PaI B q D F w' := by
  obtain ⟨ra, rc, ps, h⟩ := h
  exact ⟨ra, rc, ps, h.bq.kept k (fun e => hG q e ((h.f q).2 (.inl rfl))), h.row.keptF k (fun b hb e => hG b e ((h.f b).2 (.inr (.inl hb)))), fun p hp => (h.ids p hp).keptF k (fun b hb e => hG b e ((h.f b).2 (.inr (.inr ⟨p, hp, hb⟩)))), h.eq, h.f, h.hB⟩
theorem neq_RI : 49 ≠ 3 := by decide
theorem neq_QI : 35 ≠ 3 := by decide
theorem neq_QR : 35 ≠ 49 := by decide
/-- One round of the closure, behind the copy. -/
theorem PaD.round {B q : Nat} {D : List (List F4)} {F : Nat → Prop} {w w1 w2 : World} {ra : Option Addr} {rc : Nat} {ps : List (Value × List Int)} (h : PaD B q D F w ra rc ps) (k1 : Kept Nil w w1) (hD : D.length ≤ 5000) (ch : List F4) {a2 : Option Addr} {n2 c2 : Nat} (h2 : Row cN 3 1 w2 w1.heap.size (.slice a2 n2 c2) (ch.map Prod.fst)) (k2 : Kept Nil w1 w2) :
    w2.cell? ⟨q, 0, none⟩ = some (.slice ra D.length rc) ∧ q < w2.heap.size ∧ ∃ a3 c3 w3, (Builtin.append_ #[35, 35] 35 #[.slice ra D.length rc, .slice (some ⟨w2.heap.size, 0, none⟩) 1 1]).run Try.prog (w2.alloc (.cells #[.slice a2 n2 c2] 49)) = .ok (.slice a3 (D.length + 1) c3) w3 ∧
      w3.cell? ⟨q, 0, none⟩ = some (.slice ra D.length rc) ∧ w3.frozen? ⟨q, 0, none⟩ = false ∧ q < w3.heap.size ∧ ∃ F', PaI B q (D ++ [ch]) F' (w3.setCell ⟨q, 0, none⟩ (.slice a3 (D.length + 1) c3)) ∧ (∀ b, F' b → F b ∨ w.heap.size ≤ b) ∧ Kept F w (w3.setCell ⟨q, 0, none⟩ (.slice a3 (D.length + 1) c3)) := by
  have k12 : Kept Nil w w2 := k1.trans k2 (fun _ _ e => e)
  have kA : Kept Nil w2 (w2.alloc (.cells #[.slice a2 n2 c2] 49)) := (Kept.refl Nil w2).alloc _
  have hBw : B ≤ w.heap.size := Nat.le_of_lt (Nat.lt_of_le_of_lt h.hB h.bq.lt)
  have hrow := h.row.keptN (k12.trans kA (fun _ _ e => e))
  obtain ⟨a3, c3, w3, r3, o3, k3, ow3⟩ := hrow.pushLit1 (x := (.slice a2 n2 c2, ch.map Prod.fst)) elsI2 cM1_len 35 (by rw [h.len]; exact hD) (Nat.le_trans hBw (k12.trans kA (fun _ _ e => e)).size) (fun u hu => by rw [List.mem_singleton.1 hu]; rfl) (Blk.new w2 _ _) rfl
  rw [h.len] at r3 o3 ow3
  have bq2 := h.bq.kept k12 (fun e => e)
  have bqA := bq2.kept kA (fun e => e)
  have bq3 := bqA.kept k3 (fun e => hrow.notBlk bqA neq_QR e.1)
  have kS : Kept (fun b => b = q) w3 (w3.setCell ⟨q, 0, none⟩ (.slice a3 (D.length + 1) c3)) := (Kept.refl (fun b => b = q) w3).setCell ⟨q, 0, none⟩ (.inl rfl) _
  have kF : Kept F w (w3.setCell ⟨q, 0, none⟩ (.slice a3 (D.length + 1) c3)) := (((k12.trans kA (fun _ _ e => e)).mono (fun _ _ e => e.elim)).trans k3 (fun i _ e => (h.f i).2 (.inr (.inl e.1)))).trans kS (fun i _ e => (h.f i).2 (.inl e))
  have hlen : (D ++ [ch]).length = D.length + 1 := by rw [List.length_append]; rfl
  have hidA : ∀ p ∈ ps ++ [((.slice a2 n2 c2 : Value), ch.map Prod.fst)], Row cN 3 1 (w2.alloc (.cells #[.slice a2 n2 c2] 49)) B p.1 p.2 := fun p hp => by
    rcases List.mem_append.1 hp with hp | hp
    · exact (h.ids p hp).keptN (k12.trans kA (fun _ _ e => e))
    · rw [List.mem_singleton.1 hp]
      exact (h2.keptN kA).down (Nat.le_trans hBw k1.size)
  refine ⟨bq2.cell 0, bq2.lt, a3, c3, w3, r3, bq3.cell 0, bq3.frozen 0, bq3.lt, fun b => b = q ∨ (Value.slice a3 (D.length + 1) c3).ownBlock = some b ∨ ∃ p ∈ ps ++ [((.slice a2 n2 c2 : Value), ch.map Prod.fst)], p.1.ownBlock = some b, ⟨a3, c3, ps ++ [(.slice a2 n2 c2, ch.map Prod.fst)], ?_, ?_, fun p hp => ?_, ?_, fun b => ?_, h.hB⟩, fun b hb => ?_, kF⟩
  · rw [hlen]; exact bq3.set_ 0 _
  · rw [hlen]
    exact o3.keptF kS (fun b hb e => by subst e; exact o3.notBlk bq3 neq_QR hb)
  · have hp3 := (hidA p hp).keptF k3 (fun b hb e => rows_apart2 (fun e => neq_RI e.symm) (hidA p hp) hrow b hb e.1)
    exact hp3.keptF kS (fun b hb e => by subst e; exact hp3.notBlk bq3 neq_QI hb)
  · rw [List.map_append, List.map_append, h.eq]; rfl
  · rw [hlen]
  · rcases hb with rfl | hb | ⟨p, hp, hb⟩
    · exact .inl ((h.f _).2 (.inl rfl))
    · rcases ow3 b hb with e | e
      · exact .inl ((h.f b).2 (.inr (.inl e.1)))
      · exact .inr (by rw [e]; exact (k12.trans kA (fun _ _ e => e)).size)
    · rcases List.mem_append.1 hp with hp | hp
      · exact .inl ((h.f b).2 (.inr (.inr ⟨p, hp, hb⟩)))
      · rw [List.mem_singleton.1 hp] at hb
        exact .inr (Nat.le_trans k1.size (h2.lt b hb).1)
set_option maxHeartbeats 4000000 in
theorem partClo_any {B q : Nat} {D : List (List F4)} {F : Nat → Prop} (w : World) (h : PaI B q D F w) (hD : D.length ≤ 5000) (ch : List F4) (hch : ch.length ≤ 5000) (s : Int) (B2 : Nat) (ia : Option Addr) (ni ic : Nat) (bv : Value) (hi : Row cN 3 1 w B2 (.slice ia ni ic) (ch.map Prod.fst)) :
    Calls Try.prog 33 #[.agg #[.int .i64 s, .slice ia ni ic, bv], .pointer (some ⟨q, 0, none⟩)] w fun o w' => ∃ F', o = .returned (.tuple #[]) ∧ PaI B q (D ++ [ch]) F' w' ∧ (∀ b, F' b → F b ∨ w.heap.size ≤ b) ∧ Kept F w w' := by
  obtain ⟨ra, rc, ps, h⟩ := h
  have kA : Kept Nil w (w.alloc (.cells #[.int .i64 s, .slice ia ni ic, bv] 85)) := (Kept.refl Nil w).alloc _
  have bA : Blk (w.alloc (.cells #[.int .i64 s, .slice ia ni ic, bv] 85)) w.heap.size 85 #[.int .i64 s, .slice ia ni ic, bv] := Blk.new w _ _
  have hq := h.bq.lt
  go_enter Try.func33, Try.ntmps33
  go_upto_region 1 with fail
  generalize (w.alloc (.cells #[.int .i64 s, .slice ia ni ic, bv] 85)) = W at *
  have CC := Lib.hid (cloneI_any (ch.map Prod.fst) (by rw [List.length_map]; exact hch) B2 ia ni ic W.drew ((hi.keptN kA).keptN (Kept.refl Nil W).drew))
  have RND : Hid (∀ a2 c2 w2, Row cN 3 1 w2 W.drew.heap.size (.slice a2 ni c2) (ch.map Prod.fst) → Kept Nil W.drew w2 → _) := Lib.hid fun a2 c2 w2 h2 k2 => h.round (w1 := W.drew) kA.drew hD ch h2 k2
  have x0 := (h.bq.kept kA (fun e => e)).cell 0
  have y1 := bA.cell 1
  have hqW : q < W.heap.size := Nat.lt_of_lt_of_le hq kA.size
  have hwW := bA.lt
  simp at x0 y1
  generalize D.length = dn at *
  clear h kA bA hi
  go_region_law (first
    | (refine step_append_run rfl (.tmp 3) (.tmp 7) 35 rfl _ _ rfl rfl r3 ?_)
    | (go_simp; go_at_call 34; refine CC.out.mono ?_; rintro e w2 ⟨a2, c2, rfl, h2, k2⟩; obtain ⟨x2, hq2, a3, c3, w3, r3, x3, f3, hq3, HFin⟩ := RND.out a2 c2 w2 h2 k2; have HF' := Lib.hid HFin; clear HFin h2 k2))
  all_goals
    obtain ⟨F', hP, hF, hk⟩ := HF'.out
    go_wp2_with fail
    exact ⟨rfl, .tuple #[], by simp [results, Try.results33, go_sem], F', rfl, hP, hF, hk⟩
end
section
open Go.RowKit
set_option maxRecDepth 100000

theorem take_eq_succ {α : Type} {xs ys : List α} {j : Nat} {x y : α} (h : xs.take j = ys.take j) (hx : xs[j]? = some x) (hy : ys[j]? = some y) (e : x = y) : xs.take (j + 1) = ys.take (j + 1) := by
  rw [List.take_add_one, List.take_add_one, h, hx, hy, e]
theorem In.one {w : World} {a : Option Addr} {len : Nat} {xs : List Int} (h : In cN 1 w a len xs) {j : Nat} {x : Int} (hj : xs[j]? = some x) : ∃ b o, a = some ⟨b, o, none⟩ ∧ b < w.heap.size ∧ w.cell? ⟨b, o + j, none⟩ = some (.int .i64 x) := by
  obtain ⟨b, o, e, hb, hc⟩ := h.at_ hj
  have := hc 0 _ rfl
  rw [Nat.mul_one] at this
  exact ⟨b, o, e, hb, this⟩
/-- Lists of numbers that lie at a slice. -/
def LIn (w : World) (a : Option Addr) (n : Nat) (L : List (List Int)) : Prop :=
  L.length = n ∧ (n = 0 ∨ ∃ b o, a = some ⟨b, o, none⟩ ∧ b < w.heap.size ∧ ∀ (j : Nat) l, L[j]? = some l → ∃ a' n' c', w.cell? ⟨b, o + j, none⟩ = some (.slice a' n' c') ∧ In cN 1 w a' n' l)
section
variable {w w' : World} {a : Option Addr} {n : Nat} {L : List (List Int)}
theorem LIn.kept (h : LIn w a n L) (k : Kept Nil w w') : LIn w' a n L :=
  ⟨h.1, h.2.imp id fun ⟨b, o, e, hb, hc⟩ => ⟨b, o, e, Nat.lt_of_lt_of_le hb k.size, fun j l hj => by
    obtain ⟨a', n', c', h1, h2⟩ := hc j l hj
    exact ⟨a', n', c', (k.cell (p := ⟨b, o + j, none⟩) hb (fun e => e)).trans h1, h2.kept k⟩⟩⟩
theorem LIn.at_ (h : LIn w a n L) {j : Nat} {l : List Int} (hj : L[j]? = some l) : ∃ b o a' n' c', a = some ⟨b, o, none⟩ ∧ b < w.heap.size ∧ w.cell? ⟨b, o + j, none⟩ = some (.slice a' n' c') ∧ In cN 1 w a' n' l := by
  rcases h.2 with e | ⟨b, o, e, hb, hc⟩
  · have := h.1
    rw [e] at this
    rw [List.length_eq_zero_iff.1 this] at hj; cases hj
  · obtain ⟨a', n', c', h1, h2⟩ := hc j l hj
    exact ⟨b, o, a', n', c', e, hb, h1, h2⟩
theorem LL.toLIn {B c : Nat} (h : LL w B (.slice a n c) L) : LIn w a n L := by
  obtain ⟨ps, rfl, h⟩ := h
  have hi := h.row.toIn cM1_len (by decide)
  refine ⟨by rw [List.length_map]; exact hi.1, hi.2.imp id fun ⟨b, o, e, hb, hc⟩ => ⟨b, o, e, hb, fun j l hj => ?_⟩⟩
  rw [List.getElem?_map] at hj
  obtain ⟨p, hp, rfl⟩ := Option.map_eq_some_iff.1 hj
  have hr := h.ids p (List.mem_of_getElem? hp)
  obtain ⟨a', c', e'⟩ := hr.shape
  have := hc j p 0 p.1 hp rfl
  rw [Nat.mul_one, Nat.add_zero] at this
  rw [e'] at this hr
  exact ⟨a', _, c', this, hr.toIn cN_len (by decide)⟩
end
set_option maxHeartbeats 8000000 in
theorem same_any {w : World} {a a' : Option Addr} {n n' c c' : Nat} {xs ys : List (List Int)} (hx : LIn w a n xs) (hy : LIn w a' n' ys) (hn : n ≤ 100000) (hn' : n' ≤ 100000) (hl : ∀ l ∈ xs, l.length ≤ 100000) (hl' : ∀ l ∈ ys, l.length ≤ 100000) :
    Calls Try.prog 16 #[.slice a n c, .slice a' n' c'] w fun e w' => e = .returned (.bool (decide (xs = ys))) ∧ Kept Nil w w' := by
  by_cases hll : n = n'
  · subst hll
    have HX := Lib.hid hx
    have HY := Lib.hid hy
    have HLs := Lib.hid (And.intro hl hl')
    clear hx hy hl hl'
    go_enter Try.func16, Try.ntmps16
    go_wp2_with fail
    go_loopw [5, 14] (fun _ i wr => ∃ j : Nat, j ≤ n ∧ i = .int .i64 j ∧ xs.take j = ys.take j ∧ Kept Nil w wr) (fun _ i _ => n - (intOf i).toNat)
    case atStart => exact ⟨0, Nat.zero_le _, rfl, by simp, Kept.refl _ _⟩
    case round =>
      rename World => wo
      obtain ⟨j, hj, rfl, hE, hK⟩ := hrel
      have HE := Lib.hid hE
      have HK := Lib.hid hK
      clear hE hK
      by_cases hjn : j < n
      rotate_left
      · obtain rfl : j = n := by omega
        have hd := Lib.hid (show decide (xs = ys) = true from decide_eq_true (by
          have := HE.out
          rwa [List.take_of_length_le (by rw [HX.out.1]; exact Nat.le_refl _), List.take_of_length_le (by rw [HY.out.1]; exact Nat.le_refl _)] at this))
        go_wp2_with fail
        go_ret
        exact ⟨ret_bool hd.out.symm, HK.out⟩
      obtain ⟨l, hxj⟩ : ∃ x, xs[j]? = some x := ⟨xs[j]'(by have := HX.out.1; omega), by simp⟩
      obtain ⟨l', hyj⟩ : ∃ y, ys[j]? = some y := ⟨ys[j]'(by have := HY.out.1; omega), by simp⟩
      obtain ⟨b, o, a1, n1, c1, rfl, hb, q, hi⟩ := (HX.out.kept HK.out).at_ hxj
      obtain ⟨b', o', a2, n2, c2, rfl, hb', q', hi'⟩ := (HY.out.kept HK.out).at_ hyj
      have HXJ := Lib.hid (And.intro hxj hyj)
      have HI := Lib.hid hi
      have HI' := Lib.hid hi'
      have hn1 : n1 ≤ 100000 := by rw [← hi.1]; exact HLs.out.1 _ (List.mem_of_getElem? hxj)
      have hn2 : n2 ≤ 100000 := by rw [← hi'.1]; exact HLs.out.2 _ (List.mem_of_getElem? hyj)
      clear hxj hyj hi hi'
      have HNe : Hid (l ≠ l' → decide (xs = ys) = false) := Lib.hid fun e => decide_eq_false (fun e2 => e (by
        have h1 := HXJ.out.1
        rw [e2, HXJ.out.2] at h1
        injection h1 with h1
        exact h1.symm))
      by_cases h12 : n1 = n2
      rotate_left
      · have hne : (n1 != n2) = true := bne_iff_ne.2 h12
        have hne2 : ((n1 : Int) != (n2 : Int)) = true := bne_iff_ne.2 (by omega)
        have hd := Lib.hid (HNe.out (fun e => h12 (by rw [← HI.out.1, ← HI'.out.1, e])))
        clear h12
        go_wp2_with fail
        go_quiet (fail)
        go_wp2_with fail
        go_ret
        exact ⟨ret_bool hd.out.symm, HK.out.drewN _⟩
      subst h12
      go_wp2_with fail
      go_quiet (fail)
      go_wp2_with fail
      go_loopw [6, 33] (fun _ i wr => ∃ m : Nat, m ≤ n1 ∧ i = .int .i64 m ∧ l.take m = l'.take m ∧ Kept Nil wo wr) (fun _ i _ => n1 - (intOf i).toNat)
      case atStart => exact ⟨0, Nat.zero_le _, rfl, by simp, (Kept.refl _ _).drewN _⟩
      case round =>
        obtain ⟨m, hmj, rfl, hEm, hKm⟩ := hrel
        have HEm := Lib.hid hEm
        have HKm := Lib.hid hKm
        clear hEm hKm
        by_cases hmn : m < n1
        · obtain ⟨x, hxm⟩ : ∃ x, l[m]? = some x := ⟨l[m]'(by have := HI.out.1; omega), by simp⟩
          obtain ⟨y, hym⟩ : ∃ y, l'[m]? = some y := ⟨l'[m]'(by have := HI'.out.1; omega), by simp⟩
          obtain ⟨b1, o1, rfl, hb1, u⟩ := (HI.out.kept HKm.out).one hxm
          obtain ⟨b2, o2, rfl, hb2, u'⟩ := (HI'.out.kept HKm.out).one hym
          have q1 := HKm.out.cellOf q
          have q1' := HKm.out.cellOf q'
          have HXm := Lib.hid (And.intro hxm hym)
          clear hxm hym
          by_cases e : x = y
          · subst e
            go_wp2_with fail
            go_quiet (fail)
            go_wp2_with fail
            go_roundw
            case rel => exact ⟨m + 1, hmn, by go_num, take_eq_succ HEm.out HXm.out.1 HXm.out.2 rfl, HKm.out.drewN _⟩
            case measure => simp [intOf]; omega
          · have hne : (x != y) = true := bne_iff_ne.2 e
            have hd := Lib.hid (HNe.out (fun e2 => e (by
              have h1 := HXm.out.1
              rw [e2, HXm.out.2] at h1
              injection h1 with h1
              exact h1.symm)))
            clear e
            go_wp2_with fail
            go_quiet (fail)
            go_wp2_with fail
            go_ret
            exact ⟨ret_bool hd.out.symm, HK.out.trans (HKm.out.drewN _) (fun _ _ e => e)⟩
        · obtain rfl : m = n1 := by omega
          have HEq : Hid (l = l') := Lib.hid (by
            have := HEm.out
            rwa [List.take_of_length_le (by rw [HI.out.1]; exact Nat.le_refl _), List.take_of_length_le (by rw [HI'.out.1]; exact Nat.le_refl _)] at this)
          go_wp2_with fail
          go_roundw
          case rel => exact ⟨j + 1, hjn, by go_num, take_eq_succ HE.out HXJ.out.1 HXJ.out.2 HEq.out, HK.out.trans HKm.out (fun _ _ e => e)⟩
          case measure => simp [intOf]; omega
  · have hd := Lib.hid (show decide (xs = ys) = false from decide_eq_false (fun e => hll (by rw [← hx.1, ← hy.1, e])))
    have hne : (n != n') = true := bne_iff_ne.2 hll
    have hne2 : ((n : Int) != (n' : Int)) = true := bne_iff_ne.2 (by omega)
    clear hll hx hy
    go_enter Try.func16, Try.ntmps16
    go_wp2_with fail
    go_ret
    exact ⟨ret_bool hd.out.symm, Kept.refl _ _⟩
end
section
open Go.RowKit
set_option maxRecDepth 100000

/-- What stands in memory: what came in, boxed; the result's place. -/
structure RG (w : World) (t0 : TypeId) (c0 : Array Value) (tz : TypeId) (z : Array Value) (W : World) : Prop where
  kept : Kept Nil w W
  b0 : Blk W w.heap.size t0 c0
  b1 : Blk W (w.heap.size + 1) tz z
section
variable {w : World} {t0 : TypeId} {c0 : Array Value} {tz : TypeId} {z : Array Value} {W W' : World}
theorem RG.start (w : World) (t0 : TypeId) (c0 : Array Value) (tz : TypeId) (z : Array Value) : RG w t0 c0 tz z ((w.alloc (.cells c0 t0)).alloc (.cells z tz)) := by
  refine ⟨((Kept.refl Nil w).alloc _).alloc _, (Blk.new w _ _).alloc _, ?_⟩
  have := Blk.new (w.alloc (.cells c0 t0)) tz z
  simpa using this
theorem RG.step (r : RG w t0 c0 tz z W) (k : Kept Nil W W') : RG w t0 c0 tz z W' := ⟨r.kept.trans k (fun _ _ g => g), r.b0.kept k id, r.b1.kept k id⟩
theorem RG.alloc (r : RG w t0 c0 tz z W) (o : Obj) : RG w t0 c0 tz z (W.alloc o) := r.step ((Kept.refl Nil W).alloc o)
theorem RG.drew (r : RG w t0 c0 tz z W) : RG w t0 c0 tz z W.drew := r.step ((Kept.refl Nil W).drew)
theorem RG.far {F : Nat → Prop} (r : RG w t0 c0 tz z W) (k : Kept F W W') (hF : ∀ i, F i → w.heap.size + 1 < i) : RG w t0 c0 tz z W' :=
  ⟨r.kept.trans k (fun i hi g => by have := hF i g; omega), r.b0.kept k (fun g => by have := hF _ g; omega), r.b1.kept k (fun g => by have := hF _ g; omega)⟩
theorem RG.set_ (r : RG w t0 c0 tz z W) {X : Nat} (hX : w.heap.size + 1 < X) (i : Nat) (u : Value) : RG w t0 c0 tz z (W.setCell ⟨X, i, none⟩ u) :=
  ⟨r.kept.setCell _ (.inr (by show w.heap.size ≤ X; omega)) _, r.b0.far (by show w.heap.size ≠ X; omega) _, r.b1.far (by show w.heap.size + 1 ≠ X; omega) _⟩
end
/-- One round of building: the child's tree is there in new memory; it is appended, and the new slice is stored. -/
theorem build_roundG {P : Program} {E : Hd → Value → List Value} (hE : Kind8 E) {t e : TypeId} {i0 : TypeInfo} {z0 : Value} {bytes : Nat} (ht : P.underlying t = some (.slice e)) (hi : P.info? e = some i0) (hz : i0.zero = some z0) (hsize : i0.size = 8) (hby : i0.bytes = bytes) (hzs : z0.cells.size = 8) (hb128 : bytes ≤ 128)
    {w : World} {t0 : TypeId} {c0 : Array Value} {tz : TypeId} {z : Array Value} {W1 W1' w2 : World} {X : Nat} {tX : TypeId} (p : Nat) {cs : Array Value} {ps : List (Sh × Value)} {av : Option Addr} {pl capv : Nat} (hX : w.heap.size + 1 < X)
    (r : RG w t0 c0 tz z W1) (b : Blk W1 X tX cs) (h7 : cs[p]? = some (.slice av pl capv)) (c : CRow E e W1 (X + 1) (.slice av pl capv) ps) (hpl : ps.length = pl) (hl : pl ≤ 5000) (hd1 : Kept Nil W1 W1') (hsz : W1'.heap.size = W1.heap.size) (k2 : Kept Nil W1' w2)
    (s : Sh) (u : Value) (h2 : Holds E w2 (okM W1'.heap.size w2) u s.subs) (nt : TypeId) (arr : Array Value) (harr : arr = (E s.hd u).toArray) :
    w2.cell? ⟨X, p, none⟩ = some (.slice av pl capv) ∧ X < w2.heap.size ∧ ∃ g cap3 w3, (Builtin.append_ #[t, t] t #[.slice av pl capv, .slice (some ⟨w2.heap.size, 0, none⟩) 1 1]).run P (w2.alloc (.cells arr nt)) = .ok (.slice (some ⟨g, 0, none⟩) (pl + 1) cap3) w3 ∧
      w3.cell? ⟨X, p, none⟩ = some (.slice av pl capv) ∧ w3.frozen? ⟨X, p, none⟩ = false ∧
      RG w t0 c0 tz z (w3.setCell ⟨X, p, none⟩ (.slice (some ⟨g, 0, none⟩) (pl + 1) cap3)) ∧ Blk (w3.setCell ⟨X, p, none⟩ (.slice (some ⟨g, 0, none⟩) (pl + 1) cap3)) X tX (cs.setIfInBounds p (.slice (some ⟨g, 0, none⟩) (pl + 1) cap3)) ∧
      CRow E e (w3.setCell ⟨X, p, none⟩ (.slice (some ⟨g, 0, none⟩) (pl + 1) cap3)) (X + 1) (.slice (some ⟨g, 0, none⟩) (pl + 1) cap3) (ps ++ [(s, u)]) := by
  have k12 : Kept Nil W1 w2 := hd1.trans k2 (fun _ _ g => g)
  have b2 := b.kept k12 id
  have ka := (Kept.refl Nil w2).alloc (.cells arr nt)
  have hB2 : Blk (w2.alloc (.cells arr nt)) w2.heap.size nt arr := Blk.new _ _ _
  have hX1 := b.lt
  have hX2 := b2.lt
  have hsa : (w2.alloc (.cells arr nt)).heap.size = w2.heap.size + 1 := by simp
  obtain ⟨g, cap3, w3, r3, c3, k3⟩ := CRow.append hE ht hi hz hsize hby hzs hb128 ((c.kept k12).kept ka) (by omega) (by omega) t s u w2.heap.size (fun j x hj => by rw [hB2.cell j, harr]; simpa using hj)
    ((h2.keptN ka).mono (fun b' o hb' => ⟨(hb'.kept ka id).less (by omega), fun eo => by have := c.lt b' eo; have := hb'.1; omega⟩))
  rw [hpl] at r3 c3
  have b3 : Blk w3 X tX cs := (b2.alloc _).kept k3 (fun eo => by have := c.base X eo; omega)
  have far3 : RG w t0 c0 tz z w3 := ((r.step k12).step ka).far k3 (fun i eo => by have := c.base i eo; omega)
  refine ⟨by rw [b2.cell p]; exact h7, hX2, g, cap3, w3, r3, by rw [b3.cell p]; exact h7, b3.frozen p, far3.set_ hX p _, b3.set_ p _, ?_⟩
  exact c3.keptF ((Kept.refl (fun k => k = X) w3).setCell ⟨X, p, none⟩ (.inl rfl) _) (fun i e => by omega)
end
section
open Go.RowKit
set_option maxRecDepth 100000

/-- A sign of a name, as a number. -/
def okSign (r : Int) : Bool := decide ((97 ≤ r ∧ r ≤ 122) ∨ (65 ≤ r ∧ r ≤ 90) ∨ (48 ≤ r ∧ r ≤ 57) ∨ r = 45 ∨ r = 95)

/-- The bytes are those of a name. -/
def okBytes (l : List UInt8) : Bool := l.all fun c => okSign c.toNat
def okName (s : ByteArray) : Bool := decide (1 ≤ s.size ∧ s.size ≤ 32) && okBytes s.data.toList

theorem okBytes_take (s : ByteArray) (k : Nat) (h : k < s.size) : okBytes (s.data.toList.take (k + 1)) = (okBytes (s.data.toList.take k) && okSign s[k].toNat) := by
  unfold okBytes
  rw [List.take_succ_eq_append_getElem (by simpa using h), List.all_append]
  simp
  rfl
theorem okBytes_bad (s : ByteArray) (k : Nat) (h : k < s.size) (hb : okSign s[k].toNat = false) : okBytes s.data.toList = false := by
  unfold okBytes
  rw [List.all_eq_false]
  exact ⟨s[k], by exact Array.mem_toList_iff.2 (Array.getElem_mem _), by simpa using hb⟩
theorem okName_short (s : ByteArray) (h : s.size < 1 ∨ 32 < s.size) : okName s = false := by
  unfold okName
  rw [decide_eq_false (by omega), Bool.false_and]
theorem okName_good (s : ByteArray) (h1 : 1 ≤ s.size) (h2 : s.size ≤ 32) (h : okBytes (s.data.toList.take s.size) = true) : okName s = true := by
  unfold okName
  rw [List.take_of_length_le (by simp)] at h
  rw [decide_eq_true ⟨h1, h2⟩, h]; rfl
theorem okName_bad (s : ByteArray) (k : Nat) (h : k < s.size) (hb : okSign s[k].toNat = false) : okName s = false := by
  unfold okName
  rw [okBytes_bad s k h hb, Bool.and_false]
theorem okSign_high (r : Int) (h : 128 ≤ r) : okSign r = false := by
  unfold okSign
  exact decide_eq_false (by omega)

theorem okSign_cases {r : Int} (h : okSign r = true) : (97 ≤ r ∧ r ≤ 122) ∨ (65 ≤ r ∧ r ≤ 90) ∨ (48 ≤ r ∧ r ≤ 57) ∨ (45 ≤ r ∧ r ≤ 45) ∨ (95 ≤ r ∧ r ≤ 95) := by
  unfold okSign at h
  have := of_decide_eq_true h
  omega
theorem okSign_not {r : Int} (h : okSign r = false) : (r ≤ 44 ∧ r ≤ 44) ∨ (46 ≤ r ∧ r ≤ 47) ∨ (58 ≤ r ∧ r ≤ 64) ∨ (91 ≤ r ∧ r ≤ 94) ∨ (96 ≤ r ∧ r ≤ 96) ∨ (123 ≤ r ∧ 123 ≤ r) := by
  unfold okSign at h
  have := of_decide_eq_false h
  omega

set_option maxHeartbeats 1000000 in
theorem refName_any (s : ByteArray) (w : World) (hs : s.size ≤ maxLen) :
    Calls Try.prog 69 #[.string s] w fun e w' => e = .returned (.bool (okName s)) ∧ w = w' := by
  unfold maxLen at hs
  by_cases h1 : s.size < 1
  · have E := Lib.hid (okName_short s (.inl h1))
    go_enter Try.func69, Try.ntmps69
    go_wp2
    go_ret
    exact ⟨ret_bool E.out.symm, rfl⟩
  by_cases h2 : 32 < s.size
  · have E := Lib.hid (okName_short s (.inr h2))
    go_enter Try.func69, Try.ntmps69
    go_wp2
    go_ret
    exact ⟨ret_bool E.out.symm, rfl⟩
  go_enter Try.func69, Try.ntmps69
  go_wp2
  go_loop [3, 4] (fun i _ => ∃ k : Nat, k ≤ s.size ∧ okBytes (s.data.toList.take k) = true ∧ i = .int .i64 k) (fun i _ => s.size - (intOf i).toNat)
  case atStart => exact ⟨0, Nat.zero_le _, rfl, rfl⟩
  case round =>
    obtain ⟨k, hk, hok, rfl⟩ := hrel
    have HO := Lib.hid hok
    clear hok
    by_cases hlt : k < s.size
    · by_cases hb : okSign s[k].toNat = true
      · have HT : Hid (okBytes (s.data.toList.take (k + 1)) = true) := by
          show okBytes (s.data.toList.take (k + 1)) = true
          rw [okBytes_take s k hlt, HO.out, hb]; rfl
        have hc := okSign_cases hb
        clear hb
        rcases hc with hc | hc | hc | hc | hc
        all_goals obtain ⟨hc1, hc2⟩ := hc
        all_goals (first | (have d1 : decide ((s[k].toNat : Int) ≤ 122) = true := decide_eq_true (by omega)) | (have d1 : decide ((s[k].toNat : Int) ≤ 122) = false := decide_eq_false (by omega)))
        all_goals (first | (have d2 : decide ((s[k].toNat : Int) ≤ 90) = true := decide_eq_true (by omega)) | (have d2 : decide ((s[k].toNat : Int) ≤ 90) = false := decide_eq_false (by omega)))
        all_goals (first | (have d3 : decide ((s[k].toNat : Int) ≤ 57) = true := decide_eq_true (by omega)) | (have d3 : decide ((s[k].toNat : Int) ≤ 57) = false := decide_eq_false (by omega)))
        all_goals (first | (have d4 : ((s[k].toNat : Int) != 45) = true := bne_iff_ne.2 (by omega)) | (have d4 : ((s[k].toNat : Int) != 45) = false := by rw [bne_eq_false_iff_eq]; omega))
        all_goals (first | (have d5 : ((s[k].toNat : Int) != 95) = true := bne_iff_ne.2 (by omega)) | (have d5 : ((s[k].toNat : Int) != 95) = false := by rw [bne_eq_false_iff_eq]; omega))
        all_goals
          go_wp2
          go_round
          case rel => exact ⟨k + 1, hlt, HT.out, by go_num⟩
          case measure => simp [intOf]; omega
      · have HN : Hid (okName s = false) := okName_bad s k hlt (by simpa using hb)
        have hc := okSign_not (by simpa using hb)
        clear hb
        rcases hc with hc | hc | hc | hc | hc | hc
        all_goals obtain ⟨hc1, hc2⟩ := hc
        all_goals (first | (have d1 : decide ((s[k].toNat : Int) ≤ 122) = true := decide_eq_true (by omega)) | (have d1 : decide ((s[k].toNat : Int) ≤ 122) = false := decide_eq_false (by omega)))
        all_goals (first | (have d2 : decide ((s[k].toNat : Int) ≤ 90) = true := decide_eq_true (by omega)) | (have d2 : decide ((s[k].toNat : Int) ≤ 90) = false := decide_eq_false (by omega)))
        all_goals (first | (have d3 : decide ((s[k].toNat : Int) ≤ 57) = true := decide_eq_true (by omega)) | (have d3 : decide ((s[k].toNat : Int) ≤ 57) = false := decide_eq_false (by omega)))
        all_goals (first | (have d4 : ((s[k].toNat : Int) != 45) = true := bne_iff_ne.2 (by omega)) | (have d4 : ((s[k].toNat : Int) != 45) = false := by rw [bne_eq_false_iff_eq]; omega))
        all_goals (first | (have d5 : ((s[k].toNat : Int) != 95) = true := bne_iff_ne.2 (by omega)) | (have d5 : ((s[k].toNat : Int) != 95) = false := by rw [bne_eq_false_iff_eq]; omega))
        all_goals go_wp2
        all_goals go_ret
        all_goals exact ⟨ret_bool HN.out.symm, rfl⟩
    · have he : k = s.size := by omega
      have hn : okName s = true := okName_good s (by omega) (by omega) (by rw [← he]; exact HO.out)
      have HN := Lib.hid hn
      clear he hn
      go_wp2
      go_ret
      exact ⟨ret_bool HN.out.symm, rfl⟩
end
section
open Go.RowKit
set_option maxRecDepth 100000

/-- Is that number a variable of the terms? -/
def ownN (x0 x1 x2 : Bool) (n0 n1 n2 j : Int) : Bool := (x0 && n0 == j) || ((x1 && n1 == j) || (x2 && n2 == j))
mutual
/-- Does a variable stand in it? -/
def Sh.has : Sh → Int → Bool
  | .mk h l, v => (decide (h.k < 3) && ownN h.x0 h.x1 h.x2 h.n0 h.n1 h.n2 v) || hasL l v
def hasL : List Sh → Int → Bool
  | [], _ => false
  | s :: r, v => s.has v || hasL r v
end
theorem has_mk (h : Hd) (l : List Sh) (v : Int) : (Sh.mk h l).has v = ((decide (h.k < 3) && ownN h.x0 h.x1 h.x2 h.n0 h.n1 h.n2 v) || hasL l v) := by
  rw [Sh.has]
theorem hasL_drop {l : List Sh} {j : Nat} {x : Sh} (h : l[j]? = some x) (v : Int) : hasL (l.drop j) v = (x.has v || hasL (l.drop (j + 1)) v) := by
  obtain ⟨hl, e⟩ := List.getElem?_eq_some_iff.1 h
  rw [List.drop_eq_getElem_cons hl, e]
  rfl
end
end Go.Proofs.Ytmpoeibkndcnnaa
