/- Layer trie: the program's Uses, Parent, Depth, Len, New; one use less, one node less, by chains. – Layer trie: a node out, a use less, told by chains and numbers. – Layer trie: what Remove's rounds make of the numbers. No program. – Layer trie: the program's Len; the law's comparison of numbers. – Layer comp: slices.Equal of tests. – Layer comp: same and Same, of the program. -/
import Derived.Test.YtljefbfjehblpaaGreatA14
import Derived.Deep.LoopGhost
import Derived.Test.YtljefbfjehblpaaGreatA12
namespace Go.Proofs.YtljefbfjehblpaaGreat
section
open Go.RowKit Go.Maps Go.WideMaps
set_option maxRecDepth 100000

section
variable {w w' : World} {c c' : Nat → Nat} {p : Nat} {es : En} {U E : Nat → Int}
/-- What lies at a number, a zero one where there is none. -/
theorem TE.lookV (h : TE w c p es U E) {n : Nat} (hn : n ≤ 4611686018427387904) : ∃ bn v, w.cell? ⟨p, 0, none⟩ = some (.map (some bn)) ∧ (Instr.lookup 51 (.map (some bn)) (.int .i64 n) false).run Tryz.prog w = .ok (.agg (aN v)) w ∧ (Instr.lookup 51 (.map (some bn)) (.int .i64 n) true).run Tryz.prog w = .ok (.tuple #[.agg (aN v), .bool (ent es n).isSome]) w ∧
    match ent es n with
    | none => v = zNv
    | some x => NodeR w c n ⟨shE es x, kidsE es n, outerE es n, E n, U n⟩ v := by
  obtain ⟨nm, h1, bn, bs, nv, h2⟩ := h.ex
  have hl := h2.mn.look uNodes (zeroNv w) (k := n) hn
  have hl2 := h2.mn.look2 uNodes (zeroNv w) (k := n) hn
  have c0 : w.cell? ⟨p, 0, none⟩ = some (.map (some bn)) := by have := h2.blk.cell 0; simpa using this
  rcases h2.rows n with ⟨e1, e2⟩ | ⟨d, v, e1, e2, e3⟩
  · have : ent es n = none := by
      unfold ndE at e1
      simpa using e1
    rw [this]
    rw [e2] at hl hl2
    exact ⟨bn, zNv, c0, hl, hl2, rfl⟩
  · unfold ndE at e1
    obtain ⟨x, hx, rfl⟩ := Option.map_eq_some_iff.1 e1
    rw [hx]
    rw [e2] at hl hl2
    exact ⟨bn, v, c0, hl, hl2, e3⟩
/-- A node's numbers. -/
def usE (es : En) (U : Nat → Int) (n : Nat) : Int := match ent es n with
  | none => 0
  | some _ => U n
theorem fieldUs (v : Nv) (w : World) : (Instr.field 89 (.agg (aN v)) 4).run Tryz.prog w = .ok (.int .i64 v.us) w := by
  obtain ⟨⟨sp, sk, sa, sb, sc, x0, x1, x2, x3, x4, x5, x6, x7, x8, sn, sq⟩, kb, kn, kc, ob, on, oc, li, us⟩ := v
  kernel_rfl
theorem fieldLi (v : Nv) (w : World) : (Instr.field 89 (.agg (aN v)) 3).run Tryz.prog w = .ok (.int .i64 v.li) w := by
  obtain ⟨⟨sp, sk, sa, sb, sc, x0, x1, x2, x3, x4, x5, x6, x7, x8, sn, sq⟩, kb, kn, kc, ob, on, oc, li, us⟩ := v
  kernel_rfl
theorem fieldSp (v : Nv) (w : World) : (Instr.field 89 (.agg (aN v)) 0).run Tryz.prog w = .ok (.agg (aSp v.sp)) w := by
  obtain ⟨⟨sp, sk, sa, sb, sc, x0, x1, x2, x3, x4, x5, x6, x7, x8, sn, sq⟩, kb, kn, kc, ob, on, oc, li, us⟩ := v
  kernel_rfl
theorem fieldP (s : Sp) (w : World) : (Instr.field 62 (.agg (aSp s)) 0).run Tryz.prog w = .ok (.int .i64 s.p) w := by
  obtain ⟨sp, sk, sa, sb, sc, x0, x1, x2, x3, x4, x5, x6, x7, x8, sn, sq⟩ := s
  kernel_rfl
theorem fieldQ (s : Sp) (w : World) : (Instr.field 62 (.agg (aSp s)) 5).run Tryz.prog w = .ok (.int .i64 s.q) w := by
  obtain ⟨sp, sk, sa, sb, sc, x0, x1, x2, x3, x4, x5, x6, x7, x8, sn, sq⟩ := s
  kernel_rfl
theorem uses_any (h : TE w c p es U E) {n : Nat} (hn : n ≤ 4611686018427387904) :
    Calls Tryz.prog 32 #[.pointer (some ⟨p, 0, none⟩), .int .i64 n] w fun e w' => e = .returned (.int .i64 (usE es U n)) ∧ w' = w := by
  obtain ⟨bn, v, c0, hl, _, hv⟩ := h.lookV hn
  have hu : v.us = usE es U n := by
    unfold usE
    split at hv
    · rw [hv]; rfl
    · exact hv.us
  have hf := fieldUs v
  rw [hu] at hf
  have hp := h.lt
  clear h hv hu
  generalize usE es U n = u at *
  generalize aN v = av at *
  go_enter Tryz.func32, Tryz.ntmps32
  go_wp2_with fail
  go_ret
  exact ⟨rfl, rfl⟩
/-- A number's parent. -/
def parN (es : En) (n : Nat) : Nat := match ent es n with
  | none => 0
  | some x => parE es x
theorem shE_p (es : En) (x : List St) : (shE es x).p = parE es x := by
  by_cases hx : x = []
  · subst hx; rfl
  · obtain ⟨d, hd, subs, rfl⟩ := snoc_of hx
    rw [shE_snoc, parE_snoc]; rfl
theorem shE_q (es : En) (x : List St) : (shE es x).q = inE es x := by
  by_cases hx : x = []
  · subst hx; rfl
  · obtain ⟨d, hd, subs, rfl⟩ := snoc_of hx
    rw [shE_snoc, inE_snoc]; rfl
theorem parent_any (h : TE w c p es U E) {n : Nat} (hn : n ≤ 4611686018427387904) :
    Calls Tryz.prog 44 #[.pointer (some ⟨p, 0, none⟩), .int .i64 n] w fun e w' => e = .returned (.int .i64 (parN es n : Nat)) ∧ w' = w := by
  obtain ⟨bn, v, c0, hl, _, hv⟩ := h.lookV hn
  have hu : v.sp.p = parN es n := by
    unfold parN
    split at hv
    · rw [hv]; rfl
    · rename_i x e; rw [hv.sp]; exact shE_p es x
  have hf := fieldSp v
  have hf2 := fieldP v.sp
  rw [hu] at hf2
  have hp := h.lt
  clear h hv hu
  generalize parN es n = u at *
  generalize aN v = av at *
  generalize aSp v.sp = sv at *
  go_enter Tryz.func44, Tryz.ntmps44
  go_wp2_with fail
  go_ret
  exact ⟨rfl, rfl⟩
/-- How many steps a number's chain has. -/
def depN (es : En) (n : Nat) : Nat := match ent es n with
  | none => 0
  | some x => x.length
theorem depN_par {n : Nat} (ok : EsOK es) : (parN es n = 0 → depN es n = 0) ∧ (parN es n ≠ 0 → depN es n = depN es (parN es n) + 1 ∧ parN es n < n) := by
  unfold parN depN
  cases e : ent es n with
  | none => simp
  | some x =>
    simp only
    by_cases hx : x = []
    · subst hx; simp [parE_nil]
    · obtain ⟨d, hd, subs, rfl⟩ := snoc_of hx
      have hz := (ent_fnd ok).1 e
      have hp := fnd_parent ok (d := d) (s := .mk hd subs) (by omega)
      rw [parE_snoc, (ent_fnd ok).2 ⟨hp.1, rfl⟩]
      exact ⟨fun e => absurd e hp.1, fun _ => ⟨by simp, by omega⟩⟩
def DepR (es : En) (n k u : Nat) : Prop := (u = 0 → depN es n = k) ∧ (u ≠ 0 → depN es n = k + depN es u + 1)
set_option maxHeartbeats 2000000 in
theorem depth_any (h : TE w c p es U E) (hes : es.length ≤ 3000) {n : Nat} (hn : n ≤ 100000) :
    Calls Tryz.prog 45 #[.pointer (some ⟨p, 0, none⟩), .int .i64 n] w fun e w' => e = .returned (.int .i64 (depN es n : Nat)) ∧ w' = w := by
  have ok := h.ok
  have CP := Lib.hid (fun (k : Nat) (hk : k ≤ 100000) => parent_any h (n := k) (by omega))
  have HD := Lib.hid (fun k => depN_par (n := k) ok)
  have hpb : ∀ k, parN es k ≤ 3001 := fun k => by
    unfold parN
    cases e : ent es k with
    | none => simp
    | some x => simp only; have := (par_lt ok e).1; have := ent_le e; omega
  have HPB := Lib.hid hpb
  have hdb : ∀ k, depN es k ≤ k := fun k => by
    induction k using Nat.strongRecOn with
    | _ k ih =>
      by_cases e : parN es k = 0
      · rw [(HD.out k).1 e]; omega
      · obtain ⟨h1, h2⟩ := (HD.out k).2 e
        have := ih _ h2
        omega
  have HDB := Lib.hid hdb
  clear h ok hpb hdb
  obtain ⟨q, hq⟩ : ∃ q, parN es n = q := ⟨_, rfl⟩
  have CP0 := Lib.hid (CP.out n hn)
  rw [hq] at CP0
  have HQ := Lib.hid hq
  clear hq
  go_enter Tryz.func45, Tryz.ntmps45
  go_wp2_with fail
  refine CP0.out.mono ?_
  rintro e w1 ⟨rfl, e1⟩
  subst e1
  clear CP0
  go_wp2_with fail
  go_loopw [5, 6] (fun dv uv wr => ∃ (k u : Nat), dv = .int .i64 k ∧ uv = .int .i64 u ∧ DepR es n k u ∧ u ≤ 3001 ∧ k ≤ 100000 ∧ wr = w1) (fun _ uv _ => (intOf uv).toNat)
  case atStart =>
    refine ⟨0, q, rfl, rfl, ⟨fun e => ?_, fun e => ?_⟩, ?_, by omega, rfl⟩
    · exact (HD.out n).1 (by rw [HQ.out]; exact e)
    · have := ((HD.out n).2 (by rw [HQ.out]; exact e)).1
      rw [HQ.out] at this; omega
    · rw [← HQ.out]; exact HPB.out n
  case round =>
    obtain ⟨k, u, rfl, rfl, hk, hu, hk2, rfl⟩ := hrel
    have HK := Lib.hid hk
    clear hk
    by_cases h0 : u = 0
    · subst h0
      go_wp2_with fail
      go_ret
      refine ⟨?_, by first | rfl | trivial⟩
      have := HK.out.1 rfl
      simp [this]
    · have hne : ((u : Int) != 0) = true := bne_iff_ne.2 (by omega)
      have hkb : k + 1 ≤ 100000 := by
        have h1 := HK.out.2 h0
        have h2 := HDB.out n
        omega
      have CU := Lib.hid (CP.out u (by omega))
      have HD' := Lib.hid (HD.out u)
      have HPU := Lib.hid (HPB.out u)
      obtain ⟨q2, hq2⟩ : ∃ q2, parN es u = q2 := ⟨_, rfl⟩
      rw [hq2] at CU HD' HPU
      have H0 := Lib.hid h0
      clear hq2 h0
      go_wp2_with fail
      refine CU.out.mono ?_
      rintro e w2 ⟨rfl, e2⟩
      subst e2
      clear CU
      go_wp2_with fail
      go_roundw
      case rel =>
        refine ⟨k + 1, q2, by go_num, rfl, ⟨fun e => ?_, fun e => ?_⟩, HPU.out, hkb, by first | rfl | trivial⟩
        · have h1 := HK.out.2 H0.out
          have h2 := HD'.out.1 e
          omega
        · have h1 := HK.out.2 H0.out
          have h2 := (HD'.out.2 e).1
          omega
      case measure =>
        have h0 := H0.out
        by_cases e : q2 = 0
        · subst e; simp [intOf]; omega
        · have h2 := (HD'.out.2 e).2
          simp [intOf]; omega
end
end
section
open Go.RowKit Go.Maps Go.WideMaps
set_option maxRecDepth 100000

/-- One less at i. -/
def less1 (U : Nat → Int) (i n : Nat) : Int := if n = i then U n - 1 else U n
section
variable {w w' : World} {c : Nat → Nat} {p : Nat} {es : En} {U E : Nat → Int}
theorem ndE_decU {i : Nat} {d : Nd} (h : ndE es U E i = some d) : setF (ndE es U E) i (some { d with us := d.us - 1 }) = ndE es (less1 U i) E := by
  funext j
  by_cases hj : j = i
  · subst hj
    rw [setF_same]
    unfold ndE at h ⊢
    obtain ⟨x, hx, rfl⟩ := Option.map_eq_some_iff.1 h
    rw [hx, Option.map_some]
    simp [less1]
  · rw [setF_other _ _ hj]
    unfold ndE less1
    rw [if_neg hj]
theorem ndE_decE {i : Nat} {d : Nd} (h : ndE es U E i = some d) : setF (ndE es U E) i (some { d with li := d.li - 1 }) = ndE es U (less1 E i) := by
  funext j
  by_cases hj : j = i
  · subst hj
    rw [setF_same]
    unfold ndE at h ⊢
    obtain ⟨x, hx, rfl⟩ := Option.map_eq_some_iff.1 h
    rw [hx, Option.map_some]
    simp [less1]
  · rw [setF_other _ _ hj]
    unfold ndE less1
    rw [if_neg hj]
theorem ch_decU_E (h : TE w c p es U E) (hn : es.length ≤ 3000) {x : List St} {i : Nat} (hi : fnd es x = i) (hz : i ≠ 0) (hu : -1000000 ≤ U i ∧ U i ≤ 1000000) :
    Calls Tryz.prog 26 #[.pointer (some ⟨p, 0, none⟩), .int .i64 i, .func (.func 31) #[] #[]] w fun e w' => e = .returned (.tuple #[]) ∧ ∃ c', TEG w w' c p es (less1 U i) E c' := by
  obtain ⟨nm, h1, h2⟩ := h.ex
  obtain ⟨d, hd⟩ := ndE_at (U := U) (E := E) h.ok (x := x) (by omega)
  rw [hi] at hd
  refine (ch_decU h2 (by omega) i hd (by rw [(ndE_us hd).1]; exact hu)).mono ?_
  rintro e w' ⟨he, c', tg⟩
  rw [ndE_decU hd] at tg
  exact ⟨he, c', tg.toE h.ok h1 rfl⟩
theorem ch_decE_E (h : TE w c p es U E) (hn : es.length ≤ 3000) {x : List St} {i : Nat} (hi : fnd es x = i) (hz : i ≠ 0) (hu : -1000000 ≤ E i ∧ E i ≤ 1000000) :
    Calls Tryz.prog 26 #[.pointer (some ⟨p, 0, none⟩), .int .i64 i, .func (.func 27) #[] #[]] w fun e w' => e = .returned (.tuple #[]) ∧ ∃ c', TEG w w' c p es U (less1 E i) c' := by
  obtain ⟨nm, h1, h2⟩ := h.ex
  obtain ⟨d, hd⟩ := ndE_at (U := U) (E := E) h.ok (x := x) (by omega)
  rw [hi] at hd
  refine (ch_decL h2 (by omega) i hd (by rw [(ndE_us hd).2]; exact hu)).mono ?_
  rintro e w' ⟨he, c', tg⟩
  rw [ndE_decE hd] at tg
  exact ⟨he, c', tg.toE h.ok h1 rfl⟩
theorem take_E (h : TE w c p es U E) (hn : es.length ≤ 2000) {n : Nat} {x : List St} (g : GoneC es n x) :
    Calls Tryz.prog 33 #[.pointer (some ⟨p, 0, none⟩), .int .i64 n] w fun e w' => e = .returned (.tuple #[]) ∧ ∃ c', TEG w w' c p (killE es n) U E c' := by
  obtain ⟨nm, hnm, ht⟩ := h.ex
  have hd : ndE es U E n = some ⟨shE es x, kidsE es n, outerE es n, E n, U n⟩ := by unfold ndE; rw [g.hc]; rfl
  have hlt := par_lt g.ok g.hc
  have hle := ent_le g.hc
  have hs : SpOK (shE es x) := by
    by_cases hx : x = []
    · subst hx; exact spOK_z
    · have hg := ent_gd g.ok g.hc
      obtain ⟨d, hd2, subs, rfl⟩ := snoc_of hx
      rw [inE_snoc, parE_snoc] at hlt
      rw [shE_snoc]
      exact spOK_of (hg (.mk hd2 subs) (by simp)).hd.1 (by omega) (by omega)
  have hT := take_any ht (by omega) n _ hd hs (parE es x) (inE es x) (by rw [shE_p]) (by rw [shE_q]) hlt.1 hlt.2 (fun j y hy => by have := ndE_kids hy; omega)
    (fun y hy => by
      unfold ndE at hy
      obtain ⟨z, _, rfl⟩ := Option.map_eq_some_iff.1 hy
      exact ⟨kidsE_rise _ _, mem_kidsE.2 ⟨x, g.hc, rfl⟩⟩)
    (fun y hy => by
      unfold ndE at hy
      obtain ⟨z, _, rfl⟩ := Option.map_eq_some_iff.1 hy
      exact ⟨outerE_rise _ _, mem_outerE.2 ⟨x, g.hc, rfl⟩⟩)
  refine hT.mono ?_
  rintro e w' ⟨he, c', tg⟩
  have e1 : lessO (lessK (setF (ndE es U E) n none) (parE es x) n) (inE es x) n = ndE (killE es n) U E := by
    rw [g.nd]; rfl
  have e2 : setF nm (shE es x) none = fun s => if s = shE es x then none else nm s := by
    funext s
    by_cases hs : s = shE es x
    · subst hs; rw [setF_same, if_pos rfl]
    · rw [setF_other _ _ hs, if_neg hs]
  rw [e1] at tg
  dsimp only at tg
  rw [e2] at tg
  exact ⟨he, c', tg.toE g.next (g.nm hnm) (by rw [killE_length])⟩
end
end
section
section
open Go.RowKit
set_option maxRecDepth 100000

/-- The lists that there are, the chains' numbers, how often each is used and ended. -/
structure TLS (ls : List (List St)) (es : En) (U E : Nat → Int) : Prop where
  tl : TL ls es
  us : ∀ x, fnd es x ≠ 0 → U (fnd es x) = (usesL ls x : Nat)
  en : ∀ x, fnd es x ≠ 0 → E (fnd es x) = (endsL ls x : Nat)
  dead : ∀ n, ent es n = none → U n = 0 ∧ E n = 0
theorem TLS.nil : TLS [] [] (fun _ => 0) (fun _ => 0) := ⟨TL.nil, fun _ _ => by simp [usesL], fun _ _ => by simp [endsL], fun _ _ => ⟨rfl, rfl⟩⟩
theorem ent_far {es : En} {n : Nat} (h : es.length + 2 ≤ n) : ent es n = none := by
  cases e : ent es n with
  | none => rfl
  | some x => have := ent_le e; omega
section
variable {ls : List (List St)} {es : En} {U E : Nat → Int} {l : List St}
theorem TLS.far (h : TLS ls es U E) : ∀ n, es.length + 2 ≤ n → U n = 0 ∧ E n = 0 := fun n hn => h.dead n (ent_far hn)
theorem TLS.bnd (h : TLS ls es U E) (n : Nat) : (0 ≤ U n ∧ U n ≤ (ls.length : Nat)) ∧ (0 ≤ E n ∧ E n ≤ (ls.length : Nat)) := by
  cases e : ent es n with
  | none => rw [(h.dead n e).1, (h.dead n e).2]; omega
  | some x =>
    have hx := (ent_fnd h.tl.ok).1 e
    have h1 := h.us x (by omega)
    have h2 := h.en x (by omega)
    rw [hx.2] at h1 h2
    have := usesL_le ls x
    have := endsL_le ls x
    omega
theorem chs_ne_nil {x : List St} (h : x ∈ chSL l []) : x ≠ [] := chain_ne h
theorem nil_not : ([] : List St) ∉ chSL l [] := fun h => chain_ne h rfl
theorem cs_nodup (l : List St) : ([] :: chSL l []).Nodup := List.nodup_cons.2 ⟨nil_not, chSL_nodup l []⟩
/-- A number that is given anew is a great one. -/
theorem addAll_new {x : List St} : ∀ (D : List (List St)) (es : En), fnd es x = 0 → fnd (addAll es D) x ≠ 0 → es.length + 2 ≤ fnd (addAll es D) x
  | [], es, h0, h => absurd h0 h
  | c :: r, es, h0, h => by
    show es.length + 2 ≤ fnd (addAll (addC es c) r) x
    by_cases h1 : fnd (addC es c) x = 0
    · have := addAll_new r (addC es c) h1 h
      have := addC_mono es c
      omega
    · rw [addAll_old r h1]
      unfold addC at h1 ⊢
      split at h1
      · rename_i e
        rw [if_pos e]
        rw [fnd_more, h0] at h1 ⊢
        simp at h1 ⊢
        rw [if_pos h1]
        omega
      · exact absurd h0 h1
theorem count_ids {es : En} (ok : EsOK es) {cs : List (List St)} (hn : cs.Nodup) (hc : ∀ x ∈ cs, fnd es x ≠ 0) {x : List St} (hx : fnd es x ≠ 0) : (cs.map (fnd es)).count (fnd es x) = if x ∈ cs then 1 else 0 := by
  induction cs with
  | nil => simp
  | cons y r ih =>
    have hy := hc y (by simp)
    have h2 := List.nodup_cons.1 hn
    rw [List.map_cons, List.count_cons, ih h2.2 (fun z hz => hc z (by simp [hz]))]
    by_cases e : y = x
    · subst e; simp [h2.1]
    · have : fnd es y ≠ fnd es x := fun e2 => e (fnd_inj ok e2 hy)
      have e3 : x ≠ y := fun e2 => e e2.symm
      simp [this, e3]
theorem idsE_eq (es : En) (l : List St) : idsE es l = ([] :: chSL l []).map (fnd es) := by unfold idsE; rw [List.map_cons, fnd_nil]
theorem TLS.add (h : TLS ls es U E) (hl : Rl l) : TLS (ls ++ [l]) (addAll es (chSL l [])) (bump U (idsE (addAll es (chSL l [])) l)) (bump E [fnd (addAll es (chSL l [])) l]) := by
  have ht := h.tl.add hl
  have hc : ∀ x ∈ [] :: chSL l [], fnd (addAll es (chSL l [])) x ≠ 0 := fun x hx => by
    rcases List.mem_cons.1 hx with rfl | hx
    · rw [fnd_nil]; omega
    · exact addAll_has hx
  have hlf : fnd (addAll es (chSL l [])) l ≠ 0 := by
    by_cases e : l = []
    · rw [e]; simp [fnd_nil]
    · exact addAll_has (chain_self e)
  have hold : ∀ x, fnd (addAll es (chSL l [])) x ≠ 0 → U (fnd (addAll es (chSL l [])) x) = (usesL ls x : Nat) ∧ E (fnd (addAll es (chSL l [])) x) = (endsL ls x : Nat) := fun x hx => by
    by_cases h0 : fnd es x = 0
    · have hf := addAll_new _ _ h0 hx
      have hx0 : x ≠ [] := fun e => by rw [e, fnd_nil] at h0; omega
      have hu : usesL ls x = 0 := by
        by_cases e : 0 < usesL ls x
        · exact absurd h0 ((h.tl.all x hx0).2 e)
        · omega
      have he : endsL ls x = 0 := by
        by_cases e : 0 < endsL ls x
        · have := (usesL_pos hx0).2 ⟨x, endsL_pos.1 e, chain_self hx0⟩
          omega
        · omega
      rw [(h.far _ hf).1, (h.far _ hf).2, hu, he]
      exact ⟨rfl, rfl⟩
    · rw [addAll_old _ h0]
      exact ⟨h.us x h0, h.en x h0⟩
  refine ⟨ht, fun x hx => ?_, fun x hx => ?_, fun n hn => ?_⟩
  · unfold bump
    rw [(hold x hx).1, idsE_eq, count_ids ht.ok (cs_nodup l) hc hx, usesL_snoc]
    simp only [List.mem_cons]
    split <;> simp
  · unfold bump
    rw [(hold x hx).2, endsL_snoc, List.count_singleton]
    by_cases e : l = x
    · subst e; simp
    · have : fnd (addAll es (chSL l [])) l ≠ fnd (addAll es (chSL l [])) x := fun e2 => e (fnd_inj ht.ok e2 hlf)
      simp [this, e]
  · have hno : ∀ x, fnd (addAll es (chSL l [])) x ≠ 0 → fnd (addAll es (chSL l [])) x ≠ n := fun x hx e => by
      have := (ent_fnd ht.ok (c := x) (n := n)).2 ⟨by omega, e⟩
      rw [hn] at this; cases this
    have hn0 : ent es n = none := by
      cases e : ent es n with
      | none => rfl
      | some x =>
        have hx := (ent_fnd h.tl.ok).1 e
        exact absurd (by rw [addAll_old _ (by omega)]; exact hx.2) (hno x (by rw [addAll_old _ (by omega)]; omega))
    unfold bump
    rw [(h.dead n hn0).1, (h.dead n hn0).2, idsE_eq, List.count_eq_zero.2, List.count_eq_zero.2]
    · simp
    · intro hm
      exact hno l hlf (List.mem_singleton.1 hm).symm
    · intro hm
      obtain ⟨x, hx, e⟩ := List.mem_map.1 hm
      exact hno x (hc x hx) e
theorem usesL_erase {x : List St} (hl : l ∈ ls) : usesL ls x = usesL (ls.erase l) x + if x ∈ [] :: chSL l [] then 1 else 0 := by
  unfold usesL
  rw [(List.perm_cons_erase hl).countP_eq, List.countP_cons]
  simp
theorem endsL_erase {x : List St} (hl : l ∈ ls) : endsL ls x = endsL (ls.erase l) x + if l = x then 1 else 0 := by
  unfold endsL
  rw [(List.perm_cons_erase hl).countP_eq, List.countP_cons]
  simp
/-- Whether a chain goes with the list. -/
def goes (ls : List (List St)) (l x : List St) : Bool := decide (x ≠ [] ∧ usesL (ls.erase l) x = 0)
/-- What the rounds have made: D is behind, still to be done ahead. -/
structure RemI (ls : List (List St)) (l : List St) (es : En) (U : Nat → Int) (D : List (List St)) (es2 : En) (U2 : Nat → Int) (out : List Nat) : Prop where
  ok : EsOK es2
  len : es2.length = es.length
  fn : ∀ x, fnd es2 x = if x ∈ D ∧ goes ls l x = true then 0 else fnd es x
  us : ∀ n, U2 n = U n - if n ∈ D.map (fnd es) then 1 else 0
  out : out = (D.reverse.filter (goes ls l)).map (fnd es)
theorem RemI.nil (h : EsOK es) : RemI ls l es U [] es U [] := ⟨h, rfl, fun x => by simp, fun n => by simp, by simp⟩
theorem usE_of {es : En} (ok : EsOK es) {U : Nat → Int} {x : List St} (hx : fnd es x ≠ 0) : usE es U (fnd es x) = U (fnd es x) := by
  unfold usE
  have := (ent_fnd ok (c := x) (n := fnd es x)).2 ⟨hx, rfl⟩
  rw [this]
/-- One round. -/
theorem RemI.round (h : TLS ls es U E) (hl : l ∈ ls) {A D : List (List St)} {x : List St} (hcs : [] :: chSL l [] = A ++ x :: D) {es2 : En} {U2 : Nat → Int} {out : List Nat} (r : RemI ls l es U D es2 U2 out) :
    fnd es2 x = fnd es x ∧ fnd es x ≠ 0 ∧ usE es2 (less1 U2 (fnd es x)) (fnd es x) = (usesL (ls.erase l) x : Nat) ∧
    (goes ls l x = true → GoneC es2 (fnd es x) x ∧ RemI ls l es U (x :: D) (killE es2 (fnd es x)) (less1 U2 (fnd es x)) (out ++ [fnd es x])) ∧
    (goes ls l x = false → RemI ls l es U (x :: D) es2 (less1 U2 (fnd es x)) out) := by
  have hnd := cs_nodup l
  rw [hcs] at hnd
  have hxD : x ∉ D := (List.nodup_cons.1 (List.nodup_append.1 hnd).2.1).1
  have halive : ∀ y ∈ [] :: chSL l [], fnd es y ≠ 0 := fun y hy => by
    rcases List.mem_cons.1 hy with rfl | hy
    · rw [fnd_nil]; omega
    · exact (h.tl.all y (chain_ne hy)).2 ((usesL_pos (chain_ne hy)).2 ⟨l, hl, hy⟩)
  have hxm : x ∈ [] :: chSL l [] := by rw [hcs]; simp
  have hx0 := halive x hxm
  have hfx : fnd es2 x = fnd es x := by rw [r.fn, if_neg (fun e => hxD e.1)]
  have hids : ∀ y ∈ D, fnd es y ≠ fnd es x := fun y hy e => hxD (by
    have := fnd_inj h.tl.ok e.symm hx0
    rwa [this])
  have hU : less1 U2 (fnd es x) (fnd es x) = (usesL (ls.erase l) x : Nat) := by
    unfold less1
    rw [if_pos rfl, r.us, if_neg (fun e => by
      obtain ⟨y, hy, e⟩ := List.mem_map.1 e
      exact hids y hy e), h.us x hx0, usesL_erase hl, if_pos hxm]
    omega
  have hus : ∀ n, less1 U2 (fnd es x) n = U n - if n ∈ (x :: D).map (fnd es) then 1 else 0 := fun n => by
    unfold less1
    rw [r.us, List.map_cons]
    by_cases e : n = fnd es x
    · subst e
      rw [if_pos rfl, if_neg (fun e => by
        obtain ⟨y, hy, e⟩ := List.mem_map.1 e
        exact hids y hy e)]
      simp
    · rw [if_neg e]
      simp [e]
  refine ⟨hfx, hx0, ?_, fun hg => ?_, fun hg => ?_⟩
  · have := usE_of r.ok (U := less1 U2 (fnd es x)) (x := x) (by rw [hfx]; exact hx0)
    rw [hfx] at this
    rw [this, hU]
  · have hg2 : x ≠ [] ∧ usesL (ls.erase l) x = 0 := by unfold goes at hg; exact of_decide_eq_true hg
    have gc : GoneC es2 (fnd es x) x := by
      refine ⟨r.ok, (ent_fnd r.ok).2 ⟨hx0, hfx⟩, ?_, fun m y hy hxy => ?_⟩
      · have : fnd es x ≠ 1 := fun e => hg2.1 (fnd_one.1 e)
        omega
      · by_cases hyx : x = y
        · exact hyx.symm
        · exfalso
          have hm := (ent_fnd r.ok).1 hy
          have hy0 : y ≠ [] := fun e => by rw [e] at hxy; simp [chSL_nil] at hxy
          have hyf := r.fn y
          have hu : usesL (ls.erase l) y = 0 := by
            by_cases e : 0 < usesL (ls.erase l) y
            · obtain ⟨l2, hl2, hy2⟩ := (usesL_pos hy0).1 e
              have := (usesL_pos hg2.1).2 ⟨l2, hl2, chain_sub hy2 hxy⟩
              omega
            · omega
          have hgy : goes ls l y = true := by unfold goes; exact decide_eq_true ⟨hy0, hu⟩
          have hyD : y ∉ D := fun e => by rw [if_pos ⟨e, hgy⟩] at hyf; omega
          rw [if_neg (fun e => hyD e.1)] at hyf
          have hul := (h.tl.all y hy0).1 (by omega)
          rw [usesL_erase hl, hu] at hul
          have hyc : y ∈ [] :: chSL l [] := by
            by_cases e : y ∈ [] :: chSL l []
            · exact e
            · rw [if_neg e] at hul; omega
          rw [hcs] at hyc
          rcases List.mem_append.1 hyc with hyA | hyB
          · obtain ⟨A1, A2, rfl⟩ := List.append_of_mem hyA
            cases A1 with
            | nil => simp at hcs; exact hy0 (by rw [hcs.1])
            | cons z A1 =>
              simp at hcs
              have e2 : chSL l [] = A1 ++ y :: (A2 ++ x :: D) := by rw [hcs.2]
              rw [chain_ahead e2] at hxy
              have hn2 := chSL_nodup l []
              rw [e2, List.nodup_append] at hn2
              rcases List.mem_append.1 hxy with hxy | hxy
              · exact hn2.2.2 x hxy x (by simp) rfl
              · exact hyx (List.mem_singleton.1 hxy)
          · rcases List.mem_cons.1 hyB with e | e
            · exact hyx e.symm
            · exact hyD e
    refine ⟨gc, gc.next, by rw [killE_length]; exact r.len, fun y => ?_, hus, ?_⟩
    · rw [fnd_kill r.ok gc.hc gc.hn y gc.next, r.fn]
      by_cases e : y = x
      · subst e; simp [hg]
      · simp [e]
    · rw [r.out]; simp [hg]
  · refine ⟨r.ok, r.len, fun y => ?_, hus, ?_⟩
    · rw [r.fn]
      by_cases e : y = x
      · subst e; simp [hg]
      · simp [e]
    · rw [r.out]; simp [hg]
/-- All rounds done. -/
theorem RemI.done (h : TLS ls es U E) (hl : l ∈ ls) {es2 : En} {U2 : Nat → Int} {out : List Nat} (r : RemI ls l es U ([] :: chSL l []) es2 U2 out) : TLS (ls.erase l) es2 U2 (less1 E (fnd es l)) := by
  have halive : ∀ y ∈ [] :: chSL l [], fnd es y ≠ 0 := fun y hy => by
    rcases List.mem_cons.1 hy with rfl | hy
    · rw [fnd_nil]; omega
    · exact (h.tl.all y (chain_ne hy)).2 ((usesL_pos (chain_ne hy)).2 ⟨l, hl, hy⟩)
  have hlf : fnd es l ≠ 0 := by
    by_cases e : l = []
    · rw [e, fnd_nil]; omega
    · exact halive l (List.mem_cons_of_mem _ (chain_self e))
  have hal : ∀ x, fnd es2 x ≠ 0 → fnd es2 x = fnd es x := fun x hx => by
    have := r.fn x
    split at this
    · exact absurd this hx
    · exact this
  have hall : ∀ x, x ≠ [] → (fnd es2 x ≠ 0 ↔ 0 < usesL (ls.erase l) x) := fun x hx => by
    rw [r.fn]
    have e1 := usesL_erase (x := x) hl
    have e2 := h.tl.all x hx
    by_cases hm : x ∈ [] :: chSL l []
    · have hz := halive x hm
      by_cases hg : goes ls l x = true
      · rw [if_pos ⟨hm, hg⟩]
        unfold goes at hg
        have := (of_decide_eq_true hg).2
        omega
      · rw [if_neg (fun e => hg e.2)]
        unfold goes at hg
        have : ¬ (x ≠ [] ∧ usesL (ls.erase l) x = 0) := fun e => hg (decide_eq_true e)
        constructor
        · intro _
          by_cases e : usesL (ls.erase l) x = 0
          · exact absurd ⟨hx, e⟩ this
          · omega
        · intro _; exact hz
    · rw [if_neg (fun e => hm e.1), e2, e1, if_neg hm]
      omega
  refine ⟨⟨r.ok, fun x hx => h.tl.rl x (List.mem_of_mem_erase hx), hall⟩, fun x hx => ?_, fun x hx => ?_, fun n hn => ?_⟩
  · have e := hal x hx
    rw [e, r.us, h.us x (by omega), usesL_erase hl]
    have : (fnd es x ∈ ([] :: chSL l []).map (fnd es)) ↔ x ∈ [] :: chSL l [] := by
      constructor
      · intro hm
        obtain ⟨y, hy, e2⟩ := List.mem_map.1 hm
        have := fnd_inj h.tl.ok e2 (halive y hy)
        rwa [← this]
      · intro hm; exact List.mem_map_of_mem hm
    by_cases hm : x ∈ [] :: chSL l []
    · rw [if_pos hm, if_pos (this.2 hm)]; omega
    · rw [if_neg hm, if_neg (fun e => hm (this.1 e))]; omega
  · have e := hal x hx
    rw [e]
    unfold less1
    rw [h.en x (by omega), endsL_erase hl]
    by_cases hm : l = x
    · subst hm; rw [if_pos rfl, if_pos rfl]; omega
    · rw [if_neg hm, if_neg (fun e2 => hm (fnd_inj h.tl.ok e2.symm hlf))]; omega
  · cases e : ent es n with
    | none =>
      have hno : ∀ x, fnd es x ≠ 0 → fnd es x ≠ n := fun x hx e2 => by
        have := (ent_fnd h.tl.ok (c := x) (n := n)).2 ⟨by omega, e2⟩
        rw [e] at this; cases this
      rw [r.us, (h.dead n e).1]
      unfold less1
      rw [(h.dead n e).2, if_neg (fun hm => by
        obtain ⟨y, hy, e2⟩ := List.mem_map.1 hm
        exact hno y (halive y hy) e2), if_neg (fun e2 => hno l hlf e2.symm)]
      exact ⟨rfl, rfl⟩
    | some x =>
      have hx := (ent_fnd h.tl.ok).1 e
      have hk : x ∈ [] :: chSL l [] ∧ goes ls l x = true := by
        by_cases hk : x ∈ [] :: chSL l [] ∧ goes ls l x = true
        · exact hk
        · have := r.fn x
          rw [if_neg hk] at this
          have := (ent_fnd r.ok (c := x) (n := n)).2 ⟨hx.1, by omega⟩
          rw [hn] at this; cases this
      have hg : x ≠ [] ∧ usesL (ls.erase l) x = 0 := by have := hk.2; unfold goes at this; exact of_decide_eq_true this
      have hx2 : fnd es x ≠ 0 := by omega
      have hend : endsL (ls.erase l) x = 0 := by
        by_cases e : 0 < endsL (ls.erase l) x
        · have := (usesL_pos hg.1).2 ⟨x, endsL_pos.1 e, chain_self hg.1⟩
          omega
        · omega
      constructor
      · rw [r.us, if_pos (by rw [← hx.2]; exact List.mem_map_of_mem hk.1), ← hx.2, h.us x hx2, usesL_erase hl, if_pos hk.1, hg.2]
        rfl
      · unfold less1
        rw [← hx.2, h.en x hx2, endsL_erase hl, hend]
        by_cases hm : l = x
        · subst hm; simp
        · rw [if_neg hm, if_neg (fun e2 => hm (fnd_inj h.tl.ok e2.symm hlf))]; rfl
end
end
end
section
open Go.RowKit Go.Maps Go.WideMaps
set_option maxRecDepth 100000

theorem wpList_len_run {P : Program} {w : World} {ops : Array Oper} {rest : List Oper} {o : Oper} {a : Act} {Q : Exit → Act → World → Prop} (hgd : o.guard = none) (x : Operand) (t : TypeId)
    (ho : o.op = .call { callee := .builtin .len, args := #[x], argTypes := #[t] }) (v : Value) (hx : a.eval x = v) {v' : Value}
    (hr : (Builtin.len_ #[t] o.type #[v]).run P w = .ok v' w) (h : wpList P ops Q rest (a.put o.dst v') w) : wpList P ops Q (o :: rest) a w := by
  refine wpList_plain hgd fun K hK => ?_
  unfold Oper.wp execOp
  simp only [ho, resolve, invoke, builtin, Sem.run_bind, Sem.run_pure, Result.andThen_ok, List.map_toArray, List.map_cons, List.map_nil, hx, hr]
  exact hK _ _ h
section
variable {w : World} {c : Nat → Nat} {p : Nat} {es : En} {U E : Nat → Int} {ls : List (List St)}
theorem len_any (ht : TE w c p es U E) (h : TLS ls es U E) {Dis : List (List St)} (hn : Dis.Nodup) (hD : ∀ x, x ∈ Dis ↔ x ≠ [] ∧ 0 < usesL ls x) :
    Calls Tryz.prog 17 #[.pointer (some ⟨p, 0, none⟩)] w fun e w' => e = .returned (.int .i64 ((Dis.length + 1 : Nat) : Int)) ∧ w' = w := by
  have hal : ∀ x ∈ [] :: Dis, fnd es x ≠ 0 := fun x hx => by
    rcases List.mem_cons.1 hx with rfl | hx
    · rw [fnd_nil]; omega
    · exact (h.tl.all x ((hD x).1 hx).1).2 ((hD x).1 hx).2
  have hnd : (([] :: Dis).map (fnd es)).Nodup := by
    have h0 : ([] :: Dis).Nodup := List.nodup_cons.2 ⟨fun e => ((hD []).1 e).1 rfl, hn⟩
    rw [List.Nodup, List.pairwise_map]
    exact List.Pairwise.imp_of_mem (fun {a b} ha hb hne e => hne (fnd_inj ht.ok e (hal a ha))) h0
  obtain ⟨nm, h1, bn, bs, nv, h2⟩ := ht.ex
  have hks : ∀ k, k ∈ ([] :: Dis).map (fnd es) ↔ nv k ≠ none := fun k => by
    have e1 : nv k ≠ none ↔ ndE es U E k ≠ none := by
      rcases h2.rows k with ⟨a, b⟩ | ⟨d, v, a, b, _⟩
      · rw [a, b]; simp
      · rw [a, b]; simp
    rw [e1]
    unfold ndE
    rw [List.mem_map]
    constructor
    · rintro ⟨x, hx, rfl⟩
      rw [(ent_fnd ht.ok (c := x)).2 ⟨hal x hx, rfl⟩]
      simp
    · intro hk
      cases e : ent es k with
      | none => rw [e] at hk; exact absurd rfl hk
      | some x =>
        have hx := (ent_fnd ht.ok).1 e
        refine ⟨x, ?_, hx.2⟩
        by_cases e0 : x = []
        · subst e0; simp
        · exact List.mem_cons_of_mem _ ((hD x).2 ⟨e0, (h.tl.all x e0).1 (by omega)⟩)
  have hl := h2.mn.len uNodes 3 hnd hks
  rw [show (([] :: Dis).map (fnd es)).length = Dis.length + 1 by simp] at hl
  have c0 : w.cell? ⟨p, 0, none⟩ = some (.map (some bn)) := by have := h2.blk.cell 0; simpa using this
  have hp := h2.blk.lt
  generalize ((Dis.length + 1 : Nat) : Int) = k at *
  clear h1 h2 hks hnd hal h ht
  go_enter Tryz.func17, Tryz.ntmps17
  go_wp2_with (refine wpList_len_run rfl (.tmp 6) 51 rfl _ rfl hl ?_)
  go_ret
  exact ⟨rfl, rfl⟩
end
theorem In.oneN {w : World} {a : Option Addr} {len : Nat} {xs : List Nat} (h : In cNt 1 w a len xs) {j : Nat} {x : Nat} (hj : xs[j]? = some x) : ∃ b o, a = some ⟨b, o, none⟩ ∧ b < w.heap.size ∧ w.cell? ⟨b, o + j, none⟩ = some (.int .i64 x) := by
  obtain ⟨b, o, e, hb, hc⟩ := h.at_ hj
  have := hc 0 _ rfl
  rw [Nat.mul_one] at this
  exact ⟨b, o, e, hb, this⟩
theorem take_eq_succ {α : Type} {xs ys : List α} {j : Nat} {x y : α} (h : xs.take j = ys.take j) (hx : xs[j]? = some x) (hy : ys[j]? = some y) (e : x = y) : xs.take (j + 1) = ys.take (j + 1) := by
  rw [List.take_add_one, List.take_add_one, h, hx, hy, e]
set_option maxHeartbeats 4000000 in
theorem ints_any {w : World} {a a' : Option Addr} {n n' c c' : Nat} {xs ys : List Nat} (hx : In cNt 1 w a n xs) (hy : In cNt 1 w a' n' ys) (hn : n ≤ 100000) (hn' : n' ≤ 100000) :
    Calls Tryz.prog 12 #[.slice a n c, .slice a' n' c'] w fun e w' => e = .returned (.bool (decide (xs = ys))) ∧ Kept Nil w w' := by
  by_cases hl : n = n'
  · subst hl
    have HX := Lib.hid hx
    have HY := Lib.hid hy
    clear hx hy
    go_enter Tryz.func12, Tryz.ntmps12
    go_wp2_with fail
    go_loopw [5, 13] (fun _ i wr => ∃ j : Nat, j ≤ n ∧ i = .int .i64 j ∧ xs.take j = ys.take j ∧ Kept Nil w wr) (fun _ i _ => n - (intOf i).toNat)
    case atStart => exact ⟨0, Nat.zero_le _, rfl, by simp, Kept.refl _ _⟩
    case round =>
      obtain ⟨j, hj, rfl, hE, hK⟩ := hrel
      have HE := Lib.hid hE
      have HK := Lib.hid hK
      clear hE hK
      by_cases hjn : j < n
      · obtain ⟨x, hxj⟩ : ∃ x, xs[j]? = some x := ⟨xs[j]'(by have := HX.out.1; omega), by simp⟩
        obtain ⟨y, hyj⟩ : ∃ y, ys[j]? = some y := ⟨ys[j]'(by have := HY.out.1; omega), by simp⟩
        obtain ⟨b, o, rfl, hb, q⟩ := (HX.out.kept HK.out).oneN hxj
        obtain ⟨b', o', rfl, hb', q'⟩ := (HY.out.kept HK.out).oneN hyj
        have HXJ := Lib.hid (And.intro hxj hyj)
        clear hxj hyj
        by_cases e : x = y
        · subst e
          go_wp2_with fail
          go_quiet (fail)
          go_wp2_with fail
          go_roundw
          case rel => exact ⟨j + 1, hjn, by go_num, take_eq_succ HE.out HXJ.out.1 HXJ.out.2 rfl, HK.out.drewN _⟩
          case measure => simp [intOf]; omega
        · have hne : ((x : Int) != (y : Int)) = true := bne_iff_ne.2 (by omega)
          have hd := Lib.hid (show decide (xs = ys) = false from decide_eq_false (fun e2 => e (by
            have h1 := HXJ.out.1
            rw [e2, HXJ.out.2] at h1
            injection h1 with h1
            exact h1.symm)))
          clear e
          go_wp2_with fail
          go_quiet (fail)
          go_wp2_with fail
          go_ret
          exact ⟨ret_bool hd.out.symm, HK.out.drewN _⟩
      · obtain rfl : j = n := by omega
        have hd := Lib.hid (show decide (xs = ys) = true from decide_eq_true (by
          have := HE.out
          rwa [List.take_of_length_le (by rw [HX.out.1]; exact Nat.le_refl _), List.take_of_length_le (by rw [HY.out.1]; exact Nat.le_refl _)] at this))
        go_wp2_with fail
        go_ret
        exact ⟨ret_bool hd.out.symm, HK.out⟩
  · have hd := Lib.hid (show decide (xs = ys) = false from decide_eq_false (fun e => hl (by rw [← hx.1, ← hy.1, e])))
    have hne : (n != n') = true := bne_iff_ne.2 hl
    have hne2 : ((n : Int) != (n' : Int)) = true := bne_iff_ne.2 (by omega)
    clear hl hx hy
    go_enter Tryz.func12, Tryz.ntmps12
    go_wp2_with fail
    go_ret
    exact ⟨ret_bool hd.out.symm, Kept.refl _ _⟩
end
section
section
open Go.RowKit
set_option maxRecDepth 100000

end
section
open Go.RowKit
set_option maxRecDepth 100000

/-- What came in, boxed: two of a kind. -/
structure TwoS (w : World) (t : TypeId) (x y : Array Value) (W : World) : Prop where
  kept : Kept Nil w W
  b0 : Blk W w.heap.size t x
  b1 : Blk W (w.heap.size + 1) t y
theorem TwoS.start (w : World) (t : TypeId) (x y : Array Value) : TwoS w t x y ((w.alloc (.cells x t)).alloc (.cells y t)) := by
  refine ⟨((Kept.refl Nil w).alloc _).alloc _, (Blk.new w _ _).alloc _, ?_⟩
  have := Blk.new (w.alloc (.cells x t)) t y
  simpa using this
theorem TwoS.step {w : World} {t : TypeId} {x y : Array Value} {W W' : World} (r : TwoS w t x y W) (k : Kept Nil W W') : TwoS w t x y W' := ⟨r.kept.trans k (fun _ _ g => g), r.b0.kept k id, r.b1.kept k id⟩
theorem SH.same_eq (k x0 x1 x2 k' y0 y1 y2 : Int) (ts us : List Tst) : (⟨k, x0, x1, x2, ts⟩ : SH).same ⟨k', y0, y1, y2, us⟩ = (decide (k = k') && (decide (x0 = y0 ∧ x1 = y1 ∧ x2 = y2) && eqTs ts us)) := by
  unfold SH.same
  rw [← eqTs_decide]
end
end
end Go.Proofs.YtljefbfjehblpaaGreat
