/- Any two matches are compared as the document says: ConfCompares returns true, and writes nothing that was there. No condition but Go's own variables. -/
import Derived.Test.YtkffcpjaciomjaaDoorXAwake
namespace Go.Proofs.YtkffcpjaciomjaaDoor
open Go.RowKit Go.Shelf Go.Sort
set_option maxRecDepth 100000

/-- What came in: a match. -/
structure MIn (w : World) (m : MC) : Prop where
  ids : In cN 1 w m.a m.n m.ids
  fits : m.n ≤ m.c
  nmax : m.n ≤ maxLen
  smax : m.r.size ≤ maxLen
/-- What came in: matches. -/
structure LIn (w : World) (a : Option Addr) (n : Nat) (l : List MC) : Prop where
  row : In cM 2 w a n l
  ids : ∀ m ∈ l, MIn w m
  max : n ≤ maxLen
theorem MIn.mok {w : World} {m : MC} (h : MIn w m) (h1 : m.n ≤ 20) (h2 : m.r.size ≤ 60) : Mok w m := ⟨h.ids, h.fits, by omega, by omega⟩
theorem MIn.kept {w w' : World} {m : MC} (h : MIn w m) (k : Kept Nil w w') : MIn w' m := ⟨h.ids.kept k, h.fits, h.nmax, h.smax⟩
theorem LIn.kept {w w' : World} {a : Option Addr} {n : Nat} {l : List MC} (h : LIn w a n l) (k : Kept Nil w w') : LIn w' a n l := ⟨h.row.kept k, fun m hm => (h.ids m hm).kept k, h.max⟩
theorem LIn.ms {w : World} {a : Option Addr} {n : Nat} {l : List MC} (h : LIn w a n l) (hs : smL l = true) : Ms w a n l := ⟨h.row, fun m hm => (h.ids m hm).mok ((smL_iff hs).2 m hm).1 ((smL_iff hs).2 m hm).2⟩
theorem LIn.le {w : World} {a : Option Addr} {n : Nat} {l : List MC} (h : LIn w a n l) (hs : smL l = true) : n ≤ 40 := by have := (smL_iff hs).1; rw [h.row.1] at this; exact this
theorem smallIn_any {w : World} {a : Option Addr} {n c : Nat} {l : List MC} (h : LIn w a n l) : Calls Tryd.prog 9 #[.slice a n c] w fun e w' => e = .returned (.bool (smL l)) ∧ Kept Nil w w' :=
  smallL_any h.row (fun m hm => ⟨(h.ids m hm).smax, (h.ids m hm).nmax⟩) h.max

set_option maxHeartbeats 4000000 in
theorem lawCmp_any {w : World} {x y : MC} (hx : MIn w x) (hy : MIn w y) (E : TabW w) :
    Calls Tryd.prog 4 #[vM x, vM y] w fun e w' => e = .returned (.bool true) ∧ Kept Nil w w' := by
  have HX := Lib.hid hx
  have HY := Lib.hid hy
  have HE := Lib.hid E
  have CA : Hid (∀ W, Kept Nil w W → Calls Tryd.prog 10 #[] W fun e w' => e = .returned (.bool true) ∧ Kept Nil W w') := Lib.hid fun W k => awake_any W (HE.out.kept k)
  obtain ⟨r, ids, n, a, c⟩ := x
  obtain ⟨s, jds, m, b, d⟩ := y
  have GA := Lib.hid (((Kept.refl Nil w).alloc (.cells #[.string r, .slice a n c] 37)).alloc (.cells #[.string s, .slice b m d] 37))
  have hB := (Blk.new w 37 #[.string r, .slice a n c]).alloc (.cells #[.string s, .slice b m d] 37)
  have hB2 := Blk.new (w.alloc (.cells #[.string r, .slice a n c] 37)) 37 #[.string s, .slice b m d]
  have hs2 : (w.alloc (.cells #[.string r, .slice a n c] 37)).heap.size = w.heap.size + 1 := by simp
  have hs3 : ((w.alloc (.cells #[.string r, .slice a n c] 37)).alloc (.cells #[.string s, .slice b m d] 37)).heap.size = w.heap.size + 1 + 1 := by simp
  rw [hs2] at hB2
  have hD := Blk.new ((w.alloc (.cells #[.string r, .slice a n c] 37)).alloc (.cells #[.string s, .slice b m d] 37)) 37 #[.string r, .slice a n c, .string s, .slice b m d]
  rw [hs3] at hD
  generalize hW0 : (w.alloc (.cells #[.string r, .slice a n c] 37)).alloc (.cells #[.string s, .slice b m d] 37) = W0 at GA hB hB2 hD hs3
  have HB : Hid (∀ W, Kept Nil W0 W → W.cell? ⟨w.heap.size, 0, none⟩ = some (.string r) ∧ W.cell? ⟨w.heap.size, 1, none⟩ = some (.slice a n c) ∧ W.cell? ⟨w.heap.size + 1, 0, none⟩ = some (.string s) ∧ W.cell? ⟨w.heap.size + 1, 1, none⟩ = some (.slice b m d)) := Lib.hid fun W k => ⟨(hB.kept k (fun e => e)).cell 0, (hB.kept k (fun e => e)).cell 1, (hB2.kept k (fun e => e)).cell 0, (hB2.kept k (fun e => e)).cell 1⟩
  have KD := Lib.hid ((Kept.refl Nil W0).alloc (.cells #[.string r, .slice a n c, .string s, .slice b m d] 37))
  have HLI : Hid (LIn (W0.alloc (.cells #[.string r, .slice a n c, .string s, .slice b m d] 37)) (some ⟨w.heap.size + 1 + 1, 0, none⟩) 2 [⟨r, ids, n, a, c⟩, ⟨s, jds, m, b, d⟩]) := Lib.hid ⟨litIn cM_len hD _ rfl, fun z hz => by
    simp only [List.mem_cons, List.not_mem_nil, or_false] at hz
    rcases hz with rfl | rfl
    · exact HX.out.kept (GA.out.trans KD.out (fun _ _ e => e))
    · exact HY.out.kept (GA.out.trans KD.out (fun _ _ e => e)), by unfold maxLen; omega⟩
  have CS := Lib.hid (smallIn_any (c := 2) HLI.out)
  have HW0 := Lib.hid hW0
  show Calls Tryd.prog 4 #[.agg #[.string r, .slice a n c], .agg #[.string s, .slice b m d]] w _
  cases hsm : smL [⟨r, ids, n, a, c⟩, ⟨s, jds, m, b, d⟩] with
  | false =>
    rw [hsm, ← hW0] at CS
    clear hB hB2 hD hs2 hs3 hsm hW0 hx hy E
    go_enter Tryd.func4, Tryd.ntmps4
    go_wp2_with fail
    refine CS.out.mono ?_
    rintro e w1 ⟨rfl, k1⟩
    have K1 := Lib.hid (GA.out.trans ((by rw [HW0.out] at k1; exact KD.out.trans k1 (fun _ _ e => e)) : Kept Nil W0 w1) (fun _ _ e => e))
    clear k1
    go_wp2_with fail
    refine (CA.out _ K1.out).mono ?_
    rintro e w2 ⟨rfl, k2⟩
    go_wp2_with fail
    go_ret
    exact ⟨rfl, K1.out.trans k2 (fun _ _ e => e)⟩
  | true =>
    have hq := (smL_iff hsm).2
    have h1 := hq _ (List.mem_cons_self ..)
    have h2 := hq ⟨s, jds, m, b, d⟩ (List.mem_cons_of_mem _ (List.mem_cons_self ..))
    have MX := Lib.hid (HX.out.mok h1.1 h1.2)
    have MY := Lib.hid (HY.out.mok h2.1 h2.2)
    rw [hsm, ← hW0] at CS
    have HDL : Hid (∀ W, Kept Nil W0 W → Ms (W.alloc (.cells #[.string r, .slice a n c, .string s, .slice b m d] 37)) (some ⟨W.heap.size, 0, none⟩) 2 [⟨r, ids, n, a, c⟩, ⟨s, jds, m, b, d⟩]) := Lib.hid fun W kW =>
      ⟨litIn cM_len (Blk.new W 37 #[.string r, .slice a n c, .string s, .slice b m d]) _ rfl, fun z hz => by
        have kk := (GA.out.trans kW (fun _ _ e => e)).trans ((Kept.refl Nil W).alloc (.cells #[.string r, .slice a n c, .string s, .slice b m d] 37)) (fun _ _ e => e)
        simp only [List.mem_cons, List.not_mem_nil, or_false] at hz
        rcases hz with rfl | rfl
        · exact MX.out.kept kk
        · exact MY.out.kept kk⟩
    have CP1 : Hid (∀ W, Kept Nil w W → Calls Tryd.prog 20 #[.agg #[.string r, .slice a n c], .agg #[.string s, .slice b m d]] W fun e w' => e = .returned (.int .i64 (cmpM (r, ids) (s, jds))) ∧ Kept Nil W w') := Lib.hid fun W k => (compare_any (MX.out.kept k) (MY.out.kept k)).mono fun e w' ⟨he, hg⟩ => ⟨he, hg.kept⟩
    have CP2 : Hid (∀ W, Kept Nil w W → Calls Tryd.prog 20 #[.agg #[.string s, .slice b m d], .agg #[.string r, .slice a n c]] W fun e w' => e = .returned (.int .i64 (cmpM (s, jds) (r, ids))) ∧ Kept Nil W w') := Lib.hid fun W k => (compare_any (MY.out.kept k) (MX.out.kept k)).mono fun e w' ⟨he, hg⟩ => ⟨he, hg.kept⟩
    clear hB hB2 hD hs2 hs3 hsm hW0 hx hy E hq h1 h2
    go_enter Tryd.func4, Tryd.ntmps4
    go_wp2_with fail
    refine CS.out.mono ?_
    rintro e w1 ⟨rfl, k1⟩
    have K1 : Hid (Kept Nil W0 w1) := Lib.hid (by rw [HW0.out] at k1; exact KD.out.trans k1 (fun _ _ e => e))
    have CRL := Lib.hid (refL_any (c := 2) (HDL.out w1 K1.out) (by decide))
    obtain ⟨x0, x1, x2, x3⟩ := HB.out _ K1.out
    clear k1
    go_wp2_with fail
    refine CRL.out.mono ?_
    rintro e w2 ⟨a', c', l', rfl, hms, hv, k2⟩
    have K2 := Lib.hid ((K1.out.trans ((Kept.refl Nil w1).alloc (.cells #[.string r, .slice a n c, .string s, .slice b m d] 37)) (fun _ _ e => e)).trans k2 (fun _ _ e => e))
    obtain ⟨p, q, rfl⟩ : ∃ p q, l' = [p, q] := by
      have := hms.row.1
      match l', this with
      | [p, q], _ => exact ⟨p, q, rfl⟩
    have hvp : p.val = (r, ids) := (List.cons.inj hv).1
    have hvq : q.val = (s, jds) := (List.cons.inj (List.cons.inj hv).2).1
    have HMS := Lib.hid hms
    obtain ⟨g, off, rfl, _, hcp⟩ := hms.row.at_ (j := 0) (x := p) rfl
    have HS' : Hid (∀ W, Kept Nil w2 W → W.cell? ⟨g, off, none⟩ = some (.string p.r) ∧ W.cell? ⟨g, off + 1, none⟩ = some (.slice p.a p.n p.c) ∧ W.cell? ⟨g, off + 2, none⟩ = some (.string q.r) ∧ W.cell? ⟨g, off + 2 + 1, none⟩ = some (.slice q.a q.n q.c)) := Lib.hid fun W kW => by
      obtain ⟨g1, o1, e1, _, d1⟩ := (HMS.out.row.kept kW).at_ (j := 0) (x := p) rfl
      obtain ⟨g2, o2, e2, _, d2⟩ := (HMS.out.row.kept kW).at_ (j := 1) (x := q) rfl
      cases e1
      cases e2
      exact ⟨d1 0 _ rfl, d1 1 _ rfl, d2 0 _ rfl, d2 1 _ rfl⟩
    have CL1 : Hid (∀ W, Kept Nil w2 W → Calls Tryd.prog 19 #[.agg #[.string p.r, .slice p.a p.n p.c], .agg #[.string q.r, .slice q.a q.n q.c]] W fun e w' => e = .returned (.bool (ltM (r, ids) (s, jds))) ∧ Kept Nil W w') := Lib.hid fun W kW => by
      have := less_any ((HMS.out.kept kW).ok p (List.mem_cons_self ..)) ((HMS.out.kept kW).ok q (List.mem_cons_of_mem _ (List.mem_cons_self ..)))
      rw [hvp, hvq] at this
      exact this
    have CL2 : Hid (∀ W, Kept Nil w2 W → Calls Tryd.prog 19 #[.agg #[.string q.r, .slice q.a q.n q.c], .agg #[.string p.r, .slice p.a p.n p.c]] W fun e w' => e = .returned (.bool (ltM (s, jds) (r, ids))) ∧ Kept Nil W w') := Lib.hid fun W kW => by
      have := less_any ((HMS.out.kept kW).ok q (List.mem_cons_of_mem _ (List.mem_cons_self ..))) ((HMS.out.kept kW).ok p (List.mem_cons_self ..))
      rw [hvp, hvq] at this
      exact this
    obtain ⟨u, hu⟩ : ∃ u, ltM (r, ids) (s, jds) = u := ⟨_, rfl⟩
    obtain ⟨v, hv'⟩ : ∃ v, ltM (s, jds) (r, ids) = v := ⟨_, rfl⟩
    have HEQ : Hid (cmpM (r, ids) (s, jds) = (if v then 1 else if u then -1 else 0) ∧ cmpM (s, jds) (r, ids) = (if v then -1 else if u then 1 else 0)) := Lib.hid (by
      cases hvv : v with
      | true => rw [hvv] at hv'; exact ⟨cmpM_gt hv', cmpM_lt hv'⟩
      | false =>
        cases huu : u with
        | true => rw [huu] at hu; exact ⟨cmpM_lt hu, cmpM_gt hu⟩
        | false =>
          rw [hvv] at hv'; rw [huu] at hu
          have e := ltM_eq hu hv'
          rw [e]
          exact ⟨cmpM_self _, cmpM_self _⟩)
    rw [hu] at CL1
    rw [hv'] at CL2
    rw [HEQ.out.1] at CP1
    rw [HEQ.out.2] at CP2
    have inst : Nonempty (CW (Kept Nil w2)) := ⟨⟨_, Kept.refl Nil w2⟩⟩
    have hc0 : ∀ n : CW (Kept Nil w2), n.w.cell? ⟨g, off, none⟩ = some (.string p.r) := fun n => (HS'.out _ n.of).1
    have hc1 : ∀ n : CW (Kept Nil w2), n.w.cell? ⟨g, off + 1, none⟩ = some (.slice p.a p.n p.c) := fun n => (HS'.out _ n.of).2.1
    have hc2 : ∀ n : CW (Kept Nil w2), n.w.cell? ⟨g, off + 2, none⟩ = some (.string q.r) := fun n => (HS'.out _ n.of).2.2.1
    have hc3 : ∀ n : CW (Kept Nil w2), n.w.cell? ⟨g, off + 2 + 1, none⟩ = some (.slice q.a q.n q.c) := fun n => (HS'.out _ n.of).2.2.2
    have hc4 : ∀ n : CW (Kept Nil w2), n.w.cell? ⟨g, off + 3, none⟩ = some (.slice q.a q.n q.c) := fun n => (HS'.out _ n.of).2.2.2
    clear x0 x1 x2 x3 hms hv k2 hcp hvp hvq hu hv' CRL CS
    go_wp2_with fail
    refine wp_region_in (Kept Nil w2) (by kernel_rfl) (by kernel_rfl) ((Kept.refl Nil w2).drew) ?_
    repeat (go_big_quiet_step ((go_at_call 19; exact call_in (fun W W' h k => h.trans k (fun _ _ e => e)) (CL1.out _ (CW.of _)))))
    refine wpQuiet_nil ?_
    rintro _ ⟨n3, rfl⟩
    have K3 := Lib.hid n3.of
    have HK3 := Lib.hid (K2.out.trans n3.of (fun _ _ e => e))
    cases u
    all_goals cases v
    all_goals simp only [if_true, if_false, Bool.false_eq_true] at CP1 CP2
    all_goals
      go_wp2_with fail
      refine wp_region_in (Kept Nil w2) (by kernel_rfl) (by kernel_rfl) (K3.out.drew) ?_
      repeat (go_big_quiet_step ((go_at_call 19; exact call_in (fun W W' h k => h.trans k (fun _ _ e => e)) (CL2.out _ (CW.of _)))))
      refine wpQuiet_nil ?_
      rintro _ ⟨n4, rfl⟩
      have HK4 := Lib.hid (K2.out.trans n4.of (fun _ _ e => e))
      obtain ⟨x0, x1, x2, x3⟩ := HB.out _ HK4.out
      go_wp2_with fail
      refine (CP1.out _ (GA.out.trans HK4.out (fun _ _ e => e))).mono ?_
      rintro e w5 ⟨rfl, k5⟩
      have HK5 := Lib.hid (HK4.out.trans k5 (fun _ _ e => e))
      clear x0 x1 x2 x3 k5
      obtain ⟨x0, x1, x2, x3⟩ := HB.out _ HK5.out
      go_wp2_with fail
      refine (CP2.out _ (GA.out.trans HK5.out (fun _ _ e => e))).mono ?_
      rintro e w6 ⟨rfl, k6⟩
      have HK6 := Lib.hid (HK5.out.trans k6 (fun _ _ e => e))
      clear x0 x1 x2 x3 k6
      go_wp2_with fail
      refine (CA.out _ (GA.out.trans HK6.out (fun _ _ e => e))).mono ?_
      rintro e w7 ⟨rfl, k7⟩
      go_wp2_with fail
      go_ret
      exact ⟨rfl, (GA.out.trans HK6.out (fun _ _ e => e)).trans k7 (fun _ _ e => e)⟩
end Go.Proofs.YtkffcpjaciomjaaDoor
