/- Any match has its text or none, and is parsed of it: ConfTexts returns true, and writes nothing that was there. No condition but Go's own variables. -/
import Derived.Test.YtkffcpjaciomjaaDoorXLawCmp
import Derived.Test.YtkffcpjaciomjaaDoorXRefP
namespace Go.Proofs.YtkffcpjaciomjaaDoor
open Go.RowKit Go.Shelf Go.Sort
set_option maxRecDepth 100000

theorem textE_good {m : M} (h : (textE m).2 = 0) : okName m.1 = true ∧ okIds m.2 = true ∧ (textE m).1 = mtxt m := by
  unfold textE at h ⊢
  cases h1 : okName m.1 with
  | false => rw [h1] at h; cases h
  | true =>
    cases h2 : okIds m.2 with
    | false => rw [h1, h2] at h; cases h
    | true => exact ⟨rfl, rfl, rfl⟩
theorem mtxt_parse {m : M} (h1 : okName m.1 = true) (h2 : okIds m.2 = true) : parseE (mtxt m) = some m := by
  unfold parseE mtxt
  have hb := (name_size h1).2.2
  show (match parseM (mtxtL m.1.data.toList m.2).toArray.toList with | some (x, ids) => _ | none => _) = _
  rw [List.toList_toArray, parseM_text hb h2]
  simp only
  rw [rx, if_pos h1]
theorem mtxt_size {m : M} (h1 : okName m.1 = true) (h2 : okIds m.2 = true) (hl : m.2.length ≤ 20) : (mtxt m).size ≤ 900 := by
  have h := txtK_size m.1 m.2 h2
  have := (name_size h1).2.1
  show (txtK m.1 m.2).size ≤ 900
  omega
theorem textE_num (m : M) : (textE m).2 = 0 ∨ (textE m).2 = 1 ∨ (textE m).2 = 13 := by
  unfold textE
  cases okName m.1 <;> cases okIds m.2 <;> simp
set_option maxHeartbeats 4000000 in
theorem lawTxt_any {w : World} {m : MC} (hx : MIn w m) (E : Env w) :
    Calls Tryd.prog 5 #[vM m] w fun e w' => e = .returned (.bool true) ∧ Kept Nil w w' := by
  have HX := Lib.hid hx
  have HE := Lib.hid E
  have CA : Hid (∀ W, Kept Nil w W → Calls Tryd.prog 10 #[] W fun e w' => e = .returned (.bool true) ∧ Kept Nil W w') := Lib.hid fun W k => awake_any W (HE.out.tab.kept k)
  obtain ⟨r, ids, n, a, c⟩ := m
  have KA := Lib.hid ((Kept.refl Nil w).alloc (.cells #[.string r, .slice a n c] 37))
  have hs1 : (w.alloc (.cells #[.string r, .slice a n c] 37)).heap.size = w.heap.size + 1 := by simp
  have HB : Hid (∀ W, Kept Nil (w.alloc (.cells #[.string r, .slice a n c] 37)) W → W.cell? ⟨w.heap.size, 0, none⟩ = some (.string r) ∧ W.cell? ⟨w.heap.size, 1, none⟩ = some (.slice a n c)) := Lib.hid fun W k => ⟨((Blk.new w 37 #[.string r, .slice a n c]).kept k (fun e => e)).cell 0, ((Blk.new w 37 #[.string r, .slice a n c]).kept k (fun e => e)).cell 1⟩
  have HLI : Hid (∀ W, Kept Nil w W → LIn (W.alloc (.cells #[.string r, .slice a n c] 37)) (some ⟨W.heap.size, 0, none⟩) 1 [⟨r, ids, n, a, c⟩]) := Lib.hid fun W kW => ⟨litIn cM_len (Blk.new W 37 #[.string r, .slice a n c]) _ rfl, fun z hz => by
    rw [List.mem_singleton.1 hz]
    exact HX.out.kept (kW.alloc _), by unfold maxLen; omega⟩
  have CS : Hid (Calls Tryd.prog 9 #[.slice (some ⟨w.heap.size + 1, 0, none⟩) 1 1] ((w.alloc (.cells #[.string r, .slice a n c] 37)).alloc (.cells #[.string r, .slice a n c] 37)) fun e w' => e = .returned (.bool (smL [⟨r, ids, n, a, c⟩])) ∧ Kept Nil _ w') := Lib.hid (by
    have := smallIn_any (c := 1) (HLI.out _ KA.out)
    rw [hs1] at this
    exact this)
  have K2 := Lib.hid (KA.out.alloc (.cells #[.string r, .slice a n c] 37))
  have KB2 := Lib.hid ((Kept.refl Nil (w.alloc (.cells #[.string r, .slice a n c] 37))).alloc (.cells #[.string r, .slice a n c] 37))
  show Calls Tryd.prog 5 #[.agg #[.string r, .slice a n c]] w _
  cases hsm : smL [⟨r, ids, n, a, c⟩] with
  | false =>
    rw [hsm] at CS
    clear hs1 hsm hx E
    go_enter Tryd.func5, Tryd.ntmps5
    go_wp2_with fail
    refine CS.out.mono ?_
    rintro e w1 ⟨rfl, k1⟩
    have K3 := Lib.hid (K2.out.trans k1 (fun _ _ e => e))
    go_wp2_with fail
    refine (CA.out _ K3.out).mono ?_
    rintro e w2 ⟨rfl, k2⟩
    go_wp2_with fail
    go_ret
    exact ⟨rfl, K3.out.trans k2 (fun _ _ e => e)⟩
  | true =>
    have h1 := (smL_iff hsm).2 _ (List.mem_cons_self ..)
    have MX := Lib.hid (HX.out.mok h1.1 h1.2)
    have hn20 : n ≤ 20 := h1.1
    have hil : ids.length = n := HX.out.ids.1
    rw [hsm] at CS
    have CT : Hid (∀ W, Kept Nil w W → Calls Tryd.prog 21 #[.agg #[.string r, .slice a n c]] W fun e w' => e = .returned (.tuple #[.string (textE (r, ids)).1, .int .i64 (textE (r, ids)).2]) ∧ Kept Nil W w') := Lib.hid fun W k => text_any (MX.out.kept k) (HE.out.tab.kept k)
    have CRL : Hid (∀ W, Kept Nil w W → Calls Tryd.prog 11 #[.slice (some ⟨W.heap.size, 0, none⟩) 1 1] (W.alloc (.cells #[.string r, .slice a n c] 37)) fun e w' => ∃ a' c' p, e = .returned (.slice a' 1 c') ∧ Ms w' a' 1 [p] ∧ p.val = (r, ids) ∧ Kept Nil W w') := Lib.hid fun W kW => by
      have hms : Ms (W.alloc (.cells #[.string r, .slice a n c] 37)) (some ⟨W.heap.size, 0, none⟩) 1 [⟨r, ids, n, a, c⟩] := ⟨(HLI.out W kW).row, fun z hz => by rw [List.mem_singleton.1 hz]; exact MX.out.kept (kW.alloc _)⟩
      refine (refL_any (c := 1) hms (by decide)).mono ?_
      rintro e w' ⟨a', c', l', rfl, hm, hv, hk⟩
      obtain ⟨p, rfl⟩ : ∃ p, l' = [p] := by
        have := hm.row.1
        match l', this with
        | [p], _ => exact ⟨p, rfl⟩
      exact ⟨a', c', p, rfl, hm, (List.cons.inj hv).1, ((Kept.refl Nil W).alloc _).trans hk (fun _ _ e => e)⟩
    have CRT : Hid (∀ (W : World) p, p.val = (r, ids) → Mok W p → Calls Tryd.prog 22 #[.agg #[.string p.r, .slice p.a p.n p.c]] W fun e w' => e = .returned (.tuple #[.string (textE (r, ids)).1, .int .i64 (textE (r, ids)).2]) ∧ Kept Nil W w') := Lib.hid fun W p hp hm => by
      have := refText_any hm
      rw [hp] at this
      exact this
    have CPA : Hid ((textE (r, ids)).2 = 0 → ∀ W, Kept Nil w W → Calls Tryd.prog 23 #[.string (textE (r, ids)).1] W fun e w' => ∃ q, q.val = (r, ids) ∧ Mok w' q ∧ e = .returned (.tuple #[.agg #[.string q.r, .slice q.a q.n q.c], .int .i64 0]) ∧ Kept Nil W w') := Lib.hid fun h0 W k => by
      obtain ⟨g1, g2, g3⟩ := textE_good h0
      rw [g3]
      refine (parse_any (mtxt (r, ids)) (mtxt_size g1 g2 (by show ids.length ≤ 20; omega)) W (HE.out.kept k)).mono ?_
      rintro e w' ⟨hk, ⟨hn, _⟩ | ⟨q, hq, hm, rfl⟩⟩
      · rw [mtxt_parse g1 g2] at hn; cases hn
      · rw [mtxt_parse g1 g2] at hq
        cases hq
        exact ⟨q, rfl, hm, rfl, hk⟩
    have CC : Hid (∀ (W : World) q, q.val = (r, ids) → Mok W q → Kept Nil w W → Calls Tryd.prog 20 #[.agg #[.string q.r, .slice q.a q.n q.c], .agg #[.string r, .slice a n c]] W fun e w' => e = .returned (.int .i64 0) ∧ Kept Nil W w') := Lib.hid fun W q hq hm k => by
      have := compare_any hm (MX.out.kept k)
      rw [hq] at this
      rw [show cmpM (r, ids) (MC.val ⟨r, ids, n, a, c⟩) = 0 from cmpM_self _] at this
      exact this.mono fun e w' ⟨he, hg⟩ => ⟨he, hg.kept⟩
    have hnum := textE_num (r, ids)
    obtain ⟨T, hT⟩ : ∃ T, (textE (r, ids)).1 = T := ⟨_, rfl⟩
    obtain ⟨en, hen⟩ : ∃ en, (textE (r, ids)).2 = en := ⟨_, rfl⟩
    rw [hT, hen] at CT CRT CPA
    rw [hen] at hnum
    clear hs1 hsm hx E h1 hn20 hil hT hen
    go_enter Tryd.func5, Tryd.ntmps5
    go_wp2_with fail
    refine CS.out.mono ?_
    rintro e w1 ⟨rfl, k1⟩
    have KB3 := Lib.hid (KB2.out.trans k1 (fun _ _ e => e))
    have K3 := Lib.hid (K2.out.trans k1 (fun _ _ e => e))
    obtain ⟨x0, x1⟩ := HB.out _ KB3.out
    clear k1
    go_wp2_with fail
    refine (CT.out _ K3.out).mono ?_
    rintro e w2 ⟨rfl, k2⟩
    have KB4 := Lib.hid (KB3.out.trans k2 (fun _ _ e => e))
    have K4 := Lib.hid (K3.out.trans k2 (fun _ _ e => e))
    clear x0 x1 k2
    obtain ⟨x0, x1⟩ := HB.out _ KB4.out
    go_wp2_with fail
    refine (CRL.out _ K4.out).mono ?_
    rintro e w3 ⟨a', c', p, rfl, hms, hp, k3⟩
    obtain ⟨g, off, rfl, _, hcp⟩ := hms.row.at_ (j := 0) (x := p) rfl
    have q0 := hcp 0 _ rfl
    have q1 := hcp 1 _ rfl
    simp only [Nat.zero_mul, Nat.add_zero] at q0 q1
    have HMP := Lib.hid (hms.ok p (List.mem_cons_self ..))
    have HP := Lib.hid hp
    have KB5 := Lib.hid (KB4.out.trans k3 (fun _ _ e => e))
    have K5 := Lib.hid (K4.out.trans k3 (fun _ _ e => e))
    clear x0 x1 k3 hms hp hcp
    go_wp2_with fail
    refine (CRT.out _ p HP.out HMP.out).mono ?_
    rintro e w4 ⟨rfl, k4⟩
    have KB6 := Lib.hid (KB5.out.trans k4 (fun _ _ e => e))
    have K6 := Lib.hid (K5.out.trans k4 (fun _ _ e => e))
    clear k4 q0 q1
    obtain ⟨x0, x1⟩ := HB.out _ KB6.out
    by_cases h0 : en = 0
    · subst h0
      go_wp2_with fail
      refine (CPA.out (by first | rfl | trivial) _ K6.out).mono ?_
      rintro e w5 ⟨q, hq, hmq, rfl, k5⟩
      have KB7 := Lib.hid (KB6.out.trans k5 (fun _ _ e => e))
      have K7 := Lib.hid (K6.out.trans k5 (fun _ _ e => e))
      have C8 := Lib.hid (CC.out _ q hq (hmq.kept ((Kept.refl Nil w5).alloc (.cells #[.string q.r, .slice q.a q.n q.c] 37))) (K7.out.alloc _))
      have K8 := Lib.hid (K7.out.alloc (.cells #[.string q.r, .slice q.a q.n q.c] 37))
      clear x0 x1 k5 hq hmq
      obtain ⟨x0, x1⟩ := HB.out _ (KB7.out.alloc (.cells #[.string q.r, .slice q.a q.n q.c] 37))
      go_wp2_with fail
      refine C8.out.mono ?_
      rintro e w6 ⟨rfl, k6⟩
      have K9 := Lib.hid (K8.out.trans k6 (fun _ _ e => e))
      clear k6 x0 x1
      go_wp2_with fail
      refine (CA.out _ K9.out).mono ?_
      rintro e w7 ⟨rfl, k7⟩
      go_wp2_with fail
      go_ret
      exact ⟨rfl, K9.out.trans k7 (fun _ _ e => e)⟩
    · have hb : (en == 0) = false := beq_eq_false_iff_ne.2 h0
      clear h0
      go_wp2_with fail
      refine (CA.out _ K6.out).mono ?_
      rintro e w7 ⟨rfl, k7⟩
      go_wp2_with fail
      go_ret
      exact ⟨rfl, K6.out.trans k7 (fun _ _ e => e)⟩
end Go.Proofs.YtkffcpjaciomjaaDoor
