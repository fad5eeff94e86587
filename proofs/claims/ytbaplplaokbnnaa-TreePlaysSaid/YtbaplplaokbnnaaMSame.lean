/- The law's same: a tree is just the document's. -/
import Derived.Test.YtbaplplaokbnnaaMRefC
import Derived.Deep.RegionHeld3
namespace Go.Proofs.Ytbaplplaokbnnaa
open Go.RowKit Go.Maps Go.WideMaps
set_option maxRecDepth 100000

theorem upI_nonneg {L : List TokS} (h : WF L) (a : ByteArray) : ∀ id, 0 ≤ upI L id a := by
  refine line_ind h (fun id e => ?_) (fun id x e ih => ?_)
  · rw [upI_none a e]; exact Int.le_refl _
  · by_cases he : x.loc = a
    · rw [upI_here h e he]; have := tok_bound e; omega
    · rw [upI_up h e he]; exact ih
/-- Parents are there. -/
def LP (L : List TokS) : Prop := ∀ k x, tok L k = some x → x.par ≠ 0 → tok L x.par ≠ none
theorem LP.top (a : ByteArray) : LP [⟨0, a, 0, false⟩] := fun k x h hp => by
  have := WF.top a 0 k x h
  have hb := tok_bound h
  simp at hb
  omega
theorem LP.add {L : List TokS} (h : LP L) (pa : Int) (k : ByteArray) (f : Int) : LP (addL L pa k f) := by
  unfold addL
  split
  · exact h
  · rename_i e
    intro j x hx hp
    have old : ∀ i : Int, tok L i ≠ none → tok (L ++ [(⟨pa, k, f, false⟩ : TokS)]) i ≠ none := fun i hi => by
      rw [tok_old L _ (fun e2 => hi (tok_high (by omega)))]; exact hi
    by_cases ej : j = (L.length : Int) + 1
    · subst ej
      rw [tok_new L rfl] at hx
      cases hx
      exact old pa e
    · rw [tok_old L _ ej] at hx
      exact old _ (h j x hx hp)
theorem LP.del {L : List TokS} (h : LP L) (hwf : WF L) (id : Int) : LP (delL L id) := by
  unfold delL
  split
  · exact h
  · rename_i e
    have hid : tok L id ≠ none := fun e2 => e (.inr e2)
    intro j x hx hp
    by_cases hj : j ∈ below L id
    · rw [tok_kills_in hj] at hx; cases hx
    · rw [tok_kills_not hj] at hx
      have hpl := h j x hx hp
      rw [tok_kills_not (fun hm => hj ?_)]
      · exact hpl
      · have h1 := (mem_below hwf id hid x.par).1 hm
        refine (mem_below hwf id hid j).2 ?_
        rw [line_some hwf hx]
        exact List.mem_cons_of_mem _ h1
theorem LP.step {L : List TokS} (h : LP L) (hwf : WF L) (o : Opn) : LP (stepL L o) := by
  unfold stepL
  split
  · exact h.del hwf _
  · exact h.add _ _ _
theorem LP.childless {L : List TokS} (h : LP L) {id : Int} (hid : tok L id = none) : kids L id = [] := by
  cases e : kids L id with
  | nil => rfl
  | cons k r =>
    obtain ⟨h0, x, hx, hp⟩ := mem_kids.1 (show k ∈ kids L id by rw [e]; exact List.mem_cons_self ..)
    exact absurd (by rw [hp]; exact hid) (h k x hx (by rw [hp]; exact h0))
theorem ints_same {w : World} {a a' : Option Addr} {n n' c c' : Nat} {x : List Int} (hx : In cN 1 w a n x) (hy : In cN 1 w a' n' x) (hl : x.length ≤ 100000) :
    Calls Try.prog 30 #[.slice a n c, .slice a' n' c'] w fun e w' => e = .returned (.bool true) ∧ Kept Nil w w' := by
  have := ints_any (c := c) (c' := c') hx hy (by rw [← hx.1]; exact hl) (by rw [← hy.1]; exact hl)
  rw [decide_eq_true rfl] at this
  exact this
/-- What the law's comparison of a token keeps: its copy's cells, and all that was. -/
abbrev SS (W0 : World) (g : Nat) (a : Int) (k : ByteArray) (f : Int) (W : World) : Prop := W.cell? ⟨g, 0, none⟩ = some (.int .i64 a) ∧ W.cell? ⟨g, 1, none⟩ = some (.string k) ∧ W.cell? ⟨g, 2, none⟩ = some (.int .i64 f) ∧ Kept Nil W0 W
theorem SS.kept {W0 W W' : World} {g : Nat} {a : Int} {k : ByteArray} {f : Int} (h : SS W0 g a k f W) (kk : Kept Nil W W') : SS W0 g a k f W' :=
  ⟨(kk.cell (p := ⟨g, 0, none⟩) (World.block_lt_of_cell? _ _ h.1) (fun e => e)).trans h.1, (kk.cell (p := ⟨g, 1, none⟩) (World.block_lt_of_cell? _ _ h.2.1) (fun e => e)).trans h.2.1, (kk.cell (p := ⟨g, 2, none⟩) (World.block_lt_of_cell? _ _ h.2.2.1) (fun e => e)).trans h.2.2.1, h.2.2.2.trans kk (fun _ _ e => e)⟩
theorem SS.drew {W0 W : World} {g : Nat} {a : Int} {k : ByteArray} {f : Int} (h : SS W0 g a k f W) : SS W0 g a k f W.drew := ⟨h.1, h.2.1, h.2.2.1, h.2.2.2.drew⟩
set_option maxHeartbeats 16000000 in
theorem same_any {w : World} {c : Nat → Nat} {p B q : Nat} {a : Option Addr} {cap : Nat} {L : List TokS} (h : Tre KS 78 w c p L) (hr : RTx w B q a cap L) (hwf : WF L) (hlp : LP L) (hl : L.length ≤ 61) :
    Calls Try.prog 16 #[.pointer (some ⟨p, 0, none⟩), .pointer (some ⟨q, 0, none⟩)] w fun e w' => e = .returned (.bool true) ∧ Kept Nil w w' := by
  have HT := Lib.hid h
  have HR := Lib.hid hr
  have HWf := Lib.hid hwf
  have HLP := Lib.hid hlp
  have CL := Lib.hid (len_s h)
  have CRL := Lib.hid (refLen_any hr (by omega))
  have HOk := Lib.hid h.1
  obtain ⟨n, hn⟩ : ∃ n, L.length = n := ⟨_, rfl⟩
  have HN := Lib.hid hn
  rw [hn] at hl
  obtain ⟨lv, hlv⟩ : ∃ lv, liveN L = lv := ⟨_, rfl⟩
  rw [hlv] at CL CRL
  clear h hr hwf hlp hn hlv
  go_enter Try.func16, Try.ntmps16
  go_wp2_with fail
  refine CL.out.mono ?_
  rintro e w1 ⟨rfl, rfl⟩
  go_wp2_with fail
  refine CRL.out.mono ?_
  rintro e w2 ⟨rfl, k2⟩
  have K2 := Lib.hid k2
  clear k2 CL CRL
  go_wp2_with fail
  go_loopw [5] (fun iv wr => ∃ m : Nat, m ≤ n + 3 ∧ iv = .int .i64 ((m : Int) - 1) ∧ Kept Nil w1 wr) (fun iv _ => 100 - (intOf iv + 1).toNat)
  case atStart => exact ⟨0, by omega, rfl, K2.out⟩
  case round =>
    obtain ⟨m, hm, rfl, hK⟩ := hrel
    have HK := Lib.hid hK
    clear hK
    have c0 := (HR.out.keptN HK.out).cell
    rw [HN.out] at c0
    obtain ⟨id, hid⟩ : ∃ id : Int, (m : Int) - 1 = id := ⟨_, rfl⟩
    rw [hid]
    have HId := Lib.hid hid
    have s1 : IntKind.i64.wrap ((n : Int) + 1) = (n : Int) + 1 := by rw [IntKind.wrap_i64]; omega
    have s2 : IntKind.i64.wrap (id + 1) = id + 1 := by rw [IntKind.wrap_i64]; omega
    have hwi : (Lit.int .i64 id).wf = true := WalkArith.wf_i64 (by omega)
    have HM := Lib.hid hm
    clear hid hm
    by_cases hle : id ≤ (n : Int) + 1
    rotate_left
    · have hb : decide (id ≤ (n : Int) + 1) = false := decide_eq_false hle
      go_wp2_with fail
      go_ret
      exact ⟨rfl, HK.out⟩
    have hb : decide (id ≤ (n : Int) + 1) = true := decide_eq_true hle
    have HLe := Lib.hid hle
    clear hle
    have CP := Lib.hid (place_s (HT.out.keptN HK.out) hwi)
    have CT := fun W (k : Kept Nil w1 W) => Lib.hid (refThere_any (HR.out.keptN k) (by rw [HN.out]; omega) id)
    cases ht : tok L id with
    | none =>
      have hloc : locI_s L id = (⟨#[]⟩ : ByteArray) := by unfold locI_s; rw [ht]; rfl
      rw [ht, hloc] at CP
      simp only [ht] at CT
      have hpar : parI L id = 0 := parI_none ht
      have hfact : factI L id = 0 := factI_none ht
      have hfacts : factsI L id = [] := factsI_none ht
      have hkids : kids L id = [] := HLP.out.childless ht
      have CPa := fun W (k : Kept Nil w1 W) => Lib.hid (parent_s (HT.out.keptN k) hwi)
      have CFa := fun W (k : Kept Nil w1 W) => Lib.hid (fact_s (HT.out.keptN k) hwi)
      have CKi := fun W (k : Kept Nil w1 W) => Lib.hid (kids_s (HT.out.keptN k) (by rw [HN.out]; omega) hwi)
      have CFs := fun W (k : Kept Nil w1 W) => Lib.hid (facts_s (HT.out.keptN k) HWf.out (by rw [HN.out]; omega) hwi)
      simp only [hpar, hfact, hfacts, hkids] at CPa CFa CKi CFs
      clear ht hloc hpar hfact hfacts hkids
      go_wp2_with fail
      refine CP.out.mono ?_
      rintro e w3 ⟨rfl, k3⟩
      have K3 := Lib.hid (HK.out.trans k3 (fun _ _ e => e))
      have CT3 := CT w3 K3.out
      clear k3 CP CT
      go_wp2_with fail
      refine CT3.out.mono ?_
      rintro e w4 ⟨rfl, rfl⟩
      have CPa3 := CPa _ K3.out
      clear CT3 CPa
      go_wp2_with fail
      refine CPa3.out.mono ?_
      rintro e w5 ⟨rfl, rfl⟩
      have CFa3 := CFa _ K3.out
      clear CPa3 CFa
      go_wp2_with fail
      refine CFa3.out.mono ?_
      rintro e w6 ⟨rfl, rfl⟩
      have CKi3 := CKi _ K3.out
      clear CFa3 CKi
      go_wp2_with fail
      refine CKi3.out.mono ?_
      rintro e w7 ⟨ak, ck, rfl, _, k7⟩
      have K7 := Lib.hid (K3.out.trans k7 (fun _ _ e => e))
      have CFs7 := CFs _ K7.out
      clear CKi3 CFs k7 K3
      go_wp2_with fail
      refine CFs7.out.mono ?_
      rintro e w8 ⟨af, cf, rfl, _, k8⟩
      have K8 := Lib.hid (K7.out.trans k8 (fun _ _ e => e))
      clear CFs7 k8 K7
      go_wp2_with fail
      go_roundw
      case rel => exact ⟨m + 1, by have := HId.out; have := HLe.out; omega, by have := HId.out; congr 1; push_cast; omega, K8.out⟩
      case measure => have := HId.out; have := HLe.out; simp [intOf]; omega
    | some z =>
      have hbd := tok_bound ht
      obtain ⟨_, hx, hxo⟩ := tok_some.1 ht
      have hok := HOk.out.at_ ht
      have hloc : locI_s L id = z.loc := by unfold locI_s; rw [ht]; rfl
      rw [ht, hloc] at CP
      simp only [ht] at CT
      have hpar : parI L id = z.par := parI_some ht
      have hfact : factI L id = z.fact := factI_some ht
      obtain ⟨zp, zl, zf, zo⟩ := z
      simp only at hxo hok hpar hfact CP hloc
      subst hxo
      obtain ⟨jd, hjd⟩ : ∃ jd, (id - 1).toNat = jd := ⟨_, rfl⟩
      rw [hjd] at hx
      have HX := Lib.hid hx
      have s3 : IntKind.i64.wrap (id - 1) = (jd : Int) := by have := HN.out; rw [IntKind.wrap_i64]; omega
      have g0 : (0 : Int) ≤ (jd : Int) := by omega
      have g1 : (jd : Int) < (n : Int) := by rw [HN.out] at hbd; omega
      have hid1 : 1 ≤ id := hbd.1
      have HZ := Lib.hid ht
      clear ht hbd hx hloc hjd
      go_wp2_with fail
      refine CP.out.mono ?_
      rintro e w3 ⟨rfl, k3⟩
      have K3 := Lib.hid (HK.out.trans k3 (fun _ _ e => e))
      have CT3 := CT w3 K3.out
      clear k3 CP CT
      go_wp2_with fail
      refine CT3.out.mono ?_
      rintro e w4 ⟨rfl, rfl⟩
      clear CT3
      have c4 := (HR.out.keptN K3.out).cell
      rw [HN.out] at c4
      obtain ⟨b, o, hab, z0, z1, z2, z3⟩ := (HR.out.keptN K3.out).at_ HX.out
      subst hab
      simp only at z0 z1 z2 z3
      go_upto_region 12 with fail
      rename World => wx
      have KA := Lib.hid (K3.out.trans ((Kept.refl Nil wx).alloc (.cells #[.int .i64 zp, .string zl, .int .i64 zf, .int .i64 (outI false)] 43)) (fun _ _ e => e))
      have BA := Lib.hid (Blk.new wx 43 #[.int .i64 zp, .string zl, .int .i64 zf, .int .i64 (outI false)])
      clear z0 z1 z2 z3 c4 c0 K3 HK
      generalize wx.alloc (.cells #[.int .i64 zp, .string zl, .int .i64 zf, .int .i64 (outI false)] 43) = W0 at *
      generalize wx.heap.size = g at *
      have S0 : SS W0 g zp zl zf W0 := ⟨by simpa using BA.out.cell 0, by simpa using BA.out.cell 1, by simpa using BA.out.cell 2, Kept.refl _ _⟩
      have S0d : SS W0 g zp zl zf W0.drew := S0.drew
      have kW : ∀ W, SS W0 g zp zl zf W → Kept Nil w1 W := fun W h => KA.out.trans h.2.2.2 (fun _ _ e => e)
      have CPa : Hid (∀ W, SS W0 g zp zl zf W → Calls Try.prog 25 #[.pointer (some ⟨p, 0, none⟩), .int .i64 id] W fun e w' => e = .returned (.int .i64 zp) ∧ w' = W) := Lib.hid fun W h => by
        have := parent_s (HT.out.keptN (kW W h)) hwi
        rw [hpar] at this; exact this
      have CFa : Hid (∀ W, SS W0 g zp zl zf W → Calls Try.prog 28 #[.pointer (some ⟨p, 0, none⟩), .int .i64 id] W fun e w' => e = .returned (.int .i64 zf) ∧ w' = W) := Lib.hid fun W h => by
        have := fact_s (HT.out.keptN (kW W h)) hwi
        rw [hfact] at this; exact this
      have CKi : Hid (∀ W, SS W0 g zp zl zf W → Calls Try.prog 36 #[.pointer (some ⟨p, 0, none⟩), .int .i64 id] W fun e w' => ∃ a c, e = .returned (.slice a (kids L id).length c) ∧ In cN 1 w' a (kids L id).length (kids L id) ∧ Kept Nil W w') := Lib.hid fun W h => (kids_s (HT.out.keptN (kW W h)) (by rw [HN.out]; omega) hwi).mono fun e w' ⟨a, c, h1, h2, h3⟩ => ⟨a, c, h1, h2.toIn cN_len (by decide), h3⟩
      have CRK : Hid (∀ W, SS W0 g zp zl zf W → Calls Try.prog 34 #[.pointer (some ⟨q, 0, none⟩), .int .i64 id] W fun e w' => ∃ a c, e = .returned (.slice a (kids L id).length c) ∧ In cN 1 w' a (kids L id).length (kids L id) ∧ Kept Nil W w') := Lib.hid fun W h => (refKids_any (HR.out.keptN (kW W h)) (by rw [HN.out]; omega) hid1).mono fun e w' ⟨a, c, h1, h2, h3⟩ => ⟨a, c, h1, h2.toIn cN_len (by decide), h3⟩
      have CFs : Hid (∀ W, SS W0 g zp zl zf W → Calls Try.prog 27 #[.pointer (some ⟨p, 0, none⟩), .int .i64 id] W fun e w' => ∃ a c, e = .returned (.slice a (factsI L id).length c) ∧ In cN 1 w' a (factsI L id).length (factsI L id) ∧ Kept Nil W w') := Lib.hid fun W h => (facts_s (HT.out.keptN (kW W h)) HWf.out (by rw [HN.out]; omega) hwi).mono fun e w' ⟨a, c, h1, h2, h3⟩ => ⟨a, c, h1, h2.toIn cN_len (by decide), h3⟩
      have CRF : Hid (∀ W, SS W0 g zp zl zf W → Calls Try.prog 37 #[.pointer (some ⟨q, 0, none⟩), .int .i64 id] W fun e w' => ∃ a c, e = .returned (.slice a (factsI L id).length c) ∧ In cN 1 w' a (factsI L id).length (factsI L id) ∧ Kept Nil W w') := Lib.hid fun W h => (refFacts_any HWf.out (by rw [HN.out]; omega) id W (HR.out.keptN (kW W h))).mono fun e w' ⟨a, n', c, h1, h2, h3⟩ => by
        have hn := h2.caps.1
        subst hn
        exact ⟨a, c, h1, h2.toIn cN_len (by decide), h3⟩
      have CAt : Hid (∀ W, SS W0 g zp zl zf W → Calls Try.prog 38 #[.pointer (some ⟨p, 0, none⟩), .string zl] W fun e w' => ∃ a c, e = .returned (.slice a (atL L zl).length c) ∧ In cN 1 w' a (atL L zl).length (atL L zl) ∧ Kept Nil W w') := Lib.hid fun W h => (at_s (HT.out.keptN (kW W h)) (by rw [HN.out]; omega) hok.1).mono fun e w' ⟨a, c, h1, h2, h3⟩ => ⟨a, c, h1, h2.toIn cN_len (by decide), h3⟩
      have CRA : Hid (∀ W, SS W0 g zp zl zf W → Calls Try.prog 39 #[.pointer (some ⟨q, 0, none⟩), .string zl] W fun e w' => ∃ a c, e = .returned (.slice a (atL L zl).length c) ∧ In cN 1 w' a (atL L zl).length (atL L zl) ∧ Kept Nil W w') := Lib.hid fun W h => (refAt_any (HR.out.keptN (kW W h)) (by rw [HN.out]; omega)).mono fun e w' ⟨a, c, h1, h2, h3⟩ => ⟨a, c, h1, h2.toIn cN_len (by decide), h3⟩
      have CWi : Hid (∀ W, SS W0 g zp zl zf W → Calls Try.prog 29 #[.pointer (some ⟨p, 0, none⟩), .int .i64 zf] W fun e w' => ∃ a c, e = .returned (.slice a (withL L zf).length c) ∧ In cN 1 w' a (withL L zf).length (withL L zf) ∧ Kept Nil W w') := Lib.hid fun W h => (with_s (HT.out.keptN (kW W h)) (by rw [HN.out]; omega) hok.2.2).mono fun e w' ⟨a, c, h1, h2, h3⟩ => ⟨a, c, h1, h2.toIn cN_len (by decide), h3⟩
      have CRW : Hid (∀ W, SS W0 g zp zl zf W → Calls Try.prog 40 #[.pointer (some ⟨q, 0, none⟩), .int .i64 zf] W fun e w' => ∃ a c, e = .returned (.slice a (withL L zf).length c) ∧ In cN 1 w' a (withL L zf).length (withL L zf) ∧ Kept Nil W w') := Lib.hid fun W h => (refWith_any (HR.out.keptN (kW W h)) (by rw [HN.out]; omega)).mono fun e w' ⟨a, c, h1, h2, h3⟩ => ⟨a, c, h1, h2.toIn cN_len (by decide), h3⟩
      have h61 : L.length ≤ 61 := by rw [HN.out]; exact hl
      have hb1 : (kids L id).length ≤ 100000 := Nat.le_trans (ids_length _ _) (by omega)
      have hb2 : (factsI L id).length ≤ 100000 := Nat.le_trans (factsI_length HWf.out _) (by omega)
      have hb3 : (atL L zl).length ≤ 100000 := Nat.le_trans (ids_length _ _) (by omega)
      have hb4 : (withL L zf).length ≤ 100000 := Nat.le_trans (ids_length _ _) (by omega)
      have HB4 := Lib.hid (And.intro hb1 (And.intro hb2 (And.intro hb3 hb4)))
      obtain ⟨lk, hlk⟩ : ∃ lk, kids L id = lk := ⟨_, rfl⟩
      obtain ⟨lf, hlf⟩ : ∃ lf, factsI L id = lf := ⟨_, rfl⟩
      obtain ⟨la, hla⟩ : ∃ la, atL L zl = la := ⟨_, rfl⟩
      obtain ⟨lw, hlw⟩ : ∃ lw, withL L zf = lw := ⟨_, rfl⟩
      rw [hlk] at CKi CRK HB4
      rw [hlf] at CFs CRF HB4
      rw [hla] at CAt CRA HB4
      rw [hlw] at CWi CRW HB4
      have CI1 := Lib.hid (fun (W : World) (a a' : Option Addr) (c c' : Nat) (h1 : In cN 1 W a lk.length lk) (h2 : In cN 1 W a' lk.length lk) => ints_same (c := c) (c' := c') h1 h2 HB4.out.1)
      have CI2 := Lib.hid (fun (W : World) (a a' : Option Addr) (c c' : Nat) (h1 : In cN 1 W a lf.length lf) (h2 : In cN 1 W a' lf.length lf) => ints_same (c := c) (c' := c') h1 h2 HB4.out.2.1)
      have CI3 := Lib.hid (fun (W : World) (a a' : Option Addr) (c c' : Nat) (h1 : In cN 1 W a la.length la) (h2 : In cN 1 W a' la.length la) => ints_same (c := c) (c' := c') h1 h2 HB4.out.2.2.1)
      have CI4 := Lib.hid (fun (W : World) (a a' : Option Addr) (c c' : Nat) (h1 : In cN 1 W a lw.length lw) (h2 : In cN 1 W a' lw.length lw) => ints_same (c := c) (c' := c') h1 h2 HB4.out.2.2.2)
      generalize lk.length = nk at *
      generalize lf.length = nf at *
      generalize la.length = na at *
      generalize lw.length = nw at *
      have HKW := Lib.hid kW
      clear hlk hlf hla hlw hb1 hb2 hb3 hb4 hpar hfact kW h61 hok
      go_cut [147] from 86 to 147 (fun v wx => v = .bool false ∧ SS W0 g zp zl zf wx)
      case first =>
        go_region_held3 (SS W0 g zp zl zf)
          (first | (with_reducible assumption) | (with_reducible exact S0d))
          (first
            | (go_at_call 25; (with_reducible refine (CPa.out _ (by with_reducible assumption)).mono ?_); rintro e w5 ⟨rfl, rfl⟩)
            | (go_at_call 28; (with_reducible refine (CFa.out _ (by with_reducible assumption)).mono ?_); rintro e w5 ⟨rfl, rfl⟩)
            | (go_at_call 36; (with_reducible refine (CKi.out _ (by with_reducible assumption)).mono ?_); rintro e w5 ⟨aA, cA, rfl, hA, kA⟩; have sA := SS.kept (by with_reducible assumption) kA)
            | (go_at_call 34; (with_reducible refine (CRK.out _ (by with_reducible assumption)).mono ?_); rintro e w6 ⟨aB, cB, rfl, hB, kB⟩; have sB := SS.kept (by with_reducible assumption) kB; have hA := hA.kept kB)
            | (go_at_call 27; (with_reducible refine (CFs.out _ (by with_reducible assumption)).mono ?_); rintro e w5 ⟨aA, cA, rfl, hA, kA⟩; have sA := SS.kept (by with_reducible assumption) kA)
            | (go_at_call 37; (with_reducible refine (CRF.out _ (by with_reducible assumption)).mono ?_); rintro e w6 ⟨aB, cB, rfl, hB, kB⟩; have sB := SS.kept (by with_reducible assumption) kB; have hA := hA.kept kB)
            | (go_at_call 38; (with_reducible refine (CAt.out _ (by with_reducible assumption)).mono ?_); rintro e w5 ⟨aA, cA, rfl, hA, kA⟩; have sA := SS.kept (by with_reducible assumption) kA)
            | (go_at_call 39; (with_reducible refine (CRA.out _ (by with_reducible assumption)).mono ?_); rintro e w6 ⟨aB, cB, rfl, hB, kB⟩; have sB := SS.kept (by with_reducible assumption) kB; have hA := hA.kept kB)
            | (go_at_call 29; (with_reducible refine (CWi.out _ (by with_reducible assumption)).mono ?_); rintro e w5 ⟨aA, cA, rfl, hA, kA⟩; have sA := SS.kept (by with_reducible assumption) kA)
            | (go_at_call 40; (with_reducible refine (CRW.out _ (by with_reducible assumption)).mono ?_); rintro e w6 ⟨aB, cB, rfl, hB, kB⟩; have sB := SS.kept (by with_reducible assumption) kB; have hA := hA.kept kB)
            | (go_at_call 30; (first | (with_reducible refine (CI1.out _ _ _ _ _ hA hB).mono ?_) | (with_reducible refine (CI2.out _ _ _ _ _ hA hB).mono ?_) | (with_reducible refine (CI3.out _ _ _ _ _ hA hB).mono ?_) | (with_reducible refine (CI4.out _ _ _ _ _ hA hB).mono ?_)); rintro e w7 ⟨rfl, kC⟩; have sC := SS.kept (by with_reducible assumption) kC; clear hA hB))
        all_goals
          go_wp2_with fail
          go_meet
          exact ⟨rfl, by with_reducible assumption⟩
      case rest =>
        obtain ⟨rfl, hS⟩ := hcut
        have KC := Lib.hid (HKW.out _ hS)
        have c5 := (HR.out.keptN KC.out).cell
        rw [HN.out] at c5
        clear hS CPa CFa CKi CRK CFs CRF CAt CRA CWi CRW CI1 CI2 CI3 CI4 HKW HB4 S0 S0d BA KA
        go_wp2_with fail
        go_loopw [153] (fun i wr => ∃ j : Nat, j ≤ n ∧ i = .int .i64 j ∧ Kept Nil w1 wr) (fun i _ => n - (intOf i).toNat)
        case atStart => exact ⟨0, Nat.zero_le _, rfl, KC.out⟩
        case round =>
          obtain ⟨j, hj, rfl, hK⟩ := hrel
          have HK := Lib.hid hK
          clear hK
          by_cases hlt : j < n
          · obtain ⟨⟨yp, yl, yf, yo⟩, hy⟩ : ∃ x, L[j]? = some x := ⟨_, List.getElem?_eq_getElem (by rw [HN.out]; exact hlt)⟩
            obtain ⟨b, o, e1, x0, x1, x2, x3⟩ := (HR.out.keptN HK.out).at_ hy
            cases e1
            simp only at x0 x1 x2 x3
            have kA := (Kept.refl Nil wr).alloc (.cells #[.int .i64 yp, .string yl, .int .i64 yf, .int .i64 (outI yo)] 43)
            have KA := Lib.hid (HK.out.trans kA (fun _ _ e => e))
            have BA := Lib.hid (Blk.new wr 43 #[.int .i64 yp, .string yl, .int .i64 yf, .int .i64 (outI yo)])
            clear hy kA HK
            go_upto_region 17 with fail
            clear x0 x1 x2 x3
            generalize wr.alloc (.cells #[.int .i64 yp, .string yl, .int .i64 yf, .int .i64 (outI yo)] 43) = W1 at *
            generalize wr.heap.size = g1' at *
            have y1 := BA.out.cell 1
            simp at y1
            have CU := Lib.hid (up_s (HT.out.keptN KA.out) HWf.out (by rw [HN.out]; omega) hwi yl)
            have CRU := fun W (k : Kept Nil w1 W) => Lib.hid (refUp_any HWf.out (by rw [HN.out]; omega) yl id W (HR.out.keptN k))
            have hu0 := upI_nonneg HWf.out yl id
            generalize upI L id yl = u at *
            by_cases hu : u = 0
            · subst hu
              have hub : ((0 : Int) != 0) = false := by decide
              rw [hub] at CU
              clear hub hu0
              go_wp2_with fail
              refine CU.out.mono ?_
              rintro e w5 ⟨rfl, k5⟩
              have K5 := Lib.hid (KA.out.trans k5 (fun _ _ e => e))
              have CR5 := CRU w5 K5.out
              have y2 := (k5.cell (p := ⟨g1', 1, none⟩) (World.block_lt_of_cell? _ _ y1) (fun e => e)).trans y1
              clear k5 CU CRU
              go_wp2_with fail
              refine CR5.out.mono ?_
              rintro e w6 ⟨rfl, rfl⟩
              clear CR5
              go_wp2_with fail
              go_roundw
              case rel => exact ⟨j + 1, by omega, by go_num, K5.out⟩
              case measure => simp [intOf]; omega
            · have hub : (u != 0) = true := bne_iff_ne.2 hu
              have hgt : decide ((0 : Int) < u) = true := decide_eq_true (by omega)
              rw [hub] at CU
              clear hub hu0 hu
              go_wp2_with fail
              refine CU.out.mono ?_
              rintro e w5 ⟨rfl, k5⟩
              have K5 := Lib.hid (KA.out.trans k5 (fun _ _ e => e))
              have CR5 := CRU w5 K5.out
              have y2 := (k5.cell (p := ⟨g1', 1, none⟩) (World.block_lt_of_cell? _ _ y1) (fun e => e)).trans y1
              clear k5 CU CRU
              go_wp2_with fail
              refine CR5.out.mono ?_
              rintro e w6 ⟨rfl, rfl⟩
              clear CR5
              go_wp2_with fail
              go_roundw
              case rel => exact ⟨j + 1, by omega, by go_num, K5.out⟩
              case measure => simp [intOf]; omega
          · obtain rfl : j = n := by omega
            go_wp2_with fail
            go_roundw
            case rel => exact ⟨m + 1, by have := HId.out; have := HLe.out; omega, by have := HId.out; congr 1; push_cast; omega, HK.out⟩
            case measure => have := HId.out; have := HLe.out; simp [intOf]; omega
end Go.Proofs.Ytbaplplaokbnnaa
