/- Layer trie: the reference's trie in memory: its lists, its chains, which are out; what reads it: has, Find, Uses. – Layer trie: the program's New. – A range over a function whose iterator is told, by the loop's own invariant, in which state the rounds have left what it reads; and whose body is told that it is handed the right thing. After the library's laws for ranges over functions, whose contracts say neither. No program. – Layer trie: slices.Backward at numbers. -/
import Derived.Test.YtljefbfjehblpaaGreatA16
import Derived.Test.YtljefbfjehblpaaGreatA15
import Derived.Test.YtljefbfjehblpaaGreatA1
import Derived.RangeFuncNested
import Derived.RangeFuncBound
import Derived.RangeFuncCalls
import Derived.RangeFuncLeaves
import Derived.Shelf.Abstract
import Derived.Shelf.RegionOpen
import Derived.WalkKit
import Derived.OwnWalkIn
import Derived.TacticsInMore
import Derived.LoopNIn
import Derived.LoopIn
namespace Go.Proofs.YtljefbfjehblpaaGreat
section
open Go.RowKit Go.Maps Go.WideMaps
set_option maxRecDepth 100000

/-- Block q is the reference's trie; c: whose each block is (0: not its own; 9: what lists and chains are made of). -/
structure RTx (w : World) (c : Nat → Nat) (q : Nat) (ls : List (List St)) (es : En) (aL : Option Addr) (nL cL : Nat) (aC : Option Addr) (nC cC : Nat) (aO : Option Addr) (nO cO : Nat) (vL vC : List SlV) (vO : List Nat) : Prop where
  low : ∀ b, c b ≠ 0 → b < w.heap.size
  cq : c q = 1
  blk : Blk w q 30 #[.slice aL nL cL, .slice aC nC cC, .slice aO nO cO]
  rL : Row cV 35 1 w 0 (.slice aL nL cL) vL
  rC : Row cV 35 1 w 0 (.slice aC nC cC) vC
  rO : Row cNt 3 1 w 0 (.slice aO nO cO) vO
  oL : ∀ b, (Value.slice aL nL cL).ownBlock = some b → c b = 2
  oC : ∀ b, (Value.slice aC nC cC).ownBlock = some b → c b = 3
  oO : ∀ b, (Value.slice aO nO cO).ownBlock = some b → c b = 4
  sL : Sls w (fun b _ => c b = 9) vL ls
  lC : vC.length = es.length
  lO : vO.length = es.length
  on : ∀ (i : Nat) x, ent es (i + 2) = some x → vO[i]? = some 0 ∧ ∃ b cp, vC[i]? = some (b, x.length, cp) ∧ SHolds w (fun b _ => c b = 9) (.slice b x.length cp) x
  off : ∀ i, i < es.length → ent es (i + 2) = none → vO[i]? = some 1
def RT (w : World) (c : Nat → Nat) (q : Nat) (ls : List (List St)) (es : En) : Prop := ∃ aL nL cL aC nC cC aO nO cO vL vC vO, RTx w c q ls es aL nL cL aC nC cC aO nO cO vL vC vO
section
variable {w w' : World} {c : Nat → Nat} {q : Nat} {ls : List (List St)} {es : En} {U E : Nat → Int} {aL aC aO : Option Addr} {nL cL nC cC nO cO : Nat} {vL vC : List SlV} {vO : List Nat}
theorem RTx.kept {F : Nat → Prop} (h : RTx w c q ls es aL nL cL aC nC cC aO nO cO vL vC vO) (k : Kept F w w') (hF : ∀ b, F b → c b = 0) : RTx w' c q ls es aL nL cL aC nC cC aO nO cO vL vC vO := by
  refine ⟨fun b e => Nat.lt_of_lt_of_le (h.low b e) k.size, h.cq, h.blk.kept k (fun e => by have := hF _ e; rw [h.cq] at this; cases this), h.rL.keptF k (fun b e f => by have := hF _ f; rw [h.oL b e] at this; cases this), h.rC.keptF k (fun b e f => by have := hF _ f; rw [h.oC b e] at this; cases this), h.rO.keptF k (fun b e f => by have := hF _ f; rw [h.oO b e] at this; cases this), h.oL, h.oC, h.oO, h.sL.keptF k (fun b o e f => by have := hF _ f; omega), h.lC, h.lO, fun i x e => ?_, h.off⟩
  obtain ⟨h1, b, cp, h2, h3⟩ := h.on i x e
  exact ⟨h1, b, cp, h2, h3.kept k (fun b o e f => by have := hF _ f; omega)⟩
theorem RT.kept {F : Nat → Prop} (h : RT w c q ls es) (k : Kept F w w') (hF : ∀ b, F b → c b = 0) : RT w' c q ls es := by
  obtain ⟨aL, nL, cL, aC, nC, cC, aO, nO, cO, vL, vC, vO, h⟩ := h
  exact ⟨aL, nL, cL, aC, nC, cC, aO, nO, cO, vL, vC, vO, h.kept k hF⟩
theorem RT.keptN (h : RT w c q ls es) (k : Kept Nil w w') : RT w' c q ls es := h.kept k (fun _ e => e.elim)
theorem RT.low (h : RT w c q ls es) : ∀ b, c b ≠ 0 → b < w.heap.size := by obtain ⟨aL, nL, cL, aC, nC, cC, aO, nO, cO, vL, vC, vO, h⟩ := h; exact h.low
/-- A chain that is there is small. -/
theorem TLS.massE (h : TLS ls es U E) {n : Nat} {x : List St} (hx : ent es n = some x) : massL x ≤ 5000 := by
  by_cases h0 : x = []
  · rw [h0]; simp [massL]
  · have h1 := (ent_fnd h.tl.ok).1 hx
    obtain ⟨l, hl, hm⟩ := (usesL_pos h0).1 ((h.tl.all x h0).1 (by omega))
    have := ((h.tl.rl l hl).chain hm).mass
    omega
/-- Chains that are unlike and small. -/
structure Sm (es : En) : Prop where
  ok : EsOK es
  ms : ∀ n x, ent es n = some x → massL x ≤ 5000
theorem TLS.sm (h : TLS ls es U E) : Sm es := ⟨h.tl.ok, fun _ _ e => h.massE e⟩
set_option maxHeartbeats 4000000 in
/-- Find. -/
theorem rfind_any (h : RT w c q ls es) (ht : Sm es) (hes : es.length ≤ 4000) (x : List St) (hm : massL x ≤ 5000) (ok : Nat → Nat → Prop) (a : Option Addr) (cap : Nat) (hH : SHolds w ok (.slice a x.length cap) x) :
    Calls Tryz.prog 35 #[.pointer (some ⟨q, 0, none⟩), .slice a x.length cap] w fun e w' => e = .returned (.int .i64 (fnd es x : Nat)) ∧ Kept Nil w w' := by
  obtain ⟨aL, nL, cL, aC, nC, cC, aO, nO, cO, vL, vC, vO, h⟩ := h
  by_cases h0 : x = []
  · subst h0
    have e1 := fnd_nil es
    rw [e1]
    clear h hH
    go_enter Tryz.func35, Tryz.ntmps35
    go_wp2_with fail
    go_ret
    exact ⟨rfl, Kept.refl _ _⟩
  · have HX := Lib.hid h
    have HT := Lib.hid ht
    have hnC : nC = es.length := by have := h.rC.caps.1; rw [this, h.lC]
    have hnO : nO = es.length := by have := h.rO.caps.1; rw [this, h.lO]
    have hp := h.blk.lt
    have hcC := h.rC.caps.2
    have hcO := h.rO.caps.2
    have CA := Lib.hid (fun W (kW : Kept Nil w W) (y : List St) (hy : massL y ≤ 5000) (b : Option Addr) (cp : Nat) (hh : SHolds W (fun b _ => c b = 9) (.slice b y.length cp) y) => all_any y x hy hm (fun b _ => c b = 9) ok b a cp cap W hh (hH.keptN kW))
    obtain ⟨n, hn⟩ : ∃ n, es.length = n := ⟨_, rfl⟩
    rw [hn] at hnC hnO hes
    subst hnC
    subst hnO
    obtain ⟨len, hlen⟩ : ∃ len, x.length = len := ⟨_, rfl⟩
    have hl0 : len ≠ 0 := fun e => h0 (List.length_eq_zero_iff.1 (hlen.trans e))
    have e1 : ((len : Int) == 0) = false := by simp; omega
    have HN := Lib.hid hn
    have H0 := Lib.hid h0
    simp only [hlen] at CA hH ⊢
    clear h ht hH h0 hn hlen hm
    go_enter Tryz.func35, Tryz.ntmps35
    have d1 := HX.out.blk.cell 1
    simp only [List.getElem?_toArray, List.getElem?_cons_zero, List.getElem?_cons_succ] at d1
    go_wp2_with fail
    go_loopw [5, 6, 15] (fun _ _ i wr => ∃ j : Nat, j ≤ nO ∧ i = .int .i64 j ∧ Kept Nil w wr ∧ ∀ k, k < j → ent es (k + 2) ≠ some x) (fun _ _ i _ => nO - (intOf i).toNat)
    case atStart => exact ⟨0, Nat.zero_le _, rfl, Kept.refl _ _, fun k hk => absurd hk (Nat.not_lt_zero _)⟩
    case round =>
      obtain ⟨j, hj, rfl, hK, hno⟩ := hrel
      have HK := Lib.hid hK
      have HNO := Lib.hid hno
      clear d1
      by_cases hlt : j < nO
      · have HXw := Lib.hid (HX.out.kept hK (fun _ e => e.elim))
        obtain ⟨v, hv⟩ : ∃ v, vC[j]? = some v := ⟨_, List.getElem?_eq_getElem (by have := HX.out.lC; have := HN.out; omega)⟩
        obtain ⟨z, hz⟩ : ∃ z, vO[j]? = some z := ⟨_, List.getElem?_eq_getElem (by have := HX.out.lO; have := HN.out; omega)⟩
        obtain ⟨b, rfl, hb, _, qv⟩ := HXw.out.rC.get cV_len (by decide) hv
        obtain ⟨g, rfl, hg, _, qz⟩ := HXw.out.rO.get cNt_len (by decide) hz
        have qv := qv 0 _ rfl
        have qz := qz 0 _ rfl
        rw [Nat.mul_one, Nat.add_zero] at qv qz
        have d2 := HXw.out.blk.cell 2
        simp only [List.getElem?_toArray, List.getElem?_cons_zero, List.getElem?_cons_succ] at d2
        have hpw := HXw.out.blk.lt
        have hjj : (j : Int) < (nO : Int) := by omega
        cases hent : ent es (j + 2) with
        | none =>
          have hz1 := HX.out.off j (by have := HN.out; omega) hent
          rw [hz] at hz1
          cases hz1
          have HENT := Lib.hid hent
          clear hK hno hv hz hent
          go_wp2_with fail
          go_roundw
          case rel => exact ⟨j + 1, hlt, by go_num, HK.out, fun k hk => by
            rcases Nat.lt_or_ge k j with g | g
            · exact HNO.out k g
            · obtain rfl : k = j := by omega
              rw [HENT.out]; simp⟩
          case measure => simp [intOf]; omega
        | some y =>
          obtain ⟨hz1, b1, cp1, hv1, hh1⟩ := HX.out.on j y hent
          rw [hz] at hz1
          rw [hv] at hv1
          cases hz1
          cases hv1
          have CB := Lib.hid (CA.out wr hK y (HT.out.ms _ _ hent) b1 cp1 (hh1.keptN hK))
          rw [sameSL_decide] at CB
          have HENT := Lib.hid hent
          generalize hyl : y.length = yl at *
          clear hK hno hv hz hent hh1
          go_wp2_with fail
          refine CB.out.mono ?_
          rintro e w5 ⟨rfl, k5⟩
          have K5 := Lib.hid (HK.out.trans k5 (fun _ _ e => e))
          clear k5 CB
          by_cases hyx : y = x
          · have e2 : decide (y = x) = true := decide_eq_true hyx
            rw [e2]
            have hf : fnd es x = j + 2 := by rw [← hyx]; exact ((ent_fnd HT.out.ok).1 HENT.out).2
            have HF := Lib.hid hf
            clear e2 hyx hf
            go_wp2_with fail
            go_ret
            refine ⟨?_, K5.out⟩
            rw [HF.out]
            simp
          · have e2 : decide (y = x) = false := decide_eq_false hyx
            rw [e2]
            have HYX := Lib.hid hyx
            clear e2 hyx
            go_wp2_with fail
            go_roundw
            case rel => exact ⟨j + 1, hlt, by go_num, K5.out, fun k hk => by
              rcases Nat.lt_or_ge k j with g | g
              · exact HNO.out k g
              · obtain rfl : k = j := by omega
                rw [HENT.out]
                exact fun e => HYX.out (Option.some.inj e)⟩
            case measure => simp [intOf]; omega
      · obtain rfl : j = nO := by omega
        have hf : fnd es x = 0 := by
          rw [fnd_zero]
          refine ⟨H0.out, fun i hi => ?_⟩
          have hil := (List.getElem?_eq_some_iff.1 hi).1
          exact hno i (by have := HN.out; omega) ((ent_two (by omega)).2 (by simpa using hi))
        have HF := Lib.hid hf
        clear hK hno hf
        go_wp2_with fail
        go_ret
        refine ⟨?_, HK.out⟩
        rw [HF.out]; rfl
set_option maxHeartbeats 4000000 in
/-- Has a list a chain? -/
theorem has_any (l x : List St) (hc : cntL l ≤ 16) (hl : ∀ y ∈ chSL l [], massL y ≤ 5000) (hm : massL x ≤ 5000) (ok ok' : Nat → Nat → Prop) (a a' : Option Addr) (cap cap' : Nat) (w : World) (h : SHolds w ok (.slice a l.length cap) l) (hok : ∀ b o, ok b o → b < w.heap.size) (h' : SHolds w ok' (.slice a' x.length cap') x) (hch : (chSL l []).length ≤ 16) :
    Calls Tryz.prog 58 #[.slice a l.length cap, .slice a' x.length cap'] w fun e w' => e = .returned (.bool (decide (x ∈ chSL l []))) ∧ Kept Nil w w' := by
  have CC := Lib.hid (refChainsN l ok a cap w h hok (by omega))
  have H' := Lib.hid h'
  have HOK := Lib.hid hok
  have HL := Lib.hid hl
  obtain ⟨m, hmc⟩ : ∃ m, (chSL l []).length = m := ⟨_, rfl⟩
  obtain ⟨len, hlen⟩ : ∃ n, l.length = n := ⟨_, rfl⟩
  obtain ⟨lx, hlx⟩ : ∃ n, x.length = n := ⟨_, rfl⟩
  have HMC := Lib.hid hmc
  have HLX := Lib.hid hlx
  simp only [hmc, hlen, hlx] at CC hch ⊢
  clear h hok h' hl hmc hlen hlx hc
  go_enter Tryz.func58, Tryz.ntmps58
  go_wp2_with fail
  refine CC.out.mono ?_
  rintro e w1 ⟨a2, c2, vals, rfl, hI, hS, k1⟩
  have HI := Lib.hid hI
  have HS := Lib.hid hS
  have K1 := Lib.hid k1
  clear hI hS k1 CC
  go_wp2_with fail
  go_loopw [6, 10] (fun _ i wr => ∃ j : Nat, j ≤ m ∧ i = .int .i64 j ∧ Kept Nil w1 wr ∧ ∀ k, k < j → (chSL l [])[k]? ≠ some x) (fun _ i _ => m - (intOf i).toNat)
  case atStart => exact ⟨0, Nat.zero_le _, rfl, Kept.refl _ _, fun k hk => absurd hk (Nat.not_lt_zero _)⟩
  case round =>
    obtain ⟨j, hj, rfl, hK, hno⟩ := hrel
    have HK := Lib.hid hK
    have HNO := Lib.hid hno
    by_cases hlt : j < m
    · obtain ⟨y, hy⟩ : ∃ y, (chSL l [])[j]? = some y := ⟨_, List.getElem?_eq_getElem (by have := HMC.out; omega)⟩
      obtain ⟨by_, cy, hvy, hhy⟩ := HS.out.2 j y hy
      obtain ⟨b0, o0, rfl, hb0, hc0⟩ := (HI.out.kept hK).at_ hvy
      have q0 := hc0 0 _ rfl
      rw [Nat.mul_one, Nat.add_zero] at q0
      have hjj : (j : Int) < (m : Int) := by omega
      have CA := Lib.hid (all_any y x (HL.out y (List.mem_of_getElem? hy)) hm _ ok' by_ a' cy cap' wr (hhy.keptN hK) (by have := HLX.out; exact H'.out.keptN (K1.out.trans hK (fun _ _ e => e))))
      rw [sameSL_decide] at CA
      simp only [HLX.out] at CA
      have HY := Lib.hid hy
      generalize hyl : y.length = yl at *
      clear hK hno hc0 hhy hvy hy
      go_wp2_with fail
      refine CA.out.mono ?_
      rintro e w5 ⟨rfl, k5⟩
      have K5 := Lib.hid (HK.out.trans k5 (fun _ _ e => e))
      clear k5 CA
      by_cases hyx : y = x
      · have e2 : decide (y = x) = true := decide_eq_true hyx
        have e3 : decide (x ∈ chSL l []) = true := decide_eq_true (hyx ▸ List.mem_of_getElem? HY.out)
        rw [e2]
        have H3 := Lib.hid e3
        clear e2 e3 hyx
        go_wp2_with fail
        go_ret
        exact ⟨ret_bool H3.out.symm, K1.out.trans K5.out (fun _ _ e => e)⟩
      · have e2 : decide (y = x) = false := decide_eq_false hyx
        rw [e2]
        have HYX := Lib.hid hyx
        clear e2 hyx
        go_wp2_with fail
        go_roundw
        case rel => exact ⟨j + 1, hlt, by go_num, K5.out, fun k hk => by
          rcases Nat.lt_or_ge k j with g | g
          · exact HNO.out k g
          · obtain rfl : k = j := by omega
            rw [HY.out]
            exact fun e => HYX.out (Option.some.inj e)⟩
        case measure => simp [intOf]; omega
    · obtain rfl : j = m := by omega
      have e3 : decide (x ∈ chSL l []) = false := decide_eq_false (fun e => by
        obtain ⟨k, hk⟩ := List.getElem?_of_mem e
        exact hno k (by have := (List.getElem?_eq_some_iff.1 hk).1; have := HMC.out; omega) hk)
      have H3 := Lib.hid e3
      clear hK hno e3
      go_wp2_with fail
      go_ret
      exact ⟨ret_bool H3.out.symm, K1.out.trans HK.out (fun _ _ e => e)⟩
set_option maxHeartbeats 4000000 in
/-- Uses. -/
theorem ruses_any (h : RT w c q ls es) (hrl : ∀ l ∈ ls, Rl l) (hls : ls.length ≤ 1000) (x : List St) (hm : massL x ≤ 5000) (ok : Nat → Nat → Prop) (a : Option Addr) (cap : Nat) (hH : SHolds w ok (.slice a x.length cap) x) :
    Calls Tryz.prog 24 #[.pointer (some ⟨q, 0, none⟩), .slice a x.length cap] w fun e w' => e = .returned (.int .i64 (usesL ls x : Nat)) ∧ Kept Nil w w' := by
  obtain ⟨aL, nL, cL, aC, nC, cC, aO, nO, cO, vL, vC, vO, h⟩ := h
  have HX := Lib.hid h
  have hnL : nL = ls.length := by have := h.rL.caps.1; rw [this, h.sL.1]
  have hp := h.blk.lt
  have hcL := h.rL.caps.2
  have HRL := Lib.hid hrl
  have CH := Lib.hid (fun W (kW : Kept Nil w W) (l : List St) (hl : l ∈ ls) (b : Option Addr) (cp : Nat) (hh : SHolds W (fun b _ => c b = 9) (.slice b l.length cp) l) => has_any l x (hrl l hl).cnt (fun y hy => by have := ((hrl l hl).chain hy).mass; omega) hm (fun b _ => c b = 9) ok b a cp cap W hh (fun b o e => Nat.lt_of_lt_of_le (h.low b (by omega)) kW.size) (hH.keptN kW) (hrl l hl).chs)
  obtain ⟨len, hlen⟩ : ∃ len, x.length = len := ⟨_, rfl⟩
  have HLEN := Lib.hid hlen
  have HLS := Lib.hid hnL
  have hnb : nL ≤ 1000 := by omega
  simp only [hlen] at CH ⊢
  clear h hH hlen hm hnL hrl hls
  go_enter Tryz.func24, Tryz.ntmps24
  have d0 := HX.out.blk.cell 0
  simp only [List.getElem?_toArray, List.getElem?_cons_zero] at d0
  go_wp2_with fail
  go_loopw [5, 7, 13] (fun u _ i wr => ∃ j : Nat, j ≤ nL ∧ i = .int .i64 j ∧ u = .int .i64 (usesL (ls.take j) x : Nat) ∧ Kept Nil w wr) (fun _ _ i _ => nL - (intOf i).toNat)
  case atStart => exact ⟨0, Nat.zero_le _, rfl, by simp [usesL], Kept.refl _ _⟩
  case round =>
    obtain ⟨j, hj, rfl, rfl, hK⟩ := hrel
    have HK := Lib.hid hK
    have hub := usesL_le (ls.take j) x
    rw [List.length_take] at hub
    by_cases hlt : j < nL
    · obtain ⟨l, hl⟩ : ∃ l, ls[j]? = some l := ⟨_, List.getElem?_eq_getElem (by have := HLS.out; omega)⟩
      have HXw := Lib.hid (HX.out.kept hK (fun _ e => e.elim))
      obtain ⟨bx, cx, hv, hh⟩ := HXw.out.sL.2 j l hl
      obtain ⟨b, rfl, hb, _, qv⟩ := HXw.out.rL.get cV_len (by decide) hv
      have qv := qv 0 _ rfl
      rw [Nat.mul_one, Nat.add_zero] at qv
      have HTK := Lib.hid (show ls.take (j + 1) = ls.take j ++ [l] by rw [List.take_add_one, hl]; rfl)
      have CB := Lib.hid (CH.out wr hK l (List.mem_of_getElem? hl) bx cx hh)
      have hjj : (j : Int) < (nL : Int) := by omega
      obtain ⟨u, hu⟩ : ∃ u, usesL (ls.take j) x = u := ⟨_, rfl⟩
      have HU := Lib.hid hu
      rw [hu] at hub ⊢
      generalize hll : l.length = ll at *
      clear hK hv hh d0 hl hu
      by_cases h0 : len = 0
      · have e1 : ((len : Int) == 0) = true := by simp; omega
        have HNEW := Lib.hid (show usesL (ls.take (j + 1)) x = u + 1 by
          rw [HTK.out, usesL_snoc, HU.out, if_pos (.inl (List.length_eq_zero_iff.1 (HLEN.out.trans h0)))])
        clear h0
        go_wp2_with fail
        go_roundw
        case rel => exact ⟨j + 1, hlt, by go_num, by rw [HNEW.out]; go_num, HK.out⟩
        case measure => simp [intOf]; omega
      · have e1 : ((len : Int) == 0) = false := by simp; omega
        have HX0 := Lib.hid (show x ≠ [] from fun e => h0 (by rw [← HLEN.out, e]; rfl))
        clear h0
        go_wp2_with fail
        refine CB.out.mono ?_
        rintro e w5 ⟨rfl, k5⟩
        have K5 := Lib.hid (HK.out.trans k5 (fun _ _ e => e))
        clear k5 CB
        by_cases hx : x ∈ chSL l []
        · have e2 : decide (x ∈ chSL l []) = true := decide_eq_true hx
          have HNEW := Lib.hid (show usesL (ls.take (j + 1)) x = u + 1 by rw [HTK.out, usesL_snoc, HU.out, if_pos (.inr hx)])
          rw [e2]
          clear e2 hx
          go_wp2_with fail
          go_roundw
          case rel => exact ⟨j + 1, hlt, by go_num, by rw [HNEW.out]; go_num, K5.out⟩
          case measure => simp [intOf]; omega
        · have e2 : decide (x ∈ chSL l []) = false := decide_eq_false hx
          have HNEW := Lib.hid (show usesL (ls.take (j + 1)) x = u by
            rw [HTK.out, usesL_snoc, HU.out, if_neg (fun e => e.elim HX0.out hx)]; rfl)
          rw [e2]
          clear e2 hx
          go_wp2_with fail
          go_roundw
          case rel => exact ⟨j + 1, hlt, by go_num, by rw [HNEW.out], K5.out⟩
          case measure => simp [intOf]; omega
    · obtain rfl : j = nL := by omega
      have et : ls.take j = ls := List.take_of_length_le (by have := HLS.out; omega)
      rw [et]
      clear hK hub
      go_wp2_with fail
      go_ret
      exact ⟨rfl, HK.out⟩
end
end
section
open Go.RowKit Go.Maps Go.WideMaps
set_option maxRecDepth 100000

section
variable {w : World} {p : Nat}
set_option maxHeartbeats 8000000 in
theorem put_new (hb : Blk w p 54 #[.map none, .map none, .int .i64 0]) :
    Calls Tryz.prog 16 #[.pointer (some ⟨p, 0, none⟩), .agg (aSp zSp)] w fun e w' => e = .returned (.int .i64 1) ∧ ∃ c', TE w' c' p [] (fun _ => 0) (fun _ => 0) ∧ Kept (fun b => b = p) w w' ∧ ∀ b, c' b ≠ 0 → b = p ∨ w.heap.size ≤ b := by
  have hp := hb.lt
  have kA : Kept Nil w (w.alloc (.cells (aSp zSp) 62)) := (Kept.refl _ _).alloc _
  have hbA := hb.kept kA (fun e => e)
  have hb3 : Blk (w.alloc (.cells (aSp zSp) 62)) w.heap.size 62 (aSp zSp) := Blk.new _ _ _
  have hz0 : (w.alloc (.cells (aSp zSp) 62)).heap.size = w.heap.size + 1 := by simp
  have HKA := Lib.hid kA
  have hnil := fun W : World => run_eql_map_nil (P := Tryz.prog) W _ _ _ none Tryz.underlying51
  have hmm := @run_makeMap Tryz.prog
  have hp3 : p ≠ w.heap.size := by omega
  clear kA hb
  go_enter Tryz.func16, Tryz.ntmps16
  go_upto_region 1 with fail
  generalize w.alloc (.cells (aSp zSp) 62) = W0 at *
  generalize hq3 : w.heap.size = b3 at *
  have HQ3 := Lib.hid hq3
  have c0 := hbA.cell 0
  have c1 := hbA.cell 1
  have c2 := hbA.cell 2
  have f0 := hbA.frozen 0
  have f1 := hbA.frozen 1
  have f2 := hbA.frozen 2
  have hp0 := hbA.lt
  simp at c0 c1 c2
  have b2 := (hbA.alloc (.map #[] 0)).alloc (.map #[] 0)
  have c10 := b2.cell 0
  have c11 := b2.cell 1
  have c12 := b2.cell 2
  have f10 := b2.frozen 0
  have f11 := b2.frozen 1
  have f12 := b2.frozen 2
  simp only [List.getElem?_toArray, List.getElem?_cons_zero, List.getElem?_cons_succ] at c10 c11 c12
  have hb2 := Lib.hid b2
  clear hq3
  clear b2
  go_wp2_with fail
  have hz1 : (W0.alloc (.map #[] 0)).heap.size = b3 + 1 + 1 := by simp [hz0]
  have hz2 : ((W0.alloc (.map #[] 0)).alloc (.map #[] 0)).heap.size = b3 + 1 + 1 + 1 := by simp [hz1]
  have hz3 : (((((W0.alloc (.map #[] 0)).alloc (.map #[] 0)).setCell ⟨p, 0, none⟩ (.map (some (b3 + 1)))).setCell ⟨p, 1, none⟩ (.map (some (b3 + 1 + 1)))).setCell ⟨p, 2, none⟩ (.int .i64 1)).heap.size = b3 + 1 + 1 + 1 := by simp [World.setCell, hz2]
  have hm1 : MapM KNt VN ((W0.alloc (.map #[] 0))) (b3 + 1) 0 (fun _ => none) := by have := MapM.new (K := KNt) (V := VN) W0; rwa [hz0] at this
  have hm2 : MapM KSp VI (((W0.alloc (.map #[] 0)).alloc (.map #[] 0))) (b3 + 1 + 1) 0 (fun _ => none) := by have := MapM.new (K := KSp) (V := VI) (W0.alloc (.map #[] 0)); rwa [hz1] at this
  have kM0 : Kept Nil (W0.alloc (.map #[] 0)) ((W0.alloc (.map #[] 0)).alloc (.map #[] 0)) := (Kept.refl _ _).alloc _
  have kM1 : Kept (fun b => b = p) ((W0.alloc (.map #[] 0)).alloc (.map #[] 0)) ((((W0.alloc (.map #[] 0)).alloc (.map #[] 0)).setCell ⟨p, 0, none⟩ (.map (some (b3 + 1)))).setCell ⟨p, 1, none⟩ (.map (some (b3 + 1 + 1)))) := Kept.setCell (Kept.setCell (F := fun b => b = p) (Kept.refl _ _) _ (.inl rfl) _) _ (.inl rfl) _
  have kM2 : Kept (fun b => b = p) W0 ((((W0.alloc (.map #[] 0)).alloc (.map #[] 0)).setCell ⟨p, 0, none⟩ (.map (some (b3 + 1)))).setCell ⟨p, 1, none⟩ (.map (some (b3 + 1 + 1)))) := (((Kept.refl _ W0).alloc _).alloc _).trans kM1 (fun _ _ e => e)
  have hB0 := hb3.kept kM2 (fun e => hp3 e.symm)
  have hm1' := (hm1.kept kM0 (fun e => e)).kept kM1 (fun e => by omega)
  have hm2' := hm2.kept kM1 (fun e => by omega)
  have hBp := (hb2.out.set_ 0 (.map (some (b3 + 1)))).set_ 1 (.map (some (b3 + 1 + 1)))
  have hzm : ((((W0.alloc (.map #[] 0)).alloc (.map #[] 0)).setCell ⟨p, 0, none⟩ (.map (some (b3 + 1)))).setCell ⟨p, 1, none⟩ (.map (some (b3 + 1 + 1)))).heap.size = b3 + 1 + 1 + 1 := by simp [World.setCell, hz2]
  clear c10 c11 c12 f10 f11 f12 c0 c1 c2 f0 f1 f2 hz1 hz2 hm1 hm2 kM0 kM1 hb2 hnil hmm
  generalize ((((W0.alloc (.map #[] 0)).alloc (.map #[] 0)).setCell ⟨p, 0, none⟩ (.map (some (b3 + 1)))).setCell ⟨p, 1, none⟩ (.map (some (b3 + 1 + 1)))) = Wm at *
  have hc3 : Hid ((fun b => if b = p then 1 else if b = b3 + 1 then 2 else if b = b3 + 1 + 1 then 3 else 0 : Nat → Nat) b3 = 0 ∧ (fun b => if b = p then 1 else if b = b3 + 1 then 2 else if b = b3 + 1 + 1 then 3 else 0 : Nat → Nat) (b3 + 1 + 1 + 1) = 0) := Lib.hid ⟨by simp only; rw [if_neg (by omega), if_neg (by omega), if_neg (by omega)], by simp only; rw [if_neg (by omega), if_neg (by omega), if_neg (by omega)]⟩
  have hA : Trx Wm (fun b => if b = p then 1 else if b = b3 + 1 then 2 else if b = b3 + 1 + 1 then 3 else 0) p (fun _ => none) (fun _ => none) 0 (b3 + 1) (b3 + 1 + 1) (fun _ => none) := by
    refine ⟨fun b hb => ?_, by simp, ?_, ?_, by simpa using hBp, hm1'.more (by omega), hm2', fun k => .inl ⟨rfl, rfl⟩, fun k hk => absurd rfl hk⟩
    · rw [hzm]
      by_cases e1 : b = p
      · omega
      · by_cases e2 : b = b3 + 1
        · omega
        · by_cases e3 : b = b3 + 1 + 1
          · omega
          · simp [e1, e2, e3] at hb
    · simp [show b3 + 1 ≠ p by omega]
    · simp [show b3 + 1 + 1 ≠ p by omega]
  have HCC := Lib.hid (fun b => by
    by_cases e1 : b = p
    · exact .inr (.inl e1)
    · by_cases e2 : b = b3 + 1
      · exact .inr (.inr (by omega))
      · by_cases e3 : b = b3 + 1 + 1
        · exact .inr (.inr (by omega))
        · exact .inl (by simp [e1, e2, e3]) : ∀ b : Nat, (fun b => if b = p then 1 else if b = b3 + 1 then 2 else if b = b3 + 1 + 1 then 3 else 0 : Nat → Nat) b = 0 ∨ b = p ∨ b3 + 1 ≤ b)
  generalize (fun b => if b = p then 1 else if b = b3 + 1 then 2 else if b = b3 + 1 + 1 then 3 else 0 : Nat → Nat) = c at *
  have k1 : Kept Nil (Wm.setCell ⟨p, 2, none⟩ (.int .i64 1)) ((Wm.setCell ⟨p, 2, none⟩ (.int .i64 1)).alloc (.cells #[.int .i64 1] 3)) := (Kept.refl _ _).alloc _
  obtain ⟨W2, r2, k2, W3, r3, k3, tg⟩ := hA.enter (by omega) zSp spOK_z (n1 := 1) (by omega) k1
  have hb5 : Blk ((Wm.setCell ⟨p, 2, none⟩ (.int .i64 1)).alloc (.cells #[.int .i64 1] 3)) (b3 + 1 + 1 + 1) 3 #[.int .i64 1] := by rw [← hz3]; exact Blk.new _ _ _
  have kS : Kept (fun b => b = p) Wm ((Wm.setCell ⟨p, 2, none⟩ (.int .i64 1)).alloc (.cells #[.int .i64 1] 3)) := (Kept.setCell (F := fun b => b = p) (Kept.refl _ _) _ (.inl rfl) _).alloc _
  have hb31 := hB0.kept kS (fun e => hp3 e.symm)
  have hblk1 := ((hA.blk.set_ 2 (.int .i64 1)).alloc (.cells #[.int .i64 1] 3))
  have HKM := Lib.hid kM2
  have hzm5 := Lib.hid hzm
  generalize ((Wm.setCell ⟨p, 2, none⟩ (.int .i64 1)).alloc (.cells #[.int .i64 1] 3)) = W1 at *
  generalize hb5e : b3 + 1 + 1 + 1 = b5 at *
  generalize hbse : b3 + 1 + 1 = bs at *
  generalize hbne : b3 + 1 = bn at *
  have hpbn : p ≠ bn := fun e => by omega
  have hpbs : p ≠ bs := fun e => by omega
  have h3n : b3 ≠ bn := fun e => by omega
  have h3s : b3 ≠ bs := fun e => by omega
  have h5n : b5 ≠ bn := fun e => by omega
  have h5s : b5 ≠ bs := fun e => by omega
  have HBS := Lib.hid (show b3 + 1 ≤ bn ∧ b3 + 1 ≤ bs by omega)
  have S1 : Hid (SPutN p b3 b5 bn bs 1 zSp W1.drew) := Lib.hid ⟨by have := hblk1.drew.cell 0; simpa using this, by have := hblk1.drew.cell 1; simpa using this, by have := hb5.drew.cell 0; simpa using this, hb31.drew⟩
  have kp2 := hblk1.kept k2 hpbn
  have S2 : Hid (SPutN p b3 b5 bn bs 1 zSp W2.drew) := Lib.hid ⟨by have := kp2.drew.cell 0; simpa using this, by have := kp2.drew.cell 1; simpa using this, by have := (hb5.kept k2 h5n).drew.cell 0; simpa using this, (hb31.kept k2 h3n).drew⟩
  have B3 := Lib.hid (hb31.kept k3 (fun e => e.elim h3n h3s))
  have B5 := Lib.hid (hb5.kept k3 (fun e => e.elim h5n h5s))
  have HTG := Lib.hid tg
  have HZ0 := Lib.hid hz0
  clear k2 k3 tg hb5 hb31 hblk1 kp2 kS hzm hb3 hpbn hpbs h3n h3s h5n h5s k1 hA hz0 hp0 hz3 hm1' hm2' hBp hB0 kM2 hbA hb5e hbse hbne
  refine wp_region_lastL (SPutN p b3 b5 bn bs 1 zSp) (by simp) (by kernel_rfl) (by kernel_rfl) ?_
  simp only [List.dropLast, List.getLast]
  refine takeH (i := 0) (some 30) (.pointer (some ⟨p, 0, none⟩)) rfl rfl (by kernel_rfl) (by kernel_rfl) (by kernel_rfl) (fun _ _ _ h => h) (by rfl) S1.out ?_ ?_
  · intro w hSw
    go_simp
  simp only [Act.put, List.setIfInBounds_toArray, List.set_cons_succ, List.set_cons_zero]
  refine takeH (i := 1) (some 31) (.pointer (some ⟨p, 0, none⟩)) rfl rfl (by kernel_rfl) (by kernel_rfl) (by kernel_rfl) (fun _ _ _ h => h) (by rfl) S1.out ?_ ?_
  · intro w hSw
    go_simp
  simp only [Act.put, List.setIfInBounds_toArray, List.set_cons_succ, List.set_cons_zero]
  refine takeH (i := 2) (some 32) (.pointer (some ⟨p, 0, none⟩)) rfl rfl (by kernel_rfl) (by kernel_rfl) (by kernel_rfl) (fun _ _ _ h => h) (by rfl) S1.out ?_ ?_
  · intro w hSw
    go_simp
  simp only [Act.put, List.setIfInBounds_toArray, List.set_cons_succ, List.set_cons_zero]
  refine takeH (i := 3) (some 33) (.map (some bn)) rfl rfl (by kernel_rfl) (by kernel_rfl) (by kernel_rfl) (fun _ _ _ h => h) (by rfl) S1.out ?_ ?_
  · intro w hSw
    have h1 := hSw.1; go_simp
  simp only [Act.put, List.setIfInBounds_toArray, List.set_cons_succ, List.set_cons_zero]
  refine takeH (i := 4) (some 34) (.int .i64 1) rfl rfl (by kernel_rfl) (by kernel_rfl) (by kernel_rfl) (fun _ _ _ h => h) (by rfl) S1.out ?_ ?_
  · intro w hSw
    have h1 := hSw.2.2.1; go_simp
  simp only [Act.put, List.setIfInBounds_toArray, List.set_cons_succ, List.set_cons_zero]
  refine takeH (i := 5) (some 35) (.agg (aSp zSp)) rfl rfl (by kernel_rfl) (by kernel_rfl) (by kernel_rfl) (fun _ _ _ h => h) (by rfl) S1.out ?_ ?_
  · intro w hSw
    exact exec_load rfl rfl (loadSp hSw.2.2.2)
  simp only [Act.put, List.setIfInBounds_toArray, List.set_cons_succ, List.set_cons_zero]
  refine takeH (i := 6) (some 36) (.agg (aN ⟨zSp, none, 0, 0, none, 0, 0, 0, 0⟩)) rfl rfl (by kernel_rfl) (by kernel_rfl) (by kernel_rfl) (fun _ _ _ h => h) (by rfl) S1.out ?_ ?_
  · intro w hSw
    unfold aSp; go_simp; rfl
  simp only [Act.put, List.setIfInBounds_toArray, List.set_cons_succ, List.set_cons_zero]
  refine wpAnyH_done (by kernel_rfl) ?_ _
  refine store_wp rfl rfl ?_
  refine upd_wp _ _ _ _ rfl rfl rfl rfl r2 ?_
  go_wp2_with fail
  refine wp_region_lastL (SPutN p b3 b5 bn bs 1 zSp) (by simp) (by kernel_rfl) (by kernel_rfl) ?_
  simp only [List.dropLast, List.getLast]
  refine takeH (i := 0) (some 37) (.pointer (some ⟨p, 0, none⟩)) rfl rfl (by kernel_rfl) (by kernel_rfl) (by kernel_rfl) (fun _ _ _ h => h) (by rfl) S2.out ?_ ?_
  · intro w hSw
    go_simp
  simp only [Act.put, List.setIfInBounds_toArray, List.set_cons_succ, List.set_cons_zero]
  refine takeH (i := 1) (some 38) (.pointer (some ⟨p, 0, none⟩)) rfl rfl (by kernel_rfl) (by kernel_rfl) (by kernel_rfl) (fun _ _ _ h => h) (by rfl) S2.out ?_ ?_
  · intro w hSw
    go_simp
  simp only [Act.put, List.setIfInBounds_toArray, List.set_cons_succ, List.set_cons_zero]
  refine takeH (i := 2) (some 39) (.pointer (some ⟨p, 1, none⟩)) rfl rfl (by kernel_rfl) (by kernel_rfl) (by kernel_rfl) (fun _ _ _ h => h) (by rfl) S2.out ?_ ?_
  · intro w hSw
    go_simp
  simp only [Act.put, List.setIfInBounds_toArray, List.set_cons_succ, List.set_cons_zero]
  refine takeH (i := 3) (some 40) (.map (some bs)) rfl rfl (by kernel_rfl) (by kernel_rfl) (by kernel_rfl) (fun _ _ _ h => h) (by rfl) S2.out ?_ ?_
  · intro w hSw
    have h1 := hSw.2.1; go_simp
  simp only [Act.put, List.setIfInBounds_toArray, List.set_cons_succ, List.set_cons_zero]
  refine takeH (i := 4) (some 41) (.agg (aSp zSp)) rfl rfl (by kernel_rfl) (by kernel_rfl) (by kernel_rfl) (fun _ _ _ h => h) (by rfl) S2.out ?_ ?_
  · intro w hSw
    exact exec_load rfl rfl (loadSp hSw.2.2.2)
  simp only [Act.put, List.setIfInBounds_toArray, List.set_cons_succ, List.set_cons_zero]
  refine takeH (i := 5) (some 42) (.int .i64 1) rfl rfl (by kernel_rfl) (by kernel_rfl) (by kernel_rfl) (fun _ _ _ h => h) (by rfl) S2.out ?_ ?_
  · intro w hSw
    have h1 := hSw.2.2.1; go_simp
  simp only [Act.put, List.setIfInBounds_toArray, List.set_cons_succ, List.set_cons_zero]
  refine wpAnyH_done (by kernel_rfl) ?_ _
  refine store_wp rfl rfl ?_
  refine upd_wp _ _ _ _ rfl rfl rfl rfl r3 ?_
  have d0 : W3.cell? ⟨b3, 0, none⟩ = some (.int .i64 ((0 : Nat) : Int)) := by rw [B3.out.cell]; simp [aSp, zSp]
  have hC1 := Lib.hid (ch_addK HTG.out.tr (by omega) 0 (by omega) (bq := b5) (id := 1) (by have := B5.out; simpa using this) hc3.out.2 (fun x hx => by
    unfold setF at hx
    split at hx
    · cases hx; simp
    · cases hx))
  clear r2 r3 S1 S2
  go_wp2_with fail
  refine hC1.out.mono ?_
  rintro e W4 ⟨rfl, c4, tg4⟩
  have hc4 : c4 b5 = 0 ∧ c4 b3 = 0 := by
    constructor
    · by_cases e : c4 b5 = 0
      · exact e
      · rcases tg4.sub b5 e with e | e
        · exact absurd hc3.out.2 e
        · have := B5.out.lt; omega
    · by_cases e : c4 b3 = 0
      · exact e
      · rcases tg4.sub b3 e with e | e
        · exact absurd hc3.out.1 e
        · have := B3.out.lt; omega
  have B34 := Lib.hid (B3.out.kept tg4.kept (fun e => e.1 hc3.out.1))
  have B54 := Lib.hid (B5.out.kept tg4.kept (fun e => e.1 hc3.out.2))
  have d1 : W4.cell? ⟨b3, 15, none⟩ = some (.int .i64 ((0 : Nat) : Int)) := by rw [B34.out.cell]; simp [aSp, zSp]
  have hC2 := Lib.hid (ch_addO tg4.tr (by omega) 0 (by omega) (bq := b5) (id := 1) (by have := B54.out; simpa using this) hc4.1 (fun x hx => by
    unfold addK setF at hx
    split at hx
    · split at hx
      · cases hx; simp
      · obtain ⟨y, hy, rfl⟩ := Option.map_eq_some_iff.1 hx
        cases hy
    · split at hx
      · cases hx; simp
      · cases hx))
  have HTG2 := Lib.hid (HTG.out.trans tg4)
  clear tg4 d0 hC1
  go_wp2_with fail
  refine hC2.out.mono ?_
  rintro e W5 ⟨rfl, c5, tg5⟩
  have B55 := Lib.hid (B54.out.kept tg5.kept (fun e => e.1 hc4.1))
  have d2 : W5.cell? ⟨b5, 0, none⟩ = some (.int .i64 1) := by rw [B55.out.cell]; rfl
  have HTG3 := Lib.hid (HTG2.out.trans tg5)
  clear tg5 d1 hC2
  go_wp2_with fail
  go_ret
  have e1 : addO (addK (setF (fun _ => none) 1 (some ⟨zSp, [], [], 0, 0⟩)) 0 1) 0 1 = ndE [] (fun _ => 0) (fun _ => 0) := by
    funext n
    unfold addO addK setF ndE ent
    by_cases h0 : n = 0
    · subst h0; rfl
    · by_cases h1 : n = 1
      · subst h1; rfl
      · simp [h0, h1]
  have e2 : NmOK [] (setF (fun _ => none) zSp (some 1)) := by
    intro s n
    unfold setF ent
    by_cases h0 : n = 0
    · subst h0
      by_cases hs : s = zSp
      · simp [hs]
      · simp [hs]
    · by_cases h1 : n = 1
      · subst h1
        by_cases hs : s = zSp
        · simp [hs, shE]
        · simp [hs, shE, Ne.symm hs]
      · by_cases hs : s = zSp
        · simp [h0, h1, hs, Ne.symm h1]
        · simp [h0, h1, hs]
  have ht := HTG3.out
  have hsz := HKM.out.size
  have hq := HQ3.out
  refine ⟨rfl, c5, ⟨EsOK.nil, _, e2, by rw [← e1]; exact ht.tr⟩, (HKA.out.mono (fun _ _ e => e.elim)).trans (HKM.out.trans ht.kept fun b hb e => ?_) fun b _ e => e, fun b e => ?_⟩
  · rcases HCC.out b with g | g | g
    · exact absurd g e.1
    · exact g
    · have := HZ0.out; omega
  · rcases ht.sub b e with g | g
    · rcases HCC.out b with g2 | g2 | g2
      · exact absurd g2 g
      · exact .inl g2
      · exact .inr (by have := HBS.out.1; omega)
    · right; have := HKA.out.size; have := HKM.out.size; omega
set_option maxHeartbeats 8000000 in
theorem new_any (w : World) :
    Calls Tryz.prog 4 #[] w fun e w' => ∃ p c, e = .returned (.pointer (some ⟨p, 0, none⟩)) ∧ TE w' c p [] (fun _ => 0) (fun _ => 0) ∧ Kept Nil w w' ∧ ∀ b, c b ≠ 0 → w.heap.size ≤ b := by
  have hb : Blk (w.alloc (.cells #[.map none, .map none, .int .i64 0] 54)) w.heap.size 54 #[.map none, .map none, .int .i64 0] := Blk.new _ _ _
  have HC := Lib.hid (put_new hb)
  have HK := Lib.hid ((Kept.refl Nil w).alloc (.cells #[.map none, .map none, .int .i64 0] 54))
  go_enter Tryz.func4, Tryz.ntmps4
  go_upto_region 2 with fail
  generalize w.alloc (.cells #[.map none, .map none, .int .i64 0] 54) = W0 at *
  generalize hp : w.heap.size = p at *
  have HP := Lib.hid hp
  clear hp
  go_wp2_with fail
  refine HC.out.mono ?_
  rintro e W1 ⟨rfl, c, te, k, hc⟩
  go_wp2_with fail
  go_ret
  have hq := HP.out
  have hs := HK.out.size
  exact ⟨p, c, rfl, te, HK.out.trans k (fun b hb e => by omega), fun b e => by rcases hc b e with g | g <;> omega⟩
end
end
section
open Go.RowKit
set_option maxRecDepth 100000

/-- What an iterator promises: where each round's invariant J says Kn, it hands each round what is right (Ok), and ends with S, or where a round said 'no more'. -/
def SeqTold {α : Type} (F : Fence) (n : Nat) (P : Program) (g : Nat) (lb : Array Value) (encs : α → Array Value) (Kn : List α → World → Prop) (Ok : List α → α → Prop) (S : List α → Prop) (w : World) : Prop :=
  ∀ (l : Nat) (J Jx : List α → World → Prop) (W : World), Below w.heap.size w W → AbidesFrom W.heap.size J → AbidesFrom W.heap.size Jx → (∀ pre V, J pre V → Kn pre V) →
    (∀ pre x V, J pre V → Ok pre x → YieldAt F (n - 1) P l (encs x) V fun e V' => (e = .returned (.bool true) ∧ J (pre ++ [x]) V') ∨ (e = .returned (.bool false) ∧ Jx (pre ++ [x]) V')) →
    J [] W →
    CallsIn F n P g (#[.func (.yield l) #[] #[]] ++ lb) W fun e W' => (∃ v, e = .returned v) ∧ ((∃ xs, S xs ∧ J xs W') ∨ (∃ pre, Jx pre W'))

section
variable {F : Fence} {n : Nat} {P : Program} {α : Type} {a : Act} {w : World} {ps : Array Tmp} {assign body : Code} {fn : FuncId}
/-- The loop's record, in each of its states. -/
def recAt (a : Act) (w : World) (fn : FuncId) (ps : Array Tmp) (assign body : Code) (st : LoopState) (pe : Option Code) : Loop :=
  { state := st, pending := pe, fn, tmps := a.tmps, params := ps, assign, body, defers := w.heap.size }
/-- The two blocks of the loop's book-keeping. -/
structure Books (a : Act) (w : World) (fn : FuncId) (ps : Array Tmp) (assign body : Code) (st : LoopState) (pe : Option Code) (W : World) : Prop where
  loop : W.heap[w.heap.size + 1]? = some (.loop (recAt a w fn ps assign body st pe))
  calls : W.heap[w.heap.size]? = some (.deferred (some []))
theorem Books.turn {st st' : LoopState} {pe pe' : Option Code} {W : World} (h : Books a w fn ps assign body st pe W) : Books a w fn ps assign body st' pe' (W.putObj (w.heap.size + 1) (.loop (recAt a w fn ps assign body st' pe'))) :=
  ⟨World.putObj_heap_same (Array.getElem?_eq_some_iff.1 h.loop).1, (World.putObj_heap_other (by omega)).trans h.calls⟩
theorem Books.walks {st : LoopState} {pe : Option Code} {A B : World} {row : Option Nat} (h : Books a w fn ps assign body st pe A) (hg : A.grownBy B row) (hr : ∀ r, row = some r → ∃ o : Obj, A.heap[r]? = some o ∧ o.isWalk = true) : Books a w fn ps assign body st pe B :=
  ⟨(grownBy_keeps hg hr h.loop rfl).trans h.loop, (grownBy_keeps hg hr h.calls rfl).trans h.calls⟩
theorem Books.keeps {st : LoopState} {pe : Option Code} {A B : World} (h : Books a w fn ps assign body st pe A) (hk : KeepsFrom w.heap.size A B) : Books a w fn ps assign body st pe B :=
  ⟨hk.same _ _ (by omega) h.loop rfl, hk.same _ _ (Nat.le_refl _) h.calls rfl⟩

/-- How a body may be left. -/
abbrev toldPost (B : Nat) (I : List α → World → Prop) (Ix : Code → List α → World → Prop) (xs : List α) (W : World) : Exit → Act → World → Prop := ownPostG B (fun _ _ => True) I Ix xs W

theorem wpIn_rangeFunc_told {g : Operand} {Q : Exit → Act → World → Prop} (hro : F.round = none) (h1 : 1 ≤ n) {gf : Nat} {lb : Array Value} (hg : a.eval g = .func (.func gf) #[] lb) (hFg : F.fn gf) (eg : ∀ args w, (callFunc gf args).run P w = .ok (.enter gf args) w)
    {encs : α → Array Value} {Kn : List α → World → Prop} {Ok : List α → α → Prop} {S : List α → Prop} {w0 : World} (hseq : SeqTold F (n - 1) P gf lb encs Kn Ok S w0) (hb0 : Below w0.heap.size w0 w) (hps : ∀ x, (encs x).size = ps.size)
    (I : List α → World → Prop) (Ix : Code → List α → World → Prop) (hI : OwnFrom w.heap.size I) (hIx : ∀ c, OwnFrom w.heap.size (Ix c)) (hKn : ∀ pre V, I pre V → Kn pre V) (h0 : I [] w) (a₁ : α → Act)
    (hassign : ∀ (l : Nat) (x : α) (W : World) (K : Act → World → Prop), K (a₁ x) W → assign.wpIn (F.inRound l) (n - 1 - 1) P (Exit.then K (fun _ _ _ => False)) { tmps := (ps.zip (encs x)).foldl (fun t (p, v) => t.setIfInBounds p v) a.tmps, defers := [] } W)
    (hbody : ∀ (l : Nat) (pre : List α) (x : α) (W : World), I pre W → Ok pre x → body.wpIn (F.inRound l) (n - 1 - 1) P (toldPost w.heap.size I Ix (pre ++ [x]) W) (a₁ x) W)
    (hdone : ∀ (D : Nat) (xs : List α) (W : World), w.heap.size ≤ D → S xs → I xs W → W.heap[D]? = some (.deferred (some [])) → Q .normal { a with defers := { target := .collected D, args := #[] } :: a.defers } W)
    (hstop : ∀ (D : Nat) (c : Code) (pre : List α) (W : World), w.heap.size ≤ D → Ix c pre W → W.heap[D]? = some (.deferred (some [])) → c.wpIn F n P Q { a with defers := { target := .collected D, args := #[] } :: a.defers } W) :
    (Code.rangeFunc g ps assign body).wpIn F n P Q a w := by
  refine wpIn_rangeFunc fun fn hfn => ?_
  rw [hro]
  obtain ⟨W1, hW1⟩ : ∃ W1, (w.alloc (.deferred (some []))).alloc (.loop (recAt a w fn ps assign body .ready none)) = W1 := ⟨_, rfl⟩
  have hs1 : W1.heap.size = w.heap.size + 2 := by rw [← hW1]; simp
  have B1 : Books a w fn ps assign body .ready none W1 := by
    subst hW1
    refine ⟨?_, (Below.heap_alloc _ _ _ (by simp)).trans (World.alloc_heap_new w _)⟩
    have := World.alloc_heap_new (w.alloc (.deferred (some []))) (.loop (recAt a w fn ps assign body .ready none))
    rwa [World.size_alloc] at this
  have I1 : I [] W1 := by rw [← hW1]; exact hI.alloc _ (hI.alloc _ h0)
  have hb1 : Below w0.heap.size w0 W1 := by
    rw [← hW1]; exact hb0.trans ((((Below.refl _ w).alloc (Nat.le_refl _) _).alloc (by simp) _).mono hb0.size)
  have cells : ∀ {A : World} {row : Option Nat}, (∀ r, row = some r → W1.heap.size ≤ r ∧ ∃ o : Obj, A.heap[r]? = some o ∧ o.isWalk = true) → ∀ r, row = some r → w.heap.size ≤ r ∧ ∃ o : Obj, A.heap[r]? = some o ∧ o.isCells = false := fun hr r e => by
    obtain ⟨hB, o, ho, hw⟩ := hr r e
    exact ⟨by omega, o, ho, Obj.not_cells_of_walk hw⟩
  refine ⟨w.heap.size + 1, [{ target := .collected w.heap.size, args := #[] }], W1, { target := .fn (.func gf) lb, args := #[.func (.yield (w.heap.size + 1)) #[] #[]] }, W1, gf,
    #[.func (.yield (w.heap.size + 1)) #[] #[]] ++ lb, W1, ?_, ?_, ?_, ?_, fun _ => h1, ?_⟩
  · rw [← hW1]; exact run_enterLoop_outer _ _ _ _ _
  · simp only [resolve, hg]; simp [go_sem]
  · intro f' hf'; simp [Target.leads] at hf'; subst hf'; exact hFg
  · simp [invoke, go_sem, eg]
  refine (hseq (w.heap.size + 1) (fun pre W => I pre W ∧ Books a w fn ps assign body .ready none W) (fun pre W => ∃ c, Ix c pre W ∧ Books a w fn ps assign body .done (some c) W) W1 hb1
    (fun s A B row hs hg' hr => ⟨hI s A B row hs.1 hg' (cells hr), hs.2.walks hg' (fun r e => (hr r e).2)⟩)
    (fun s A B row ⟨c, hc, hb⟩ hg' hr => ⟨c, hIx c s A B row hc hg' (cells hr), hb.walks hg' (fun r e => (hr r e).2)⟩)
    (fun pre V h => hKn pre V h.1) (fun pre x W ⟨hi, hb⟩ hok => ?_) ⟨I1, B1⟩).mono ?_
  · -- a round
    have hy := run_yield (P := P) (args := encs x) hb.loop (hps x)
    refine ⟨fn, _, assign, body, hy, roundIn_of_wpIn hfn (hassign _ x W _ ⟨_, run_beginRound hb.loop rfl, ?_⟩)⟩
    have hb2 : Books a w fn ps assign body .busy none (W.putObj (w.heap.size + 1) (.loop (recAt a w fn ps assign body .busy none))) := hb.turn
    refine wpIn_mono (hbody _ pre x _ (hI.putObj _ hi (by omega) hb.loop rfl) hok) ?_
    have fin : ∀ (jump : Option Code) (V : World), KeepsFrom w.heap.size (W.putObj (w.heap.size + 1) (.loop (recAt a w fn ps assign body .busy none))) V →
        (Instr.endRound (w.heap.size + 1) jump).run P V = .ok (.bool jump.isNone) (V.putObj (w.heap.size + 1) (.loop (recAt a w fn ps assign body (if jump.isNone then .ready else .done) jump))) ∧
        V.heap[w.heap.size + 1]? = some (.loop (recAt a w fn ps assign body .busy none)) ∧
        Books a w fn ps assign body (if jump.isNone then .ready else .done) jump (V.putObj (w.heap.size + 1) (.loop (recAt a w fn ps assign body (if jump.isNone then .ready else .done) jump))) := fun jump V hk =>
      ⟨run_endRound (P := P) jump (hb2.keeps hk).loop, (hb2.keeps hk).loop, (hb2.keeps hk).turn⟩
    rintro e a3 V hp
    cases e with
    | normal =>
      obtain ⟨hr, hl, hbk⟩ := fin none V hp.1
      exact ⟨_, _, hr, .inl ⟨rfl, hI.putObj _ hp.2.2 (by omega) hl rfl, hbk⟩⟩
    | ret =>
      obtain ⟨hr, hl, hbk⟩ := fin (some .ret) V hp.1
      exact ⟨_, _, hr, .inr ⟨rfl, .ret, (hIx _).putObj _ hp.2 (by omega) hl rfl, hbk⟩⟩
    | exit id =>
      obtain ⟨hr, hl, hbk⟩ := fin (some (.exit id)) V hp.1
      exact ⟨_, _, hr, .inr ⟨rfl, .exit id, (hIx _).putObj _ hp.2 (by omega) hl rfl, hbk⟩⟩
    | goto t =>
      obtain ⟨hr, hl, hbk⟩ := fin (some (.goto t)) V hp.1
      exact ⟨_, _, hr, .inr ⟨rfl, .goto t, (hIx _).putObj _ hp.2 (by omega) hl rfl, hbk⟩⟩
    | panic ch => exact hp.elim
    | outgrown => exact hp.elim
  · -- behind the iterator
    rintro e W2 ⟨⟨v, rfl⟩, (⟨xs, hS, hi, hb⟩ | ⟨pre, c, hi, hb⟩)⟩
    · exact ⟨none, _, run_endLoop (P := P) hb.loop (by simp [recAt]), hdone _ xs _ (Nat.le_refl _) hS (hI.putObj _ hi (by omega) hb.loop rfl) ((World.putObj_heap_other (by omega)).trans hb.calls)⟩
    · exact ⟨some c, _, run_endLoop (P := P) hb.loop (by simp [recAt]), hstop _ c pre _ (Nat.le_refl _) ((hIx c).putObj _ hi (by omega) hb.loop rfl) ((World.putObj_heap_other (by omega)).trans hb.calls)⟩
end
end
section
open Go.RowKit Go.Maps Go.Shelf
attribute [local go_sem] Oper.semAt_some
set_option maxRecDepth 100000

theorem back_any {w : World} (a : Option Addr) (n cap : Nat) :
    Calls Tryz.prog 28 #[.slice a n cap] w fun e w' => e = .returned (.func (.func 59) #[] #[.pointer (some ⟨w.heap.size, 0, none⟩)]) ∧ w' = w.alloc (.cells #[.slice a n cap] 28) := by
  go_enter Tryz.func28, Tryz.ntmps28
  go_wp2
  go_ret
  exact ⟨rfl, rfl⟩
def encB (x : Nat × Nat) : Array Value := #[.int .i64 (x.1 : Int), .int .i64 (x.2 : Int)]
section
variable (B bc : Nat) (a : Option Addr) (n cap : Nat) (ids : List Nat)
def KnB (_ : List (Nat × Nat)) (V : World) : Prop := Blk V bc 28 #[.slice a n cap] ∧ Row cNt 3 1 V B (.slice a n cap) ids
def OkB (pre : List (Nat × Nat)) (x : Nat × Nat) : Prop := n = pre.length + 1 + x.1 ∧ ids[x.1]? = some x.2
def EndB (xs : List (Nat × Nat)) : Prop := xs.length = n

set_option maxHeartbeats 4000000 in
theorem back_told (hn : n ≤ 1000) (k : Nat) (w : World) :
    SeqTold Fence.wide k Tryz.prog 59 #[.pointer (some ⟨bc, 0, none⟩)] encB (KnB B bc a n cap ids) (OkB n ids) (EndB n) w := by
  intro l J Jx W hW hJ hJx hKn hY h0
  refine callsIn_of_wp Tryz.func59 rfl trivial ?_ rfl
  have hk := hKn _ _ h0
  have q0 := hk.1.cell 0
  have hnl := hk.2.caps.1
  have HNL := Lib.hid hnl
  simp only [List.getElem?_toArray, List.getElem?_cons_zero] at q0
  simp only [Tryz.ntmps59, List.size_toArray, List.length_cons, List.length_nil, Nat.reduceAdd, Nat.reduceSub, Array.replicate_succ, Array.replicate_zero, List.push_toArray, List.append_toArray, List.nil_append, List.cons_append]
  have H0 := Lib.hid h0
  clear hk hnl h0
  gi_wp2
  gi_loopw [3] (fun hv wr => ∃ pre : List (Nat × Nat), pre.length ≤ n ∧ hv = .int .i64 ((n : Int) - 1 - (pre.length : Int)) ∧ J pre wr) (fun hv _ => (intOf hv + 1).toNat)
  case atStart => exact ⟨[], Nat.zero_le _, by simp, H0.out⟩
  case round =>
    obtain ⟨pre, hle, rfl, hj⟩ := hrel
    have HJ := Lib.hid hj
    by_cases hlt : pre.length < n
    · obtain ⟨j, hj2⟩ : ∃ j, n = pre.length + 1 + j := ⟨n - 1 - pre.length, by omega⟩
      have hij : (n : Int) - 1 - (pre.length : Int) = (j : Int) := by omega
      rw [hij]
      obtain ⟨id, hid⟩ : ∃ id, ids[j]? = some id := ⟨ids[j]'(by have := HNL.out; omega), List.getElem?_eq_getElem _⟩
      obtain ⟨b, rfl, hb, _, hc⟩ := (hKn _ _ hj).2.get (fun _ => rfl) (by omega) hid
      have q1 := (hKn _ _ hj).1.cell 0
      have q2 := hc 0 (.int .i64 (id : Int)) rfl
      simp only [List.getElem?_toArray, List.getElem?_cons_zero, Nat.mul_one, Nat.add_zero] at q1 q2
      have hjn : j < n := by omega
      have hge : decide ((0 : Int) ≤ (j : Int)) = true := by simp
      have HJ2 := Lib.hid hj2
      have HID := Lib.hid hid
      have HIJ := Lib.hid hij
      clear hj hlt hij hj2 hid hc
      obtain ⟨fn, tmps, assign, body, hy, hR⟩ := hY pre (j, id) wr HJ.out ⟨HJ2.out, HID.out⟩
      dsimp only [encB] at hy
      have HR := Lib.hid hR
      clear hR
      gi_wp2
      refine ⟨fun h => (by cases h), HR.out.mono ?_⟩
      rintro e V3 (⟨rfl, hj3⟩ | ⟨rfl, hx3⟩)
      · have HJ3 := Lib.hid hj3
        clear hj3
        gi_wp2
        go_roundw
        case rel => exact ⟨pre ++ [(j, id)], by have := HJ2.out; simp; omega, by have := HJ2.out; simp; omega, HJ3.out⟩
        case measure => simp [intOf]
      · have HX3 := Lib.hid hx3
        clear hx3
        gi_wp2
        refine bodyPost_ret (results_none rfl _ _ _) rfl ?_
        exact ⟨⟨_, rfl⟩, .inr ⟨_, HX3.out⟩⟩
    · have e : (n : Int) - 1 - (pre.length : Int) = -1 := by omega
      have HE := Lib.hid (show pre.length = n by omega)
      rw [e]
      clear hj hlt hle e
      gi_wp2
      go_end0
      exact ⟨⟨_, rfl⟩, .inl ⟨pre, HE.out, HJ.out⟩⟩
end
end
end Go.Proofs.YtljefbfjehblpaaGreat
