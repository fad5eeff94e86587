/- Layer trie: same: a trie that is the document's is found to be so. -/
import Derived.Test.YtljefbfjehblpaaGreatA21
import Derived.Deep.DeepCutAuto
import Derived.Deep.RegionHeld3
namespace Go.Proofs.YtljefbfjehblpaaGreat
section
open Go.RowKit Go.Maps Go.WideMaps
set_option maxRecDepth 1000000

/-- Both tries. -/
structure Both (w : World) (c : Nat → Nat) (p : Nat) (cr : Nat → Nat) (q : Nat) (ls : List (List St)) (es : En) (U E : Nat → Int) : Prop where
  te : TE w c p es U E
  rt : RT w cr q ls es
  tl : TLS ls es U E
  es3 : es.length ≤ 3000
  ls3 : ls.length ≤ 1000
section
variable {w : World} {c cr : Nat → Nat} {p q : Nat} {es : En} {U E : Nat → Int} {ls : List (List St)}
theorem Both.keptN {W : World} (h : Both w c p cr q ls es U E) (k : Kept Nil w W) : Both W c p cr q ls es U E := ⟨h.te.keptN k, h.rt.keptN k, h.tl, h.es3, h.ls3⟩
/-- Where the document's chains lie. -/
theorem Both.blk (h : Both w c p cr q ls es U E) : ∃ (aC : Option Addr) (cC : Nat), ∀ W, Kept Nil w W → W.cell? ⟨q, 1, none⟩ = some (.slice aC es.length cC) ∧ q < W.heap.size := by
  obtain ⟨aL, nL, cL, aC, nC, cC, aO, nO, cO, vL, vC, vO, h⟩ := h.rt
  have hn : nC = es.length := by have := h.rC.caps.1; rw [this, h.lC]
  subst hn
  refine ⟨aC, cC, fun W k => ?_⟩
  have hb := h.blk.kept k id
  exact ⟨by have := hb.cell 1; simpa using this, hb.lt⟩
theorem alv_le (es : En) : (alv es).length ≤ es.length + 2 := by
  unfold alv
  exact Nat.le_trans (List.length_filter_le _ _) (by simp)
/-- Two rows that grow side by side. -/
structure TwoR (W0 W : World) (v o : Value) (lk lo : List Nat) : Prop where
  rk : Row cNt 3 1 W W0.heap.size v lk
  ro : Row cNt 3 1 W W0.heap.size o lo
  ap : ∀ b, v.ownBlock = some b → o.ownBlock ≠ some b
  k : Kept Nil W0 W
theorem TwoR.kept {W0 W W' : World} {v o : Value} {lk lo : List Nat} (h : TwoR W0 W v o lk lo) (k : Kept Nil W W') : TwoR W0 W' v o lk lo := ⟨h.rk.keptN k, h.ro.keptN k, h.ap, h.k.trans k (fun _ _ e => e)⟩
theorem TwoR.pushK {W0 W : World} {a : Option Addr} {n cap : Nat} {o : Value} {lk lo : List Nat} (h : TwoR W0 W (.slice a n cap) o lk lo) (hl : lk.length ≤ 5000) (x : Nat) :
    ∃ a' c' W', (Builtin.append_ #[28, 28] 28 #[.slice a n cap, .slice (some ⟨W.heap.size, 0, none⟩) 1 1]).run Tryz.prog (W.alloc (.cells #[.int .i64 x] 3)) = .ok (.slice a' (n + 1) c') W' ∧ TwoR W0 W' (.slice a' (n + 1) c') o (lk ++ [x]) lo := by
  obtain ⟨a', c', W', hrun, hR, hk, hown⟩ := h.rk.push2 elsNt cNt_len (fun x => cNt_one x) 28 h.k.size hl x #[.int .i64 (x : Int)] rfl
  refine ⟨a', c', W', hrun, hR, h.ro.keptF hk (fun b hb e => h.ap b e hb), fun b hb e => ?_, h.k.trans hk (fun i hi e => by have := h.rk.lowb e; omega)⟩
  rcases hown b hb with g | g
  · exact h.ap b g e
  · obtain ⟨cur, hh⟩ := h.ro.block e
    have := (Array.getElem?_eq_some_iff.1 hh).1
    omega
theorem TwoR.pushO {W0 W : World} {a : Option Addr} {n cap : Nat} {v : Value} {lk lo : List Nat} (h : TwoR W0 W v (.slice a n cap) lk lo) (hl : lo.length ≤ 5000) (x : Nat) :
    ∃ a' c' W', (Builtin.append_ #[28, 28] 28 #[.slice a n cap, .slice (some ⟨W.heap.size, 0, none⟩) 1 1]).run Tryz.prog (W.alloc (.cells #[.int .i64 x] 3)) = .ok (.slice a' (n + 1) c') W' ∧ TwoR W0 W' v (.slice a' (n + 1) c') lk (lo ++ [x]) := by
  have h' : TwoR W0 W (.slice a n cap) v lo lk := ⟨h.ro, h.rk, fun b e f => h.ap b f e, h.k⟩
  obtain ⟨a', c', W', hrun, hh⟩ := h'.pushK hl x
  exact ⟨a', c', W', hrun, hh.ro, hh.rk, fun b e f => hh.ap b f e, hh.k⟩
theorem filter_step {al : List Nat} {j k2 : Nat} (h : al[j]? = some k2) (f : Nat → Bool) : (al.take (j + 1)).filter f = if f k2 = true then (al.take j).filter f ++ [k2] else (al.take j).filter f := by
  rw [List.take_add_one, h, List.filter_append]
  by_cases hf : f k2 = true
  · rw [if_pos hf]; simp [List.filter, hf]
  · rw [if_neg hf]; simp [List.filter, hf]
theorem filter_small {al : List Nat} {m : Nat} (h : al.length ≤ m) (j : Nat) (f : Nat → Bool) : ((al.take j).filter f).length ≤ m :=
  Nat.le_trans (List.length_filter_le _ _) (Nat.le_trans (by rw [List.length_take]; omega) h)
/-- What a step's box and a chain's last step hold. -/
abbrev SW (W0 : World) (bS b5 z : Nat) (x0 x1 x2 x3 : Int) (t u t' u' : Value) (W : World) : Prop := W.cell? ⟨bS, 0, none⟩ = some (.int .i64 x0) ∧ W.cell? ⟨bS, 1, none⟩ = some (.int .i64 x1) ∧ W.cell? ⟨bS, 2, none⟩ = some (.int .i64 x2) ∧ W.cell? ⟨bS, 3, none⟩ = some (.int .i64 x3) ∧ W.cell? ⟨bS, 4, none⟩ = some t ∧ W.cell? ⟨bS, 5, none⟩ = some u ∧
  W.cell? ⟨b5, z, none⟩ = some (.int .i64 x0) ∧ W.cell? ⟨b5, z + 1, none⟩ = some (.int .i64 x1) ∧ W.cell? ⟨b5, z + 2, none⟩ = some (.int .i64 x2) ∧ W.cell? ⟨b5, z + 3, none⟩ = some (.int .i64 x3) ∧ W.cell? ⟨b5, z + 4, none⟩ = some t' ∧ W.cell? ⟨b5, z + 5, none⟩ = some u' ∧ Kept Nil W0 W
theorem SW.kept {W0 W W' : World} {bS b5 z : Nat} {x0 x1 x2 x3 : Int} {t u t' u' : Value} (h : SW W0 bS b5 z x0 x1 x2 x3 t u t' u' W) (kk : Kept Nil W W') : SW W0 bS b5 z x0 x1 x2 x3 t u t' u' W' := by
  obtain ⟨h0, h1, h2, h3, h4, h5, g0, g1, g2, g3, g4, g5, k⟩ := h
  exact ⟨kk.cellOf h0, kk.cellOf h1, kk.cellOf h2, kk.cellOf h3, kk.cellOf h4, kk.cellOf h5, kk.cellOf g0, kk.cellOf g1, kk.cellOf g2, kk.cellOf g3, kk.cellOf g4, kk.cellOf g5, k.trans kk (fun _ _ e => e)⟩
theorem SW.k {W0 W : World} {bS b5 z : Nat} {x0 x1 x2 x3 : Int} {t u t' u' : Value} (h : SW W0 bS b5 z x0 x1 x2 x3 t u t' u' W) : Kept Nil W0 W := h.2.2.2.2.2.2.2.2.2.2.2.2
set_option maxHeartbeats 16000000 in
theorem same_any (HBo : Hid (Both w c p cr q ls es U E)) :
    Calls Tryz.prog 15 #[.pointer (some ⟨p, 0, none⟩), .pointer (some ⟨q, 0, none⟩)] w fun e w' => e = .returned (.bool true) ∧ Kept Nil w w' := by
  obtain ⟨aC, cC, hblk⟩ := HBo.out.blk
  have HBlk := Lib.hid hblk
  obtain ⟨al, hal⟩ : ∃ al, alv es = al := ⟨_, rfl⟩
  obtain ⟨m, hm⟩ : ∃ m, al.length = m := ⟨_, rfl⟩
  obtain ⟨n, hn⟩ : ∃ n, es.length = n := ⟨_, rfl⟩
  have hn3 : n ≤ 3000 := by have := HBo.out.es3; omega
  have hm3 : m ≤ 5000 := by have := alv_le es; rw [hal, hm] at this; omega
  have CAll : Hid (∀ W, Kept Nil w W → Calls Tryz.prog 40 #[.pointer (some ⟨q, 0, none⟩)] W fun e w' => ∃ a cap, e = .returned (.slice a m cap) ∧ In cNt 1 w' a m al ∧ Kept Nil W w') := Lib.hid fun W k => by
    have := rall_any (HBo.out.keptN k).rt (by have := HBo.out.es3; omega) hal
    rw [hm] at this
    exact this.mono fun e w' ⟨a, cap, h1, h2, h3⟩ => ⟨a, cap, h1, h2.toIn cNt_len (by decide), h3⟩
  have CTAll : Hid (∀ W, Kept Nil w W → Calls Tryz.prog 41 #[.pointer (some ⟨p, 0, none⟩)] W fun e w' => ∃ a cap, e = .returned (.slice a m cap) ∧ In cNt 1 w' a m al ∧ Kept Nil W w') := Lib.hid fun W k => by
    have := trieAll_any (HBo.out.keptN k).te (by have := HBo.out.es3; omega) hal
    rw [hm] at this
    exact this.mono fun e w' ⟨a, cap, h1, h2, h3⟩ => ⟨a, cap, h1, h2.toIn cNt_len (by decide), h3⟩
  have CLen : Hid (∀ W, Kept Nil w W → Calls Tryz.prog 17 #[.pointer (some ⟨p, 0, none⟩)] W fun e w' => e = .returned (.int .i64 m) ∧ w' = W) := Lib.hid fun W k => by
    have := lenA_any (HBo.out.keptN k).te HBo.out.tl
    rw [hal, hm] at this
    exact this
  have HAL := Lib.hid hal
  have HM := Lib.hid hm
  have HN := Lib.hid hn
  have e1 : ((m : Int) != (m : Int)) = false := by simp
  clear hblk hal hm hn
  go_enter Tryz.func15, Tryz.ntmps15
  go_wp2_with fail
  refine (CAll.out _ (Kept.refl _ _)).mono ?_
  rintro e w1 ⟨aA, cA, rfl, hA, k1⟩
  have HA := Lib.hid hA
  have K1 := Lib.hid k1
  clear hA k1
  go_wp2_with fail
  refine (CLen.out _ K1.out).mono ?_
  rintro e w2 ⟨rfl, rfl⟩
  go_wp2_with fail
  refine (CTAll.out _ K1.out).mono ?_
  rintro e w3 ⟨aT, cT, rfl, hT, k3⟩
  have HA3 := Lib.hid (HA.out.kept k3)
  have HT := Lib.hid hT
  have K3 := Lib.hid (K1.out.trans k3 (fun _ _ e => e))
  clear hT k3
  go_wp2_with fail
  have CI := Lib.hid (ints_any (c := cT) (c' := cA) HT.out HA3.out (by omega) (by omega))
  rw [show decide (al = al) = true from decide_eq_true rfl] at CI
  refine CI.out.mono ?_
  rintro e w4 ⟨rfl, k4⟩
  have HA4 := Lib.hid (HA3.out.kept k4)
  have K4 := Lib.hid (K3.out.trans k4 (fun _ _ e => e))
  clear k4 CI HT HA3 HA K1 K3 CAll CTAll CLen
  go_wp2_with fail
  go_loopw [6] (fun i wr => ∃ (k : Nat), k ≤ n + 3 ∧ i = .int .i64 k ∧ Kept Nil w4 wr) (fun i _ => n + 3 - (intOf i).toNat)
  case atStart => exact ⟨0, by omega, rfl, Kept.refl _ _⟩
  case round =>
    obtain ⟨k, hk, rfl, hK4⟩ := hrel
    have HK := Lib.hid hK4
    have HAr := Lib.hid (HA4.out.kept hK4)
    have hK := K4.out.trans hK4 (fun _ _ e => e)
    clear hK4
    obtain ⟨q1, hq⟩ := HBlk.out _ hK
    by_cases hlt : k ≤ n + 2
    · have hle : (k : Int) ≤ (n : Int) + 2 := by omega
      rw [HN.out] at q1
      have hkb : k ≤ 4611686018427387904 := by omega
      have BoR := Lib.hid (fun W (kW : Kept Nil wr W) => HBo.out.keptN (hK.trans kW (fun _ _ e => e)))
      have HKB := Lib.hid hkb
      have hk5 : k ≤ 5000 := by omega
      have CCh := Lib.hid (fun W (kW : Kept Nil wr W) => rchain_any (BoR.out W kW).rt (by have := HBo.out.es3; omega) (n := k) hk5)
      cases hent : ent es k with
      | none =>
        obtain ⟨z1, z2, z3, z4, z5, z6, z7⟩ := none_all (U := U) hent
        rw [hent, z1] at CCh
        have CSt := Lib.hid (fun W (kW : Kept Nil wr W) => tstep_none (BoR.out W kW).te HKB.out z1)
        have CPar : Hid (∀ W, Kept Nil wr W → Calls Tryz.prog 44 #[.pointer (some ⟨p, 0, none⟩), .int .i64 k] W fun e w' => e = .returned (.int .i64 0) ∧ w' = W) := Lib.hid fun W kW => by
          have := parent_any (BoR.out W kW).te HKB.out
          rw [z2] at this
          exact this
        have CDep : Hid (∀ W, Kept Nil wr W → Calls Tryz.prog 45 #[.pointer (some ⟨p, 0, none⟩), .int .i64 k] W fun e w' => e = .returned (.int .i64 0) ∧ w' = W) := Lib.hid fun W kW => by
          have := depth_any (BoR.out W kW).te HBo.out.es3 (n := k) (by omega)
          rw [z3] at this
          exact this
        have CInn : Hid (∀ W, Kept Nil wr W → Calls Tryz.prog 46 #[.pointer (some ⟨p, 0, none⟩), .int .i64 k] W fun e w' => e = .returned (.int .i64 0) ∧ w' = W) := Lib.hid fun W kW => by
          have := inner_any (BoR.out W kW).te HKB.out
          rw [z4] at this
          exact this
        have CUse : Hid (∀ W, Kept Nil wr W → Calls Tryz.prog 32 #[.pointer (some ⟨p, 0, none⟩), .int .i64 k] W fun e w' => e = .returned (.int .i64 0) ∧ w' = W) := Lib.hid fun W kW => by
          have := uses_any (BoR.out W kW).te HKB.out
          rw [z5] at this
          exact this
        have CKid : Hid (∀ W, Kept Nil wr W → Calls Tryz.prog 47 #[.pointer (some ⟨p, 0, none⟩), .int .i64 k] W fun e w' => ∃ a cap, e = .returned (.slice a 0 cap) ∧ Kept Nil W w') := Lib.hid fun W kW => by
          have := kids_any (BoR.out W kW).te (by have := HBo.out.es3; omega) HKB.out (k := 0) (by rw [z6]; rfl)
          exact this.mono fun e w' ⟨a, cap, h1, _, h3⟩ => ⟨a, cap, h1, h3⟩
        have COut : Hid (∀ W, Kept Nil wr W → Calls Tryz.prog 48 #[.pointer (some ⟨p, 0, none⟩), .int .i64 k] W fun e w' => ∃ a cap, e = .returned (.slice a 0 cap) ∧ Kept Nil W w') := Lib.hid fun W kW => by
          have := outer_any (BoR.out W kW).te (by have := HBo.out.es3; omega) HKB.out (k := 0) (by rw [z7]; rfl)
          exact this.mono fun e w' ⟨a, cap, h1, _, h3⟩ => ⟨a, cap, h1, h3⟩
        clear hK hkb hent z1 z2 z3 z4 z5 z6 z7
        as_aux_lemma =>
        go_wp2_with fail
        refine (CCh.out _ (Kept.refl _ _)).mono ?_
        rintro e w5 ⟨a5, c5, rfl, _, rfl⟩
        simp only [List.length_nil, Option.isSome_none]
        go_wp2_with fail
        refine (CSt.out _ (Kept.refl _ _)).mono ?_
        rintro e w6 ⟨rfl, k6⟩
        have K6 := Lib.hid (k6.alloc (.cells zS 65))
        clear k6
        go_upto_region 9 with fail
        generalize w6.alloc (.cells zS 65) = W6 at *
        go_wp2_with fail
        refine (CPar.out _ K6.out).mono ?_
        rintro e w7 ⟨rfl, rfl⟩
        go_wp2_with fail
        refine (CDep.out _ K6.out).mono ?_
        rintro e w7 ⟨rfl, rfl⟩
        go_wp2_with fail
        refine (CInn.out _ K6.out).mono ?_
        rintro e w7 ⟨rfl, rfl⟩
        go_wp2_with fail
        refine (CUse.out _ K6.out).mono ?_
        rintro e w7 ⟨rfl, rfl⟩
        go_wp2_with fail
        refine (CKid.out _ K6.out).mono ?_
        rintro e w8 ⟨a8, c8, rfl, k8⟩
        have K8 := Lib.hid (K6.out.trans k8 (fun _ _ e => e))
        clear k8
        go_wp2_with fail
        refine (COut.out _ K8.out).mono ?_
        rintro e w9 ⟨a9, c9, rfl, k9⟩
        have K9 := Lib.hid (HK.out.trans (K8.out.trans k9 (fun _ _ e => e)) (fun _ _ e => e))
        clear k9
        go_wp2_with fail
        go_roundw
        case rel => exact ⟨k + 1, by omega, by go_num, K9.out⟩
        case measure => simp [intOf]; omega
      | some x =>
        have hok := HBo.out.te.ok
        have hfk := (ent_fnd hok).1 hent
        have hrl := HBo.out.tl.rlE hent
        have hms : massL x ≤ 64 := hrl.mass
        have hxl16 : x.length ≤ 16 := hrl.len
        obtain ⟨xl, hxl⟩ : ∃ xl, x.length = xl := ⟨_, rfl⟩
        have hchn : chn es k = x := chn_some hent
        rw [hent, hchn, hxl] at CCh
        have HX := Lib.hid (And.intro hent (And.intro hfk.2 (And.intro hrl (And.intro hms hxl))))
        have hxb : xl ≤ 16 := by omega
        obtain ⟨uu, huu⟩ : ∃ uu, usesL ls x = uu := ⟨_, rfl⟩
        obtain ⟨inn, hinn⟩ : ∃ inn, innN es k = inn := ⟨_, rfl⟩
        obtain ⟨kl, hkl⟩ : ∃ kl, (kidN es k).length = kl := ⟨_, rfl⟩
        obtain ⟨ol, hol⟩ : ∃ ol, (outN es k).length = ol := ⟨_, rfl⟩
        have CSteps : Hid (∀ W ok a cap, SHolds W ok (.slice a xl cap) x → Calls Tryz.prog 11 #[.slice a xl cap] W fun e w' => ∃ a' cap', e = .returned (.slice a' xl cap') ∧ SHolds w' (okM W.heap.size w') (.slice a' xl cap') x ∧ Kept Nil W w') := Lib.hid fun W ok a cap h => by
          have := steps_any x (by omega) ok a cap W (by rw [hxl]; exact h)
          unfold StsEnd at this
          rw [hxl] at this
          exact this
        have CFind : Hid (∀ W B a cap, Kept Nil wr W → SHolds W (okM B W) (.slice a xl cap) x → Calls Tryz.prog 25 #[.pointer (some ⟨p, 0, none⟩), .slice a xl cap] W fun e w' => e = .returned (.int .i64 k) ∧ Kept Nil W w') := Lib.hid fun W B a cap kW h => by
          have := find_any (BoR.out W kW).te HBo.out.es3 x hrl (okM B W) (fun _ _ h => h.2.1) a cap (by rw [hxl]; exact h)
          rw [hxl, hfk.2] at this
          exact this
        have CDep : Hid (∀ W, Kept Nil wr W → Calls Tryz.prog 45 #[.pointer (some ⟨p, 0, none⟩), .int .i64 k] W fun e w' => e = .returned (.int .i64 xl) ∧ w' = W) := Lib.hid fun W kW => by
          have := depth_any (BoR.out W kW).te HBo.out.es3 (n := k) (by omega)
          rw [depN_some hent, hxl] at this
          exact this
        have CUse : Hid (∀ W, Kept Nil wr W → Calls Tryz.prog 32 #[.pointer (some ⟨p, 0, none⟩), .int .i64 k] W fun e w' => e = .returned (.int .i64 uu) ∧ w' = W) := Lib.hid fun W kW => by
          have := uses_any (BoR.out W kW).te HKB.out
          rw [usE_some HBo.out.tl hent, huu] at this
          exact this
        have CRUse : Hid (∀ W ok a cap, Kept Nil wr W → SHolds W ok (.slice a xl cap) x → Calls Tryz.prog 24 #[.pointer (some ⟨q, 0, none⟩), .slice a xl cap] W fun e w' => e = .returned (.int .i64 uu) ∧ Kept Nil W w') := Lib.hid fun W ok a cap kW h => by
          have := ruses_any (BoR.out W kW).rt HBo.out.tl.tl.rl HBo.out.ls3 x (by omega) ok a cap (by rw [hxl]; exact h)
          rw [hxl, huu] at this
          exact this
        have CInn : Hid (∀ W, Kept Nil wr W → Calls Tryz.prog 46 #[.pointer (some ⟨p, 0, none⟩), .int .i64 k] W fun e w' => e = .returned (.int .i64 inn) ∧ w' = W) := Lib.hid fun W kW => by
          have := inner_any (BoR.out W kW).te HKB.out
          rw [hinn] at this
          exact this
        have CRInn : Hid (∀ W k2, Kept Nil wr W → k2 ≤ 5000 → Calls Tryz.prog 51 #[.pointer (some ⟨q, 0, none⟩), .int .i64 (k2 : Nat)] W fun e w' => e = .returned (.int .i64 (innN es k2 : Nat)) ∧ Kept Nil W w') := Lib.hid fun W k2 kW h2 => rinner_any (BoR.out W kW).rt HBo.out.tl.sm (by have := HBo.out.es3; omega) h2
        have CRInnK : Hid (∀ W, Kept Nil wr W → Calls Tryz.prog 51 #[.pointer (some ⟨q, 0, none⟩), .int .i64 k] W fun e w' => e = .returned (.int .i64 inn) ∧ Kept Nil W w') := Lib.hid fun W kW => by
          have := CRInn.out W k kW hk5
          rw [hinn] at this
          exact this
        have CCh2 : Hid (∀ W k2, Kept Nil wr W → k2 ≤ 5000 → Calls Tryz.prog 42 #[.pointer (some ⟨q, 0, none⟩), .int .i64 (k2 : Nat)] W fun e w' => ∃ a cap, e = .returned (.tuple #[.slice a (chn es k2).length cap, .bool (ent es k2).isSome]) ∧ SHolds W (fun b _ => cr b = 9) (.slice a (chn es k2).length cap) (chn es k2) ∧ w' = W) := Lib.hid fun W k2 kW h2 => rchain_any (BoR.out W kW).rt (by have := HBo.out.es3; omega) h2
        have CRFind : Hid (∀ W ok k2 a cap, Kept Nil wr W → xl ≤ (chn es k2).length → SHolds W ok (.slice a xl cap) ((chn es k2).take xl) → Calls Tryz.prog 35 #[.pointer (some ⟨q, 0, none⟩), .slice a xl cap] W fun e w' => e = .returned (.int .i64 (fnd es ((chn es k2).take xl) : Nat)) ∧ Kept Nil W w') := Lib.hid fun W ok k2 a cap kW hl h => by
          have hm2 : massL ((chn es k2).take xl) ≤ 5000 := Nat.le_trans (massL_take_small (chn_ok HBo.out.tl k2).2.1) (by omega)
          have hl2 : ((chn es k2).take xl).length = xl := by rw [List.length_take]; omega
          have := rfind_any (BoR.out W kW).rt HBo.out.tl.sm (by have := HBo.out.es3; omega) _ hm2 ok a cap (by rw [hl2]; exact h)
          rw [hl2] at this
          exact this
        have CKid : Hid (∀ W, Kept Nil wr W → Calls Tryz.prog 47 #[.pointer (some ⟨p, 0, none⟩), .int .i64 k] W fun e w' => ∃ a cap, e = .returned (.slice a kl cap) ∧ In cNt 1 w' a kl (kidN es k) ∧ Kept Nil W w') := Lib.hid fun W kW => kids_any (BoR.out W kW).te (by have := HBo.out.es3; omega) HKB.out hkl
        have COut : Hid (∀ W, Kept Nil wr W → Calls Tryz.prog 48 #[.pointer (some ⟨p, 0, none⟩), .int .i64 k] W fun e w' => ∃ a cap, e = .returned (.slice a ol cap) ∧ In cNt 1 w' a ol (outN es k) ∧ Kept Nil W w') := Lib.hid fun W kW => outer_any (BoR.out W kW).te (by have := HBo.out.es3; omega) HKB.out hol
        have HKL := Lib.hid (And.intro hkl hol)
        have hkf : kidN es k = al.filter (fun k2 => decide ((chn es k2).length = xl + 1) && decide (fnd es ((chn es k2).take xl) = k)) := by
          have := kid_filter hok hent
          rw [HAL.out, hxl] at this
          exact this
        have hof : outN es k = al.filter (fun k2 => decide (innN es k2 = k)) := by
          have := out_filter hent
          rw [HAL.out] at this
          exact this
        have HKF := Lib.hid hkf
        have HOF := Lib.hid hof
        have HALB : Hid (∀ k2 ∈ al, k2 ≤ 5000) := Lib.hid fun k2 h2 => by
          have := alv_mem.1 (by rw [HAL.out]; exact h2)
          cases e2 : ent es k2 with
          | none => exact absurd e2 this
          | some y => have := ent_le e2; have := HBo.out.es3; omega
        have ek : ((k : Int) != (k : Int)) = false := by simp
        have exl : ((xl : Int) != (xl : Int)) = false := by simp
        have euu : ((uu : Int) != (uu : Int)) = false := by simp
        have ein : ((inn : Int) != (inn : Int)) = false := by simp
        clear hK hkb hent hok hfk hrl hms hxl16 hchn huu hinn hkl hol hkf hof
        go_wp2_with fail
        refine (CCh.out _ (Kept.refl _ _)).mono ?_
        rintro e w5 ⟨a5, c5, rfl, hS5, rfl⟩
        simp only [Option.isSome_some]
        have HS5 := Lib.hid hS5
        clear hS5
        rcases List.eq_nil_or_concat x with hx0 | ⟨d, s, hxs⟩
        · have hxz : xl = 0 := by rw [← hxl, hx0]; rfl
          have HXZ := Lib.hid hxz
          have hk1 : k = 1 := by have := HX.out.2.1; rw [hx0, fnd_nil] at this; exact this.symm
          obtain ⟨z1, z2, z3, z4⟩ := top_all (es := es)
          have CSt := Lib.hid (fun W (kW : Kept Nil w5 W) => tstep_none (BoR.out W kW).te HKB.out (by rw [hk1]; exact z1))
          have CPar : Hid (∀ W, Kept Nil w5 W → Calls Tryz.prog 44 #[.pointer (some ⟨p, 0, none⟩), .int .i64 k] W fun e w' => e = .returned (.int .i64 0) ∧ w' = W) := Lib.hid fun W kW => by
            have := parent_any (BoR.out W kW).te HKB.out
            rw [hk1, z2] at this
            rw [hk1]; exact this
          have CDep0 : Hid (∀ W, Kept Nil w5 W → Calls Tryz.prog 45 #[.pointer (some ⟨p, 0, none⟩), .int .i64 k] W fun e w' => e = .returned (.int .i64 0) ∧ w' = W) := Lib.hid fun W kW => by
            have := CDep.out W kW
            rw [hxz] at this
            exact this
          have CInn0 : Hid (∀ W, Kept Nil w5 W → Calls Tryz.prog 46 #[.pointer (some ⟨p, 0, none⟩), .int .i64 k] W fun e w' => e = .returned (.int .i64 0) ∧ w' = W) := Lib.hid fun W kW => by
            have := inner_any (BoR.out W kW).te HKB.out
            rw [hk1, z4] at this
            rw [hk1]; exact this
          have d0 : ((xl : Int) == 0) = true := by simp; omega
          have d1 : decide ((0 : Int) < (xl : Int)) = false := decide_eq_false (by omega)
          have d2 : decide (0 < xl) = false := decide_eq_false (by omega)
          clear hxz hk1 z1 z2 z3 z4 hx0 hxl
          as_aux_lemma =>
          go_wp2_with fail
          refine (CSt.out _ (Kept.refl _ _)).mono ?_
          rintro e w6 ⟨rfl, k6⟩
          have K6 := Lib.hid (k6.alloc (.cells zS 65))
          clear k6
          go_upto_region 9 with fail
          generalize w6.alloc (.cells zS 65) = W6 at *
          go_wp2_with fail
          refine (CPar.out _ K6.out).mono ?_
          rintro e w7 ⟨rfl, rfl⟩
          go_wp2_with fail
          refine (CDep0.out _ K6.out).mono ?_
          rintro e w7 ⟨rfl, rfl⟩
          go_wp2_with fail
          refine (CInn0.out _ K6.out).mono ?_
          rintro e w7 ⟨rfl, rfl⟩
          go_wp2_with fail
          have inst : Nonempty (CW (Kept Nil w5)) := ⟨⟨_, K6.out⟩⟩
          refine wp_region_in (Kept Nil w5) (by kernel_rfl) (by kernel_rfl) K6.out.drew ?_
          repeat (go_big_quiet_step (fail))
          refine wpQuiet_nil ?_
          rintro _ ⟨m1, rfl⟩
          have K7 := Lib.hid m1.of
          generalize m1.w = W7 at *
          clear d0 d1 d2 inst CPar CDep0 CInn0 CSt K6
          as_aux_lemma =>
          go_wp2_with fail
          refine (CSteps.out _ _ _ _ (HS5.out.kept K7.out (fun _ _ _ e => e))).mono ?_
          rintro e w8 ⟨a8, c8, rfl, h8, k8⟩
          have H8 := Lib.hid h8
          have K8 := Lib.hid (K7.out.trans k8 (fun _ _ e => e))
          clear h8 k8 K7
          go_wp2_with fail
          refine (CFind.out _ _ _ _ K8.out H8.out).mono ?_
          rintro e w9 ⟨rfl, k9⟩
          have K9 := Lib.hid (K8.out.trans k9 (fun _ _ e => e))
          clear k9 K8 H8 CFind CSteps
          go_wp2_with fail
          refine (CDep.out _ K9.out).mono ?_
          rintro e w10 ⟨rfl, rfl⟩
          go_wp2_with fail
          refine (CUse.out _ K9.out).mono ?_
          rintro e w10 ⟨rfl, rfl⟩
          go_wp2_with fail
          refine (CRUse.out _ _ _ _ K9.out (HS5.out.kept K9.out (fun _ _ _ e => e))).mono ?_
          rintro e w10 ⟨rfl, k10⟩
          have K10 := Lib.hid (K9.out.trans k10 (fun _ _ e => e))
          clear k10 K9
          go_wp2_with fail
          refine (CInn.out _ K10.out).mono ?_
          rintro e w11 ⟨rfl, rfl⟩
          go_wp2_with fail
          refine (CRInnK.out _ K10.out).mono ?_
          rintro e w11 ⟨rfl, k11⟩
          have K11 := Lib.hid (K10.out.trans k11 (fun _ _ e => e))
          clear k11 K10 CDep CUse CRUse CInn CRInnK ek exl euu ein
          go_wp2_with fail
          go_loopw [11, 12, 171] (fun v o i wr => ∃ (j : Nat) (aK : Option Addr) (nK cK : Nat) (aO : Option Addr) (nO cO : Nat), j ≤ m ∧ i = .int .i64 j ∧ v = .slice aK nK cK ∧ o = .slice aO nO cO ∧ TwoR w11 wr (.slice aK nK cK) (.slice aO nO cO) ((al.take j).filter (fun k2 => decide ((chn es k2).length = xl + 1) && decide (fnd es ((chn es k2).take xl) = k))) ((al.take j).filter (fun k2 => decide (innN es k2 = k)))) (fun _ _ i _ => m - (intOf i).toNat)
          case atStart => exact ⟨0, none, 0, 0, none, 0, 0, Nat.zero_le _, rfl, rfl, rfl, ⟨Row.nil _ _, Row.nil _ _, fun b e => (by cases e), Kept.refl _ _⟩⟩
          case round =>
            as_aux_lemma =>
            obtain ⟨j, aK, nK, cK, aO, nO, cO, hj, rfl, rfl, rfl, h2⟩ := hrel
            have P12 := Lib.hid h2
            clear h2
            by_cases hltj : j < m
            · obtain ⟨k2, hk2⟩ : ∃ k2, al[j]? = some k2 := ⟨_, List.getElem?_eq_getElem (by have := HM.out; omega)⟩
              have HK2 := Lib.hid hk2
              have hk25 := HALB.out k2 (List.mem_of_getElem? hk2)
              have KW := Lib.hid (K11.out.trans P12.out.k (fun _ _ e => e))
              obtain ⟨bA, oA, haA, hbA, hcA⟩ := (HAr.out.kept KW.out).at_ hk2
              have hx := hcA 0 _ rfl
              simp only [Nat.mul_one, Nat.add_zero] at hx
              have CC2 := Lib.hid (CCh2.out wr k2 KW.out hk25)
              obtain ⟨l2, hl2⟩ : ∃ l2, (chn es k2).length = l2 := ⟨_, rfl⟩
              have HL2 := Lib.hid hl2
              rw [hl2] at CC2
              clear hcA hk2 hl2
              subst haA
              go_wp2_with fail
              refine CC2.out.mono ?_
              rintro e w12 ⟨a7, c7, rfl, hS7, rfl⟩
              have HS7 := Lib.hid hS7
              clear hS7 CC2 hx hbA
              by_cases hlen : l2 = xl + 1
              · have el : ((l2 : Int) == (xl : Int) + 1) = true := by simp; omega
                have hcap : xl ≤ c7 := by have := HS7.out.fits; omega
                have HF2 := Lib.hid (CRFind.out _ _ k2 a7 c7 KW.out (by rw [HL2.out]; omega) (HS7.out.first (k := xl) (by omega)))
                obtain ⟨f2, hf2⟩ : ∃ f2, fnd es ((chn es k2).take xl) = f2 := ⟨_, rfl⟩
                rw [hf2] at HF2
                have HFF := Lib.hid hf2
                have HLE := Lib.hid hlen
                clear hf2 hlen
                go_wp2_with fail
                refine HF2.out.mono ?_
                rintro e w13 ⟨rfl, k13⟩
                have P13 := Lib.hid (P12.out.kept k13)
                clear k13 HF2
                by_cases hfk : f2 = k
                · have ef : ((f2 : Int) == (k : Int)) = true := by simp; omega
                  obtain ⟨aK', cK', W', hrun, hP'⟩ := P13.out.pushK (Nat.le_trans (filter_small (by rw [HM.out]; exact Nat.le_refl m) j _) (by omega)) k2
                  have P14 := Lib.hid hP'
                  have HKJ : Hid ((al.take (j + 1)).filter (fun k2 => decide ((chn es k2).length = xl + 1) && decide (fnd es ((chn es k2).take xl) = k)) = (al.take j).filter (fun k2 => decide ((chn es k2).length = xl + 1) && decide (fnd es ((chn es k2).take xl) = k)) ++ [k2]) := Lib.hid (by rw [filter_step HK2.out, if_pos (by rw [HL2.out, HFF.out, HLE.out, hfk]; simp)])
                  clear hP'
                  go_wp2_with (refine wpList_append_run rfl (.tmp 197) (.tmp 199) 28 rfl (.slice aK nK cK) (.slice (some ⟨w13.heap.size, 0, none⟩) 1 1) rfl rfl (v' := .slice aK' (nK + 1) cK') (w' := W') (by with_reducible exact hrun) ?_)
                  have CG := Lib.hid (CRInn.out W' k2 (K11.out.trans P14.out.k (fun _ _ e => e)) hk25)
                  obtain ⟨g2, hg2⟩ : ∃ g2, innN es k2 = g2 := ⟨_, rfl⟩
                  rw [hg2] at CG
                  have HG2 := Lib.hid hg2
                  clear hg2
                  refine CG.out.mono ?_
                  rintro e w15 ⟨rfl, k15⟩
                  have P15 := Lib.hid (P14.out.kept k15)
                  clear k15 CG
                  by_cases hgk : g2 = k
                  · have eg : ((g2 : Int) == (k : Int)) = true := by simp; omega
                    obtain ⟨aO', cO', W', hrun, hP'⟩ := P15.out.pushO (Nat.le_trans (filter_small (by rw [HM.out]; exact Nat.le_refl m) j _) (by omega)) k2
                    have P16 := Lib.hid hP'
                    have HOJ : Hid ((al.take (j + 1)).filter (fun k2 => decide (innN es k2 = k)) = (al.take j).filter (fun k2 => decide (innN es k2 = k)) ++ [k2]) := Lib.hid (by rw [filter_step HK2.out, if_pos (by rw [HG2.out]; exact decide_eq_true hgk)])
                    clear hP'
                    go_wp2_with (refine wpList_append_run rfl (.tmp 206) (.tmp 208) 28 rfl (.slice aO nO cO) (.slice (some ⟨w15.heap.size, 0, none⟩) 1 1) rfl rfl (v' := .slice aO' (nO + 1) cO') (w' := W') (by with_reducible exact hrun) ?_)
                    go_roundw
                    case rel => exact ⟨j + 1, _, _, _, _, _, _, hltj, by go_num, rfl, rfl, by rw [HKJ.out, HOJ.out]; exact P16.out⟩
                    case measure => simp [intOf]; omega
                  · have eg : ((g2 : Int) == (k : Int)) = false := by simp; omega
                    have HOJ : Hid ((al.take (j + 1)).filter (fun k2 => decide (innN es k2 = k)) = (al.take j).filter (fun k2 => decide (innN es k2 = k))) := Lib.hid (by rw [filter_step HK2.out, if_neg (by rw [HG2.out]; simp; exact hgk)])
                    go_wp2_with fail
                    go_roundw
                    case rel => exact ⟨j + 1, _, _, _, _, _, _, hltj, by go_num, rfl, rfl, by rw [HKJ.out, HOJ.out]; exact P15.out⟩
                    case measure => simp [intOf]; omega
                · have ef : ((f2 : Int) == (k : Int)) = false := by simp; omega
                  have HKJ : Hid ((al.take (j + 1)).filter (fun k2 => decide ((chn es k2).length = xl + 1) && decide (fnd es ((chn es k2).take xl) = k)) = (al.take j).filter (fun k2 => decide ((chn es k2).length = xl + 1) && decide (fnd es ((chn es k2).take xl) = k))) := Lib.hid (by rw [filter_step HK2.out, if_neg (by rw [HFF.out]; simp [hfk])])
                  go_wp2_with fail
                  have CG := Lib.hid (CRInn.out w13 k2 (K11.out.trans P13.out.k (fun _ _ e => e)) hk25)
                  obtain ⟨g2, hg2⟩ : ∃ g2, innN es k2 = g2 := ⟨_, rfl⟩
                  rw [hg2] at CG
                  have HG2 := Lib.hid hg2
                  clear hg2
                  refine CG.out.mono ?_
                  rintro e w15 ⟨rfl, k15⟩
                  have P15 := Lib.hid (P13.out.kept k15)
                  clear k15 CG
                  by_cases hgk : g2 = k
                  · have eg : ((g2 : Int) == (k : Int)) = true := by simp; omega
                    obtain ⟨aO', cO', W', hrun, hP'⟩ := P15.out.pushO (Nat.le_trans (filter_small (by rw [HM.out]; exact Nat.le_refl m) j _) (by omega)) k2
                    have P16 := Lib.hid hP'
                    have HOJ : Hid ((al.take (j + 1)).filter (fun k2 => decide (innN es k2 = k)) = (al.take j).filter (fun k2 => decide (innN es k2 = k)) ++ [k2]) := Lib.hid (by rw [filter_step HK2.out, if_pos (by rw [HG2.out]; exact decide_eq_true hgk)])
                    clear hP'
                    go_wp2_with (refine wpList_append_run rfl (.tmp 206) (.tmp 208) 28 rfl (.slice aO nO cO) (.slice (some ⟨w15.heap.size, 0, none⟩) 1 1) rfl rfl (v' := .slice aO' (nO + 1) cO') (w' := W') (by with_reducible exact hrun) ?_)
                    go_roundw
                    case rel => exact ⟨j + 1, _, _, _, _, _, _, hltj, by go_num, rfl, rfl, by rw [HKJ.out, HOJ.out]; exact P16.out⟩
                    case measure => simp [intOf]; omega
                  · have eg : ((g2 : Int) == (k : Int)) = false := by simp; omega
                    have HOJ : Hid ((al.take (j + 1)).filter (fun k2 => decide (innN es k2 = k)) = (al.take j).filter (fun k2 => decide (innN es k2 = k))) := Lib.hid (by rw [filter_step HK2.out, if_neg (by rw [HG2.out]; simp; exact hgk)])
                    go_wp2_with fail
                    go_roundw
                    case rel => exact ⟨j + 1, _, _, _, _, _, _, hltj, by go_num, rfl, rfl, by rw [HKJ.out, HOJ.out]; exact P15.out⟩
                    case measure => simp [intOf]; omega
              · have el : ((l2 : Int) == (xl : Int) + 1) = false := by simp; omega
                have HKJ : Hid ((al.take (j + 1)).filter (fun k2 => decide ((chn es k2).length = xl + 1) && decide (fnd es ((chn es k2).take xl) = k)) = (al.take j).filter (fun k2 => decide ((chn es k2).length = xl + 1) && decide (fnd es ((chn es k2).take xl) = k))) := Lib.hid (by rw [filter_step HK2.out, if_neg (by rw [HL2.out]; simp [hlen])])
                go_wp2_with fail
                have CG := Lib.hid (CRInn.out w12 k2 (K11.out.trans P12.out.k (fun _ _ e => e)) hk25)
                obtain ⟨g2, hg2⟩ : ∃ g2, innN es k2 = g2 := ⟨_, rfl⟩
                rw [hg2] at CG
                have HG2 := Lib.hid hg2
                clear hg2
                refine CG.out.mono ?_
                rintro e w15 ⟨rfl, k15⟩
                have P15 := Lib.hid (P12.out.kept k15)
                clear k15 CG
                by_cases hgk : g2 = k
                · have eg : ((g2 : Int) == (k : Int)) = true := by simp; omega
                  obtain ⟨aO', cO', W', hrun, hP'⟩ := P15.out.pushO (Nat.le_trans (filter_small (by rw [HM.out]; exact Nat.le_refl m) j _) (by omega)) k2
                  have P16 := Lib.hid hP'
                  have HOJ : Hid ((al.take (j + 1)).filter (fun k2 => decide (innN es k2 = k)) = (al.take j).filter (fun k2 => decide (innN es k2 = k)) ++ [k2]) := Lib.hid (by rw [filter_step HK2.out, if_pos (by rw [HG2.out]; exact decide_eq_true hgk)])
                  clear hP'
                  go_wp2_with (refine wpList_append_run rfl (.tmp 206) (.tmp 208) 28 rfl (.slice aO nO cO) (.slice (some ⟨w15.heap.size, 0, none⟩) 1 1) rfl rfl (v' := .slice aO' (nO + 1) cO') (w' := W') (by with_reducible exact hrun) ?_)
                  go_roundw
                  case rel => exact ⟨j + 1, _, _, _, _, _, _, hltj, by go_num, rfl, rfl, by rw [HKJ.out, HOJ.out]; exact P16.out⟩
                  case measure => simp [intOf]; omega
                · have eg : ((g2 : Int) == (k : Int)) = false := by simp; omega
                  have HOJ : Hid ((al.take (j + 1)).filter (fun k2 => decide (innN es k2 = k)) = (al.take j).filter (fun k2 => decide (innN es k2 = k))) := Lib.hid (by rw [filter_step HK2.out, if_neg (by rw [HG2.out]; simp; exact hgk)])
                  go_wp2_with fail
                  go_roundw
                  case rel => exact ⟨j + 1, _, _, _, _, _, _, hltj, by go_num, rfl, rfl, by rw [HKJ.out, HOJ.out]; exact P15.out⟩
                  case measure => simp [intOf]; omega
            · obtain rfl : j = m := by omega
              rw [← HM.out, List.take_length, ← HKF.out, ← HOF.out] at P12
              have IK := Lib.hid (P12.out.rk.toIn cNt_len (by decide))
              have IO := Lib.hid (P12.out.ro.toIn cNt_len (by decide))
              have K12 := Lib.hid (K11.out.trans P12.out.k (fun _ _ e => e))
              have hnk : nK = kl := by rw [IK.out.1.symm]; exact HKL.out.1
              have hno : nO = ol := by rw [IO.out.1.symm]; exact HKL.out.2
              have hklb : kl ≤ 100000 := by rw [← HKL.out.1, HKF.out]; exact Nat.le_trans (List.length_filter_le _ _) (by rw [HM.out]; omega)
              have holb : ol ≤ 100000 := by rw [← HKL.out.2, HOF.out]; exact Nat.le_trans (List.length_filter_le _ _) (by rw [HM.out]; omega)
              subst hnk hno
              as_aux_lemma =>
              clear P12 CCh2 CRFind CRInn
              go_wp2_with fail
              refine (CKid.out _ K12.out).mono ?_
              rintro e w16 ⟨aQ, cQ, rfl, hQ, k16⟩
              have CI1 := Lib.hid (ints_any (c := cQ) (c' := cK) hQ (IK.out.kept k16) hklb hklb)
              have IO2 := Lib.hid (IO.out.kept k16)
              have K16 := Lib.hid (K12.out.trans k16 (fun _ _ e => e))
              rw [show decide (kidN es k = kidN es k) = true from decide_eq_true rfl] at CI1
              clear hQ k16
              go_wp2_with fail
              refine CI1.out.mono ?_
              rintro e w17 ⟨rfl, k17⟩
              have IO3 := Lib.hid (IO2.out.kept k17)
              have K17 := Lib.hid (K16.out.trans k17 (fun _ _ e => e))
              clear k17 CI1
              go_wp2_with fail
              refine (COut.out _ K17.out).mono ?_
              rintro e w18 ⟨aP, cP, rfl, hP, k18⟩
              have CI2 := Lib.hid (ints_any (c := cP) (c' := cO) hP (IO3.out.kept k18) holb holb)
              have K18 := Lib.hid (K17.out.trans k18 (fun _ _ e => e))
              rw [show decide (outN es k = outN es k) = true from decide_eq_true rfl] at CI2
              clear hP k18
              go_wp2_with fail
              refine CI2.out.mono ?_
              rintro e w19 ⟨rfl, k19⟩
              have K19 := Lib.hid (HK.out.trans (K18.out.trans k19 (fun _ _ e => e)) (fun _ _ e => e))
              clear k19 CI2
              go_wp2_with fail
              go_roundw
              case rel => exact ⟨k + 1, by omega, by go_num, K19.out⟩
              case measure => simp [intOf]; omega
        · rw [List.concat_eq_append] at hxs
          have hent := HX.out.1
          rw [hxs] at hent
          have hok := HBo.out.te.ok
          have hrl := HX.out.2.2.1
          have hgs : Gd s := hrl.gd s (by rw [hxs]; simp)
          have hcs : s.cnt ≤ 1000 := by have h1 := cnt_mem (l := x) (s := s) (by rw [hxs]; simp); have h2 := hrl.cnt; omega
          have hms : massL x ≤ 64 := hrl.mass
          obtain ⟨dl, hdl⟩ : ∃ dl, d.length = dl := ⟨_, rfl⟩
          have hxd : xl = dl + 1 := by rw [← hxl, hxs]; simp [hdl]
          have htk : x.take dl = d := by rw [hxs, ← hdl]; simp
          obtain ⟨pf, hpf⟩ : ∃ pf, fnd es d = pf := ⟨_, rfl⟩
          have hmd : massL d ≤ 64 := by rw [← htk]; exact massL_take_small hms
          have hss : s.mass ≤ 5000 := by
            have h1 : massL x = massL d + s.mass := by rw [hxs, massL_append]; simp [massL]
            omega
          obtain ⟨ps, hps, hlies, hkids⟩ := HS5.out.pairs
          have hpl : ps.length = xl := by have := congrArg List.length hps; rw [trS_len, hxl] at this; exact this
          obtain ⟨⟨s', t', u'⟩, hpd⟩ : ∃ y, ps[dl]? = some y := ⟨_, List.getElem?_eq_getElem (by omega)⟩
          have hs' : s' = s := by
            have h1 : (trS ps)[dl]? = some s' := by unfold trS; rw [List.getElem?_map, hpd]; rfl
            rw [hps, hxs, ← hdl] at h1
            simpa using h1.symm
          subst hs'
          obtain ⟨b5, o5, ha5, hr5⟩ := hlies.at_ hpd
          obtain ⟨hts5, hsb5⟩ := hkids _ (List.mem_of_getElem? hpd)
          simp only at hts5 hsb5 hr5
          subst ha5
          obtain ⟨⟨hk0, hk1, hk2, hk3, hts⟩, sb⟩ := s'
          obtain ⟨tl, htl⟩ : ∃ tl, hts.length = tl := ⟨_, rfl⟩
          obtain ⟨sl, hsl⟩ : ∃ sl, sb.length = sl := ⟨_, rfl⟩
          obtain ⟨ta5, tc5, et5, _⟩ := hts5.shape
          obtain ⟨ua5, uc5, eu5, _⟩ := hsb5.shape
          simp only [St.hd, St.subs] at et5 eu5 hts5 hsb5 hr5
          rw [htl] at et5
          rw [hsl] at eu5
          subst et5 eu5
          have g0 := hr5 0 _ rfl
          have g1 := hr5 1 _ rfl
          have g2 := hr5 2 _ rfl
          have g3 := hr5 3 _ rfl
          have g4 := hr5 4 _ rfl
          have g5 := hr5 5 _ rfl
          have hkz : kS.sz = 6 := rfl
          rw [hkz] at g0 g1 g2 g3 g4 g5
          rw [Nat.add_zero] at g0
          have CSt : Hid (∀ W, Kept Nil w5 W → Calls Tryz.prog 43 #[.pointer (some ⟨p, 0, none⟩), .int .i64 k] W fun e w' => ∃ ta tc a cap, e = .returned (.tuple #[.agg #[.int .i64 hk0, .int .i64 hk1, .int .i64 hk2, .int .i64 hk3, .slice ta tl tc, .slice a sl cap], .bool true]) ∧ TsAt w' (okM W.heap.size w') (.slice ta tl tc) hts ∧ SHolds w' (okM W.heap.size w') (.slice a sl cap) sb ∧ Kept Nil W w') := Lib.hid fun W kW => by
            have := tstep_some (BoR.out W kW).te (by have := HBo.out.es3; omega) HKB.out hent hgs hcs
            simp only [St.hd, St.subs] at this
            rw [htl, hsl] at this
            exact this
          have CPar : Hid (∀ W, Kept Nil w5 W → Calls Tryz.prog 44 #[.pointer (some ⟨p, 0, none⟩), .int .i64 k] W fun e w' => e = .returned (.int .i64 pf) ∧ w' = W) := Lib.hid fun W kW => by
            have := parent_any (BoR.out W kW).te HKB.out
            have e2 : parN es k = pf := by unfold parN; rw [hent]; exact (parE_snoc es d _).trans hpf
            rw [e2] at this
            exact this
          have CRF : Hid (∀ W, Kept Nil w5 W → Calls Tryz.prog 35 #[.pointer (some ⟨q, 0, none⟩), .slice (some ⟨b5, o5, none⟩) dl c5] W fun e w' => e = .returned (.int .i64 pf) ∧ Kept Nil W w') := Lib.hid fun W kW => by
            have h1 := (HS5.out.kept kW (fun _ _ _ e => e)).first (k := dl) (by omega)
            rw [htk] at h1
            have := rfind_any (BoR.out W kW).rt HBo.out.tl.sm (by have := HBo.out.es3; omega) d (by omega) _ _ c5 (by rw [hdl]; exact h1)
            rw [hdl, hpf] at this
            exact this
          have HT5 := Lib.hid (And.intro hts5 hsb5)
          have HG5 := Lib.hid (And.intro g0 (And.intro g1 (And.intro g2 (And.intro g3 (And.intro g4 g5)))))
          have HSS := Lib.hid hss
          have HTL := Lib.hid (And.intro htl hsl)
          have d0 : ((xl : Int) == 0) = false := by simp; omega
          have d1 : decide ((0 : Int) < (xl : Int)) = true := decide_eq_true (by omega)
          have d2 : decide (0 < xl) = true := decide_eq_true (by omega)
          have hdb : dl ≤ 16 := by omega
          have hsub : (xl : Int) - 1 = (dl : Int) := by omega
          have hdlt : (dl : Int) < (xl : Int) := by omega
          have hdlt2 : dl < xl := by omega
          have hdl0 : (0 : Int) ≤ (dl : Int) := by omega
          have hwr : IntKind.i64.wrap ((xl : Int) - 1) = (dl : Int) := by rw [hsub, IntKind.wrap_i64]; omega
          have hwr2 : IntKind.i64.wrap (dl : Int) = (dl : Int) := by rw [IntKind.wrap_i64]; omega
          have hcap5 : xl ≤ c5 := HS5.out.fits.2
          have hdc : (dl : Int) ≤ (c5 : Int) := by omega
          have hdc2 : dl ≤ c5 := by omega
          have epf : ((pf : Int) != (pf : Int)) = false := by simp
          clear hent hok hrl hgs hcs hms hdl hxd htk hpf hmd hss hps hlies hkids hpl hpd hr5 hts5 hsb5 htl hsl g0 g1 g2 g3 g4 g5 hkz hxs
          as_aux_lemma =>
          go_wp2_with fail
          refine (CSt.out _ (Kept.refl _ _)).mono ?_
          rintro e w6 ⟨ta, tc, a, cap, rfl, hT6, hS6, k6⟩
          have K6 := Lib.hid (k6.alloc (.cells #[.int .i64 hk0, .int .i64 hk1, .int .i64 hk2, .int .i64 hk3, .slice ta tl tc, .slice a sl cap] 65))
          have B6 := Lib.hid (Blk.new w6 65 #[.int .i64 hk0, .int .i64 hk1, .int .i64 hk2, .int .i64 hk3, .slice ta tl tc, .slice a sl cap])
          have hka := (Kept.refl Nil w6).alloc (.cells #[.int .i64 hk0, .int .i64 hk1, .int .i64 hk2, .int .i64 hk3, .slice ta tl tc, .slice a sl cap] 65)
          have HT6 := Lib.hid (And.intro (hT6.keptN hka) (hS6.keptN hka))
          clear k6 hT6 hS6 hka CSt
          go_upto_region 9 with fail
          generalize w6.alloc (.cells #[.int .i64 hk0, .int .i64 hk1, .int .i64 hk2, .int .i64 hk3, .slice ta tl tc, .slice a sl cap] 65) = W6 at *
          generalize w6.heap.size = bS at *
          have S0 : SW W6 bS b5 (o5 + dl * 6) hk0 hk1 hk2 hk3 (.slice ta tl tc) (.slice a sl cap) (.slice ta5 tl tc5) (.slice ua5 sl uc5) W6.drew := by
            have hG := HG5.out
            refine SW.kept (W := W6) ⟨by rw [B6.out.cell]; rfl, by rw [B6.out.cell]; rfl, by rw [B6.out.cell]; rfl, by rw [B6.out.cell]; rfl, by rw [B6.out.cell]; rfl, by rw [B6.out.cell]; rfl, K6.out.cellOf hG.1, K6.out.cellOf hG.2.1, K6.out.cellOf hG.2.2.1, K6.out.cellOf hG.2.2.2.1, K6.out.cellOf hG.2.2.2.2.1, K6.out.cellOf hG.2.2.2.2.2, Kept.refl _ _⟩ (Kept.refl _ _).drew
          have CRef : Hid (∀ W, SW W6 bS b5 (o5 + dl * 6) hk0 hk1 hk2 hk3 (.slice ta tl tc) (.slice a sl cap) (.slice ta5 tl tc5) (.slice ua5 sl uc5) W → Calls Tryz.prog 50 #[.agg #[.int .i64 hk0, .int .i64 hk1, .int .i64 hk2, .int .i64 hk3, .slice ta tl tc, .slice a sl cap]] W fun e w' => ∃ ta' tc' a' cap', e = .returned (.agg #[.int .i64 hk0, .int .i64 hk1, .int .i64 hk2, .int .i64 hk3, .slice ta' tl tc', .slice a' sl cap']) ∧ TsAt w' (okM W.heap.size w') (.slice ta' tl tc') hts ∧ SHolds w' (okM W.heap.size w') (.slice a' sl cap') sb ∧ Kept Nil W w') := Lib.hid fun W hW => by
            have := refSt_any (.mk ⟨hk0, hk1, hk2, hk3, hts⟩ sb) HSS.out _ ta tc a cap W (by simp only [St.hd]; rw [HTL.out.1]; exact HT6.out.1.keptN hW.k) (by simp only [St.subs]; rw [HTL.out.2]; exact HT6.out.2.keptN hW.k)
            unfold StEnd at this
            simp only [St.hd, St.subs] at this
            rw [HTL.out.1, HTL.out.2] at this
            exact this
          have CSame : Hid (∀ W ok ta' tc' a' cap', SW W6 bS b5 (o5 + dl * 6) hk0 hk1 hk2 hk3 (.slice ta tl tc) (.slice a sl cap) (.slice ta5 tl tc5) (.slice ua5 sl uc5) W → TsAt W ok (.slice ta' tl tc') hts → SHolds W ok (.slice a' sl cap') sb → Calls Tryz.prog 49 #[.agg #[.int .i64 hk0, .int .i64 hk1, .int .i64 hk2, .int .i64 hk3, .slice ta' tl tc', .slice a' sl cap'], .agg #[.int .i64 hk0, .int .i64 hk1, .int .i64 hk2, .int .i64 hk3, .slice ta5 tl tc5, .slice ua5 sl uc5]] W fun e w' => e = .returned (.bool true) ∧ Kept Nil W w') := Lib.hid fun W ok ta' tc' a' cap' hW h1 h2 => by
            have kk := K6.out.trans hW.k (fun _ _ e => e)
            have := refSameS_any (.mk ⟨hk0, hk1, hk2, hk3, hts⟩ sb) HSS.out (.mk ⟨hk0, hk1, hk2, hk3, hts⟩ sb) HSS.out ok _ ta' tc' a' cap' ta5 tc5 ua5 uc5 W (by simp only [St.hd]; rw [HTL.out.1]; exact h1) (by simp only [St.subs]; rw [HTL.out.2]; exact h2) (by simp only [St.hd]; rw [HTL.out.1]; exact HT5.out.1.keptN kk) (by simp only [St.subs]; rw [HTL.out.2]; exact HT5.out.2.keptN kk)
            simp only [St.hd, St.subs] at this
            rw [HTL.out.1, HTL.out.2, same_iff.1 _ _ |>.2 rfl] at this
            exact this
          have CPar2 : Hid (∀ W, SW W6 bS b5 (o5 + dl * 6) hk0 hk1 hk2 hk3 (.slice ta tl tc) (.slice a sl cap) (.slice ta5 tl tc5) (.slice ua5 sl uc5) W → Calls Tryz.prog 44 #[.pointer (some ⟨p, 0, none⟩), .int .i64 k] W fun e w' => e = .returned (.int .i64 pf) ∧ w' = W) := Lib.hid fun W hW => CPar.out W (K6.out.trans hW.k (fun _ _ e => e))
          have CRF2 : Hid (∀ W, SW W6 bS b5 (o5 + dl * 6) hk0 hk1 hk2 hk3 (.slice ta tl tc) (.slice a sl cap) (.slice ta5 tl tc5) (.slice ua5 sl uc5) W → Calls Tryz.prog 35 #[.pointer (some ⟨q, 0, none⟩), .slice (some ⟨b5, o5, none⟩) dl c5] W fun e w' => e = .returned (.int .i64 pf) ∧ Kept Nil W w') := Lib.hid fun W hW => CRF.out W (K6.out.trans hW.k (fun _ _ e => e))
          clear CPar CRF
          go_wp2_with fail
          go_cut [136] from 105 to 136 (fun v wx => v = .bool false ∧ SW W6 bS b5 (o5 + dl * 6) hk0 hk1 hk2 hk3 (.slice ta tl tc) (.slice a sl cap) (.slice ta5 tl tc5) (.slice ua5 sl uc5) wx)
          case first =>
            go_region_held3 (SW W6 bS b5 (o5 + dl * 6) hk0 hk1 hk2 hk3 (.slice ta tl tc) (.slice a sl cap) (.slice ta5 tl tc5) (.slice ua5 sl uc5))
              (first | (with_reducible assumption) | (with_reducible exact S0))
              (first
                | (go_at_call 50; (with_reducible refine (CRef.out _ (by with_reducible assumption)).mono ?_); rintro e w7 ⟨ta7, tc7, a7, c7, rfl, hT7, hS7, k7⟩; have s7 := SW.kept (by with_reducible assumption) k7)
                | (go_at_call 49; (with_reducible refine (CSame.out _ _ _ _ _ _ (by with_reducible assumption) hT7 hS7).mono ?_); rintro e w8 ⟨rfl, k8⟩; have s8 := SW.kept (by with_reducible assumption) k8; clear hT7 hS7)
                | (go_at_call 44; (with_reducible refine (CPar2.out _ (by with_reducible assumption)).mono ?_); rintro e w9 ⟨rfl, rfl⟩)
                | (go_at_call 35; (with_reducible refine (CRF2.out _ (by with_reducible assumption)).mono ?_); rintro e w9 ⟨rfl, k9⟩; have s9 := SW.kept (by with_reducible assumption) k9))
            all_goals
              go_wp2_with fail
              go_meet
              exact ⟨rfl, by with_reducible assumption⟩
          case rest =>
            obtain ⟨rfl, hS⟩ := hcut
            have K7 := Lib.hid (K6.out.trans hS.k (fun _ _ e => e))
            clear hS S0 CRef CSame CPar2 CRF2 B6 HT6 d0 d1 d2 hdb hsub hdlt hdlt2 hdl0 hwr hwr2 hdc hdc2 hcap5 epf HT5 HG5 HSS HTL hxl
            as_aux_lemma =>
            go_wp2_with fail
            refine (CSteps.out _ _ _ _ (HS5.out.kept K7.out (fun _ _ _ e => e))).mono ?_
            rintro e w8 ⟨a8, c8, rfl, h8, k8⟩
            have H8 := Lib.hid h8
            have K8 := Lib.hid (K7.out.trans k8 (fun _ _ e => e))
            clear h8 k8 K7
            go_wp2_with fail
            refine (CFind.out _ _ _ _ K8.out H8.out).mono ?_
            rintro e w9 ⟨rfl, k9⟩
            have K9 := Lib.hid (K8.out.trans k9 (fun _ _ e => e))
            clear k9 K8 H8 CFind CSteps
            go_wp2_with fail
            refine (CDep.out _ K9.out).mono ?_
            rintro e w10 ⟨rfl, rfl⟩
            go_wp2_with fail
            refine (CUse.out _ K9.out).mono ?_
            rintro e w10 ⟨rfl, rfl⟩
            go_wp2_with fail
            refine (CRUse.out _ _ _ _ K9.out (HS5.out.kept K9.out (fun _ _ _ e => e))).mono ?_
            rintro e w10 ⟨rfl, k10⟩
            have K10 := Lib.hid (K9.out.trans k10 (fun _ _ e => e))
            clear k10 K9
            go_wp2_with fail
            refine (CInn.out _ K10.out).mono ?_
            rintro e w11 ⟨rfl, rfl⟩
            go_wp2_with fail
            refine (CRInnK.out _ K10.out).mono ?_
            rintro e w11 ⟨rfl, k11⟩
            have K11 := Lib.hid (K10.out.trans k11 (fun _ _ e => e))
            clear k11 K10 CDep CUse CRUse CInn CRInnK ek exl euu ein
            go_wp2_with fail
            go_loopw [11, 12, 171] (fun v o i wr => ∃ (j : Nat) (aK : Option Addr) (nK cK : Nat) (aO : Option Addr) (nO cO : Nat), j ≤ m ∧ i = .int .i64 j ∧ v = .slice aK nK cK ∧ o = .slice aO nO cO ∧ TwoR w11 wr (.slice aK nK cK) (.slice aO nO cO) ((al.take j).filter (fun k2 => decide ((chn es k2).length = xl + 1) && decide (fnd es ((chn es k2).take xl) = k))) ((al.take j).filter (fun k2 => decide (innN es k2 = k)))) (fun _ _ i _ => m - (intOf i).toNat)
            case atStart => exact ⟨0, none, 0, 0, none, 0, 0, Nat.zero_le _, rfl, rfl, rfl, ⟨Row.nil _ _, Row.nil _ _, fun b e => (by cases e), Kept.refl _ _⟩⟩
            case round =>
              as_aux_lemma =>
              obtain ⟨j, aK, nK, cK, aO, nO, cO, hj, rfl, rfl, rfl, h2⟩ := hrel
              have P12 := Lib.hid h2
              clear h2
              by_cases hltj : j < m
              · obtain ⟨k2, hk2⟩ : ∃ k2, al[j]? = some k2 := ⟨_, List.getElem?_eq_getElem (by have := HM.out; omega)⟩
                have HK2 := Lib.hid hk2
                have hk25 := HALB.out k2 (List.mem_of_getElem? hk2)
                have KW := Lib.hid (K11.out.trans P12.out.k (fun _ _ e => e))
                obtain ⟨bA, oA, haA, hbA, hcA⟩ := (HAr.out.kept KW.out).at_ hk2
                have hx := hcA 0 _ rfl
                simp only [Nat.mul_one, Nat.add_zero] at hx
                have CC2 := Lib.hid (CCh2.out wr k2 KW.out hk25)
                obtain ⟨l2, hl2⟩ : ∃ l2, (chn es k2).length = l2 := ⟨_, rfl⟩
                have HL2 := Lib.hid hl2
                rw [hl2] at CC2
                clear hcA hk2 hl2
                subst haA
                go_wp2_with fail
                refine CC2.out.mono ?_
                rintro e w12 ⟨a7, c7, rfl, hS7, rfl⟩
                have HS7 := Lib.hid hS7
                clear hS7 CC2 hx hbA
                by_cases hlen : l2 = xl + 1
                · have el : ((l2 : Int) == (xl : Int) + 1) = true := by simp; omega
                  have hcap : xl ≤ c7 := by have := HS7.out.fits; omega
                  have HF2 := Lib.hid (CRFind.out _ _ k2 a7 c7 KW.out (by rw [HL2.out]; omega) (HS7.out.first (k := xl) (by omega)))
                  obtain ⟨f2, hf2⟩ : ∃ f2, fnd es ((chn es k2).take xl) = f2 := ⟨_, rfl⟩
                  rw [hf2] at HF2
                  have HFF := Lib.hid hf2
                  have HLE := Lib.hid hlen
                  clear hf2 hlen
                  go_wp2_with fail
                  refine HF2.out.mono ?_
                  rintro e w13 ⟨rfl, k13⟩
                  have P13 := Lib.hid (P12.out.kept k13)
                  clear k13 HF2
                  by_cases hfk : f2 = k
                  · have ef : ((f2 : Int) == (k : Int)) = true := by simp; omega
                    obtain ⟨aK', cK', W', hrun, hP'⟩ := P13.out.pushK (Nat.le_trans (filter_small (by rw [HM.out]; exact Nat.le_refl m) j _) (by omega)) k2
                    have P14 := Lib.hid hP'
                    have HKJ : Hid ((al.take (j + 1)).filter (fun k2 => decide ((chn es k2).length = xl + 1) && decide (fnd es ((chn es k2).take xl) = k)) = (al.take j).filter (fun k2 => decide ((chn es k2).length = xl + 1) && decide (fnd es ((chn es k2).take xl) = k)) ++ [k2]) := Lib.hid (by rw [filter_step HK2.out, if_pos (by rw [HL2.out, HFF.out, HLE.out, hfk]; simp)])
                    clear hP'
                    go_wp2_with (refine wpList_append_run rfl (.tmp 197) (.tmp 199) 28 rfl (.slice aK nK cK) (.slice (some ⟨w13.heap.size, 0, none⟩) 1 1) rfl rfl (v' := .slice aK' (nK + 1) cK') (w' := W') (by with_reducible exact hrun) ?_)
                    have CG := Lib.hid (CRInn.out W' k2 (K11.out.trans P14.out.k (fun _ _ e => e)) hk25)
                    obtain ⟨g2, hg2⟩ : ∃ g2, innN es k2 = g2 := ⟨_, rfl⟩
                    rw [hg2] at CG
                    have HG2 := Lib.hid hg2
                    clear hg2
                    refine CG.out.mono ?_
                    rintro e w15 ⟨rfl, k15⟩
                    have P15 := Lib.hid (P14.out.kept k15)
                    clear k15 CG
                    by_cases hgk : g2 = k
                    · have eg : ((g2 : Int) == (k : Int)) = true := by simp; omega
                      obtain ⟨aO', cO', W', hrun, hP'⟩ := P15.out.pushO (Nat.le_trans (filter_small (by rw [HM.out]; exact Nat.le_refl m) j _) (by omega)) k2
                      have P16 := Lib.hid hP'
                      have HOJ : Hid ((al.take (j + 1)).filter (fun k2 => decide (innN es k2 = k)) = (al.take j).filter (fun k2 => decide (innN es k2 = k)) ++ [k2]) := Lib.hid (by rw [filter_step HK2.out, if_pos (by rw [HG2.out]; exact decide_eq_true hgk)])
                      clear hP'
                      go_wp2_with (refine wpList_append_run rfl (.tmp 206) (.tmp 208) 28 rfl (.slice aO nO cO) (.slice (some ⟨w15.heap.size, 0, none⟩) 1 1) rfl rfl (v' := .slice aO' (nO + 1) cO') (w' := W') (by with_reducible exact hrun) ?_)
                      go_roundw
                      case rel => exact ⟨j + 1, _, _, _, _, _, _, hltj, by go_num, rfl, rfl, by rw [HKJ.out, HOJ.out]; exact P16.out⟩
                      case measure => simp [intOf]; omega
                    · have eg : ((g2 : Int) == (k : Int)) = false := by simp; omega
                      have HOJ : Hid ((al.take (j + 1)).filter (fun k2 => decide (innN es k2 = k)) = (al.take j).filter (fun k2 => decide (innN es k2 = k))) := Lib.hid (by rw [filter_step HK2.out, if_neg (by rw [HG2.out]; simp; exact hgk)])
                      go_wp2_with fail
                      go_roundw
                      case rel => exact ⟨j + 1, _, _, _, _, _, _, hltj, by go_num, rfl, rfl, by rw [HKJ.out, HOJ.out]; exact P15.out⟩
                      case measure => simp [intOf]; omega
                  · have ef : ((f2 : Int) == (k : Int)) = false := by simp; omega
                    have HKJ : Hid ((al.take (j + 1)).filter (fun k2 => decide ((chn es k2).length = xl + 1) && decide (fnd es ((chn es k2).take xl) = k)) = (al.take j).filter (fun k2 => decide ((chn es k2).length = xl + 1) && decide (fnd es ((chn es k2).take xl) = k))) := Lib.hid (by rw [filter_step HK2.out, if_neg (by rw [HFF.out]; simp [hfk])])
                    go_wp2_with fail
                    have CG := Lib.hid (CRInn.out w13 k2 (K11.out.trans P13.out.k (fun _ _ e => e)) hk25)
                    obtain ⟨g2, hg2⟩ : ∃ g2, innN es k2 = g2 := ⟨_, rfl⟩
                    rw [hg2] at CG
                    have HG2 := Lib.hid hg2
                    clear hg2
                    refine CG.out.mono ?_
                    rintro e w15 ⟨rfl, k15⟩
                    have P15 := Lib.hid (P13.out.kept k15)
                    clear k15 CG
                    by_cases hgk : g2 = k
                    · have eg : ((g2 : Int) == (k : Int)) = true := by simp; omega
                      obtain ⟨aO', cO', W', hrun, hP'⟩ := P15.out.pushO (Nat.le_trans (filter_small (by rw [HM.out]; exact Nat.le_refl m) j _) (by omega)) k2
                      have P16 := Lib.hid hP'
                      have HOJ : Hid ((al.take (j + 1)).filter (fun k2 => decide (innN es k2 = k)) = (al.take j).filter (fun k2 => decide (innN es k2 = k)) ++ [k2]) := Lib.hid (by rw [filter_step HK2.out, if_pos (by rw [HG2.out]; exact decide_eq_true hgk)])
                      clear hP'
                      go_wp2_with (refine wpList_append_run rfl (.tmp 206) (.tmp 208) 28 rfl (.slice aO nO cO) (.slice (some ⟨w15.heap.size, 0, none⟩) 1 1) rfl rfl (v' := .slice aO' (nO + 1) cO') (w' := W') (by with_reducible exact hrun) ?_)
                      go_roundw
                      case rel => exact ⟨j + 1, _, _, _, _, _, _, hltj, by go_num, rfl, rfl, by rw [HKJ.out, HOJ.out]; exact P16.out⟩
                      case measure => simp [intOf]; omega
                    · have eg : ((g2 : Int) == (k : Int)) = false := by simp; omega
                      have HOJ : Hid ((al.take (j + 1)).filter (fun k2 => decide (innN es k2 = k)) = (al.take j).filter (fun k2 => decide (innN es k2 = k))) := Lib.hid (by rw [filter_step HK2.out, if_neg (by rw [HG2.out]; simp; exact hgk)])
                      go_wp2_with fail
                      go_roundw
                      case rel => exact ⟨j + 1, _, _, _, _, _, _, hltj, by go_num, rfl, rfl, by rw [HKJ.out, HOJ.out]; exact P15.out⟩
                      case measure => simp [intOf]; omega
                · have el : ((l2 : Int) == (xl : Int) + 1) = false := by simp; omega
                  have HKJ : Hid ((al.take (j + 1)).filter (fun k2 => decide ((chn es k2).length = xl + 1) && decide (fnd es ((chn es k2).take xl) = k)) = (al.take j).filter (fun k2 => decide ((chn es k2).length = xl + 1) && decide (fnd es ((chn es k2).take xl) = k))) := Lib.hid (by rw [filter_step HK2.out, if_neg (by rw [HL2.out]; simp [hlen])])
                  go_wp2_with fail
                  have CG := Lib.hid (CRInn.out w12 k2 (K11.out.trans P12.out.k (fun _ _ e => e)) hk25)
                  obtain ⟨g2, hg2⟩ : ∃ g2, innN es k2 = g2 := ⟨_, rfl⟩
                  rw [hg2] at CG
                  have HG2 := Lib.hid hg2
                  clear hg2
                  refine CG.out.mono ?_
                  rintro e w15 ⟨rfl, k15⟩
                  have P15 := Lib.hid (P12.out.kept k15)
                  clear k15 CG
                  by_cases hgk : g2 = k
                  · have eg : ((g2 : Int) == (k : Int)) = true := by simp; omega
                    obtain ⟨aO', cO', W', hrun, hP'⟩ := P15.out.pushO (Nat.le_trans (filter_small (by rw [HM.out]; exact Nat.le_refl m) j _) (by omega)) k2
                    have P16 := Lib.hid hP'
                    have HOJ : Hid ((al.take (j + 1)).filter (fun k2 => decide (innN es k2 = k)) = (al.take j).filter (fun k2 => decide (innN es k2 = k)) ++ [k2]) := Lib.hid (by rw [filter_step HK2.out, if_pos (by rw [HG2.out]; exact decide_eq_true hgk)])
                    clear hP'
                    go_wp2_with (refine wpList_append_run rfl (.tmp 206) (.tmp 208) 28 rfl (.slice aO nO cO) (.slice (some ⟨w15.heap.size, 0, none⟩) 1 1) rfl rfl (v' := .slice aO' (nO + 1) cO') (w' := W') (by with_reducible exact hrun) ?_)
                    go_roundw
                    case rel => exact ⟨j + 1, _, _, _, _, _, _, hltj, by go_num, rfl, rfl, by rw [HKJ.out, HOJ.out]; exact P16.out⟩
                    case measure => simp [intOf]; omega
                  · have eg : ((g2 : Int) == (k : Int)) = false := by simp; omega
                    have HOJ : Hid ((al.take (j + 1)).filter (fun k2 => decide (innN es k2 = k)) = (al.take j).filter (fun k2 => decide (innN es k2 = k))) := Lib.hid (by rw [filter_step HK2.out, if_neg (by rw [HG2.out]; simp; exact hgk)])
                    go_wp2_with fail
                    go_roundw
                    case rel => exact ⟨j + 1, _, _, _, _, _, _, hltj, by go_num, rfl, rfl, by rw [HKJ.out, HOJ.out]; exact P15.out⟩
                    case measure => simp [intOf]; omega
              · obtain rfl : j = m := by omega
                rw [← HM.out, List.take_length, ← HKF.out, ← HOF.out] at P12
                have IK := Lib.hid (P12.out.rk.toIn cNt_len (by decide))
                have IO := Lib.hid (P12.out.ro.toIn cNt_len (by decide))
                have K12 := Lib.hid (K11.out.trans P12.out.k (fun _ _ e => e))
                have hnk : nK = kl := by rw [IK.out.1.symm]; exact HKL.out.1
                have hno : nO = ol := by rw [IO.out.1.symm]; exact HKL.out.2
                have hklb : kl ≤ 100000 := by rw [← HKL.out.1, HKF.out]; exact Nat.le_trans (List.length_filter_le _ _) (by rw [HM.out]; omega)
                have holb : ol ≤ 100000 := by rw [← HKL.out.2, HOF.out]; exact Nat.le_trans (List.length_filter_le _ _) (by rw [HM.out]; omega)
                subst hnk hno
                as_aux_lemma =>
                clear P12 CCh2 CRFind CRInn
                go_wp2_with fail
                refine (CKid.out _ K12.out).mono ?_
                rintro e w16 ⟨aQ, cQ, rfl, hQ, k16⟩
                have CI1 := Lib.hid (ints_any (c := cQ) (c' := cK) hQ (IK.out.kept k16) hklb hklb)
                have IO2 := Lib.hid (IO.out.kept k16)
                have K16 := Lib.hid (K12.out.trans k16 (fun _ _ e => e))
                rw [show decide (kidN es k = kidN es k) = true from decide_eq_true rfl] at CI1
                clear hQ k16
                go_wp2_with fail
                refine CI1.out.mono ?_
                rintro e w17 ⟨rfl, k17⟩
                have IO3 := Lib.hid (IO2.out.kept k17)
                have K17 := Lib.hid (K16.out.trans k17 (fun _ _ e => e))
                clear k17 CI1
                go_wp2_with fail
                refine (COut.out _ K17.out).mono ?_
                rintro e w18 ⟨aP, cP, rfl, hP, k18⟩
                have CI2 := Lib.hid (ints_any (c := cP) (c' := cO) hP (IO3.out.kept k18) holb holb)
                have K18 := Lib.hid (K17.out.trans k18 (fun _ _ e => e))
                rw [show decide (outN es k = outN es k) = true from decide_eq_true rfl] at CI2
                clear hP k18
                go_wp2_with fail
                refine CI2.out.mono ?_
                rintro e w19 ⟨rfl, k19⟩
                have K19 := Lib.hid (HK.out.trans (K18.out.trans k19 (fun _ _ e => e)) (fun _ _ e => e))
                clear k19 CI2
                go_wp2_with fail
                go_roundw
                case rel => exact ⟨k + 1, by omega, by go_num, K19.out⟩
                case measure => simp [intOf]; omega
    · obtain rfl : k = n + 3 := by omega
      rw [HN.out] at q1
      have hgt : decide (((n + 3 : Nat) : Int) ≤ (n : Int) + 2) = false := decide_eq_false (by omega)
      clear hK
      go_wp2_with fail
      go_ret
      exact ⟨rfl, K4.out.trans HK.out (fun _ _ e => e)⟩
end
end
end Go.Proofs.YtljefbfjehblpaaGreat
