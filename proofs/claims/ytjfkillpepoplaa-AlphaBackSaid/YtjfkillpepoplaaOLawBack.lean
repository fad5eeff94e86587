/- Whatever the triples, the keys and the number, AlphaBack returns true, and writes nothing that was there. -/
import Derived.Test.YtjfkillpepoplaaOBack
import Derived.BigRegion
import Derived.Deep.DeepCutAuto
namespace Go.Proofs.Ytjfkillpepoplaa
open Go.RowKit Go.Maps Go.WideMaps
set_option maxRecDepth 100000

theorem SGrew.two {w w1 w2 : World} {F F' : Nat → Prop} {p : Nat} {l : List T3} {L : List Mem} (up : ∀ k, F' k → F k ∨ w.heap.size ≤ k) (kk : Kept F w w1) (g : SGrew w1 w2 F' p l L) : SGrew w w2 F p l L := by
  obtain ⟨F2, a2, b2, c2⟩ := g
  exact ⟨F2, a2, fun i hi => (b2 i hi).elim (fun e => up i e) (fun e => .inr (Nat.le_trans kk.size e)), kk.trans c2 (fun i hi e => (up i e).elim id (fun e => absurd hi (Nat.not_lt.2 e)))⟩

set_option maxHeartbeats 8000000 in
theorem alphaBack_any (a : Option Addr) (n c : Nat) (l : List T3) (k o : T3) (y : Int) (w : World) (h : In cT 3 w a n l) (hl : ∀ t ∈ l, K3.ok t) (hk : K3.ok k) (ho : K3.ok o) (hy : 0 ≤ y ∧ y < 256) (hm : n ≤ maxLen) :
    Calls Try.prog 5 #[.agg #[.slice a n c, .int .i64 k.1, .int .i64 k.2.1, .int .i64 k.2.2, .int .i64 o.1, .int .i64 o.2.1, .int .i64 o.2.2, .int .u8 y]] w fun e w' => e = .returned (.bool true) ∧ Kept Nil w w' := by
  unfold maxLen at hm
  have HIn := Lib.hid h
  have HL := Lib.hid hl
  have HK := Lib.hid hk
  have HO := Lib.hid ho
  have HY := Lib.hid hy
  clear h hl hk ho hy
  go_enter Try.func5, Try.ntmps5
  go_upto_region 1 with fail
  go_cut [3, 4, 5, 6] from 3 to 25 (fun t3 t4 t5 t6 wx => t3 = .slice a n c ∧ t6 = .int .u8 y ∧ ∃ b4 b5, t4 = .pointer (some ⟨b4, 0, none⟩) ∧ t5 = .pointer (some ⟨b5, 0, none⟩) ∧ B3 wx b4 k ∧ B3 wx b5 o ∧ Kept Nil w wx)
  case first =>
    go_region
    all_goals (go_wp2_with fail)
    all_goals go_meet
    all_goals exact ⟨rfl, rfl, _, _, rfl, rfl, ⟨by go_simp, by go_simp, by go_simp⟩, ⟨by go_simp, by go_simp, by go_simp⟩, ((((Kept.refl _ _).alloc _).alloc _).alloc _).drew⟩
  case rest =>
  obtain ⟨rfl, rfl, b4, b5, rfl, rfl, hb4, hb5, hkw⟩ := hcut
  have HB4 := Lib.hid hb4
  have HB5 := Lib.hid hb5
  have KW := Lib.hid hkw
  have HIx := Lib.hid (HIn.out.kept hkw)
  clear hb4 hb5 hkw HIn
  go_wp2_with fail
  refine (new_any wc).mono ?_
  rintro e w1 ⟨rfl, s1, k1⟩
  have H1 := Lib.hid (show SN wc w1 (fun i => i = wc.heap.size) wc.heap.size [] [] from ⟨s1, fun k e => by rw [e]; exact Nat.le_refl _, k1⟩)
  clear s1 k1
  generalize wc.heap.size = p at *
  by_cases hbig : 40 < n
  · have hd : decide (40 < (n : Int)) = true := decide_eq_true (by omega)
    go_wp2_with fail
    refine (awake_any _).mono ?_
    rintro e w2 ⟨rfl, k2⟩
    go_wp2_with fail
    go_ret
    exact ⟨rfl, KW.out.trans (H1.out.kept.trans k2 (fun _ _ g => g)) (fun _ _ g => g)⟩
  have hd : decide (40 < (n : Int)) = false := decide_eq_false (by omega)
  have hn : n ≤ 40 := by omega
  have ⟨p0, p1, p2⟩ := HB4.out.kept H1.out.kept (fun e => e)
  clear hbig
  go_wp2_with fail
  refine (kRefRight_any k _).mono ?_
  rintro e w2 ⟨rfl, k2⟩
  have H2 := Lib.hid (H1.out.keptN k2)
  clear k2 H1 p0 p1 p2
  by_cases hkk : okKT k = true
  rotate_left
  · have hkk' : okKT k = false := by simpa using hkk
    rw [hkk']
    go_wp2_with fail
    refine (awake_any _).mono ?_
    rintro e w3 ⟨rfl, k3⟩
    go_wp2_with fail
    go_ret
    exact ⟨rfl, KW.out.trans (H2.out.kept.trans k3 (fun _ _ g => g)) (fun _ _ g => g)⟩
  rw [hkk]
  have ⟨p0, p1, p2⟩ := HB5.out.kept H2.out.kept (fun e => e)
  go_wp2_with fail
  refine (kRefRight_any o _).mono ?_
  rintro e w3 ⟨rfl, k3⟩
  have H3 := Lib.hid (H2.out.keptN k3)
  clear k3 H2 p0 p1 p2
  by_cases hoo : okKT o = true
  rotate_left
  · have hoo' : okKT o = false := by simpa using hoo
    rw [hoo']
    go_wp2_with fail
    refine (awake_any _).mono ?_
    rintro e w4 ⟨rfl, k4⟩
    go_wp2_with fail
    go_ret
    exact ⟨rfl, KW.out.trans (H3.out.kept.trans k4 (fun _ _ g => g)) (fun _ _ g => g)⟩
  rw [hoo]
  have ⟨p0, p1, p2⟩ := HB4.out.kept H3.out.kept (fun e => e)
  have ⟨q0, q1, q2⟩ := HB5.out.kept H3.out.kept (fun e => e)
  by_cases hne : k = o
  · have heq := fun W : World => eqT_at Try.underlying31 k o W
    rw [decide_eq_true hne] at heq
    clear hne
    go_wp2_with fail
    refine (awake_any _).mono ?_
    rintro e w4 ⟨rfl, k4⟩
    go_wp2_with fail
    go_ret
    exact ⟨rfl, KW.out.trans (H3.out.kept.trans k4 (fun _ _ g => g)) (fun _ _ g => g)⟩
  have heq := fun W : World => eqT_at Try.underlying31 k o W
  rw [decide_eq_false hne] at heq
  have HNE := Lib.hid hne
  have HC := Lib.hid (wantS_any (a := none) (n := 0) (c := 0) (fs := []) (k := o) H3.out.sto (by decide) HO.out ⟨rfl, .inl rfl⟩ (by simp) (by decide) (.inl rfl))
  clear hne hkk hoo
  go_wp2_with fail
  refine HC.out.mono ?_
  rintro e w4 ⟨rfl, g4⟩
  obtain ⟨F4', n4, _, _⟩ := H3.out.grew g4
  have H4 := Lib.hid (show SN wc w4 F4' p [o] [⟨o, 1, []⟩] from n4)
  clear g4 n4 HC H3 p0 p1 p2 q0 q1 q2 heq
  go_wp2_with fail
  go_loopw [59] (fun i wr => ∃ (j : Nat) (hs : List Int), j ≤ n ∧ i = .int .i64 j ∧ hs.length ≤ 8 * j ∧ SN wc wr F4' p [o] [⟨o, 1, hs⟩]) (fun i _ => n - (intOf i).toNat)
  case atStart => exact ⟨0, [], Nat.zero_le _, rfl, Nat.zero_le _, H4.out⟩
  case round =>
    clear H4
    obtain ⟨j, hs, hj, rfl, hlen, hS⟩ := hrel
    have HS := Lib.hid hS
    clear hS
    by_cases hjn : j < n
    · obtain ⟨t, ht⟩ : ∃ t, l[j]? = some t := ⟨l[j]'(by rw [HIx.out.1]; exact hjn), by simp⟩
      obtain ⟨bf, of, e, hbf, f0, f1, f2⟩ := (HIx.out.kept HS.out.kept).three ht
      subst e
      have hok := HL.out t (List.mem_of_getElem? ht)
      have HOT := Lib.hid hok
      clear ht hok
      obtain ⟨x, y', z⟩ := t
      simp only at f0 f1 f2
      have HSb := Lib.hid (HS.out.keptN (Box.new wr (x, y', z)).kept)
      go_wp2_with fail
      refine (refRight_any (x, y', z) _).mono ?_
      rintro e w5 ⟨rfl, k5⟩
      have H5 := Lib.hid (HSb.out.keptN k5)
      have ⟨c0, c1, c2⟩ := (Box.new wr (x, y', z)).three.kept k5 (fun e => e)
      clear k5 HSb f0 f1 f2
      by_cases htt : okT (x, y', z) = true
      · rw [htt]
        have HA := Lib.hid (addS_any (i := (j : Int) + 1) (t := (x, y', z)) (q := 8 * j) H5.out.sto (WalkArith.wf_i64 (by omega)) HOT.out (by intro m hm; rw [List.mem_singleton.1 hm]; exact hlen) (by omega))
        clear htt
        go_wp2_with fail
        refine HA.out.mono ?_
        rintro e w6 ⟨a6, c6, rfl, r6, s6⟩
        have n6 := H5.out.same s6
        obtain ⟨hs', hs'e⟩ := shape_one ((shape_run (ans := fun L k => canPut L k ((j : Int) + 1)) (act := fun L k => putL L k ((j : Int) + 1)) (fun L k => shape_put L k _) (touched [⟨o, 1, hs⟩] (x, y', z)) [⟨o, 1, hs⟩]))
        have hl8 : Few (runK (fun L k => canPut L k ((j : Int) + 1)) (fun L k => putL L k ((j : Int) + 1)) (touched [⟨o, 1, hs⟩] (x, y', z)) [⟨o, 1, hs⟩]).1 (8 * j + 8) := by
          have := few_runPut (L := [⟨o, 1, hs⟩]) (q := 8 * j) (by intro m hm; rw [List.mem_singleton.1 hm]; exact hlen) ((j : Int) + 1) (touched [⟨o, 1, hs⟩] (x, y', z)) 8
          rwa [List.take_of_length_le (touched_le _ _)] at this
        rw [hs'e] at n6 hl8
        have hl9 := hl8 ⟨o, 1, hs'⟩ (List.mem_singleton.2 rfl)
        have H6 := Lib.hid (And.intro n6 hl9)
        clear n6 hl8 hl9 hs'e r6 s6 HA H5
        go_wp2_with fail
        go_roundw
        case rel => exact ⟨j + 1, hs', hjn, by go_num, H6.out.2, H6.out.1⟩
        case measure => simp [intOf]; omega
      · have htt' : okT (x, y', z) = false := by simpa using htt
        rw [htt']
        go_wp2_with fail
        refine (awake_any _).mono ?_
        rintro e w6 ⟨rfl, k6⟩
        go_wp2_with fail
        go_ret
        exact ⟨rfl, KW.out.trans (H5.out.kept.trans k6 (fun _ _ g => g)) (fun _ _ g => g)⟩
    · obtain rfl : j = n := by omega
      have ⟨q0, q1, q2⟩ := HB5.out.kept HS.out.kept (fun e => e)
      have HI := Lib.hid (itemsS_any (k := o) HS.out.sto HO.out (by intro m hm; rw [List.mem_singleton.1 hm]; show hs.length ≤ 5000; omega))
      rw [show items [⟨o, 1, hs⟩] o = hs from back_other (o := o) (k := o) 0] at HI
      go_wp2_with fail
      refine HI.out.mono ?_
      rintro e w5 ⟨aw, cw, rfl, r5, k5⟩
      have H5 := Lib.hid (HS.out.keptN k5)
      have R5 := Lib.hid (r5.toIn cN_len (by decide))
      have hRF : ∀ b, (Value.slice aw hs.length cw).ownBlock = some b → ¬ F4' b := fun b hb hF => by
        have h1 := (r5.lt b hb).1
        have h2 := HS.out.inF hF
        omega
      have HRF := Lib.hid hRF
      clear r5 k5 HI HS q0 q1 q2 hRF
      obtain ⟨hy0, hy1⟩ := HY.out
      have hwy : IntKind.i64.wrap y = y := by rw [IntKind.wrap_i64]; omega
      obtain ⟨N, hN⟩ : ∃ N : Nat, y.tmod 9 = (N : Int) := ⟨(y.tmod 9).toNat, by have := Int.tmod_nonneg 9 hy0; omega⟩
      have hN9 : N < 9 := by have := Int.tmod_lt_of_pos y (show (0 : Int) < 9 by decide); omega
      go_wp2_with fail
      obtain ⟨M, hM1, hM2⟩ : ∃ M, M ≤ N + 1 ∧ N + 1 ≤ M := ⟨N + 1, Nat.le_refl _, Nat.le_refl _⟩
      clear hN hwy hy0 hy1
      go_loopw [83] (fun v wr => ∃ (i : Nat) (ll : List T3), i ≤ M ∧ v = .int .i64 i ∧ ll.length ≤ 1 + i ∧ SGrew w5 wr F4' p ll (backL o k hs i)) (fun v _ => M - (intOf v).toNat)
      case atStart => exact ⟨0, [o], Nat.zero_le _, rfl, Nat.le_refl _, SGrew.same H5.out.sto (Kept.refl _ _)⟩
      case round =>
        obtain ⟨i, ll, hi, rfl, hll, hg⟩ := hrel
        obtain ⟨F', n', up, kk⟩ := H5.out.grew hg
        have HG := Lib.hid (And.intro n' (And.intro up kk))
        have HG0 := Lib.hid hg
        clear hg n' up kk
        have ⟨p0, p1, p2⟩ := HB4.out.kept HG.out.1.kept (fun e => e)
        by_cases hin : i < M
        · have HC := Lib.hid (wantS_any (a := none) (n := 0) (c := 0) (fs := []) (k := k) HG.out.1.sto (by omega) HK.out ⟨rfl, .inl rfl⟩ (by simp) (by decide) (.inl rfl))
          rw [back_wanted HNE.out, back_want HNE.out] at HC
          go_wp2_with fail
          refine HC.out.mono ?_
          rintro e w6 ⟨rfl, g6⟩
          obtain ⟨F6, n6, _, _⟩ := HG.out.1.grew g6
          have HG6 := Lib.hid (SGrew.two HG.out.2.1 HG.out.2.2 g6)
          have HL6 := Lib.hid (lenS_any n6.sto)
          rw [back_len] at HL6
          clear g6 n6 HC p0 p1 p2
          go_wp2_with fail
          refine HL6.out.mono ?_
          rintro e w7 ⟨rfl, k7⟩
          have HG7 := Lib.hid (HG6.out.keptN k7)
          clear k7 HL6
          go_wp2_with fail
          go_roundw
          case rel => exact ⟨i + 1, ll ++ [k], hin, by go_num, by rw [List.length_append]; simp; omega, HG7.out⟩
          case measure => simp [intOf]; omega
        · obtain rfl : M = i := by omega
          go_wp2_with fail
          go_loopw [99] (fun v wr => ∃ (i : Nat) (ll : List T3), i ≤ M ∧ v = .int .i64 i ∧ SGrew w5 wr F4' p ll (backL o k hs (M - i))) (fun v _ => M - (intOf v).toNat)
          case atStart => exact ⟨0, ll, Nat.zero_le _, rfl, HG0.out⟩
          case round =>
            clear p0 p1 p2
            obtain ⟨i, ll', hi, rfl, hg⟩ := hrel
            clear HG HG0
            obtain ⟨F'', n', up, kk⟩ := H5.out.grew hg
            have HG := Lib.hid (And.intro n' (And.intro up kk))
            clear hg n' up kk
            have ⟨p0, p1, p2⟩ := HB4.out.kept HG.out.1.kept (fun e => e)
            by_cases hin : i < M
            · obtain ⟨q, hq⟩ : ∃ q, M - i = q + 1 := ⟨M - i - 1, by omega⟩
              rw [hq] at HG
              have HC := Lib.hid (dropS_some (k := k) HG.out.1.sto HK.out (back_mem HNE.out q))
              rw [back_drop HNE.out] at HC
              have hv : (((⟨k, q + 1, []⟩ : Mem).n : Int) - 1) = (q : Int) := by show ((q + 1 : Nat) : Int) - 1 = _; omega
              rw [hv] at HC
              go_wp2_with fail
              refine HC.out.mono ?_
              rintro e w6 ⟨rfl, g6⟩
              have HG6 := Lib.hid (SGrew.two HG.out.2.1 HG.out.2.2 g6)
              clear g6 HC p0 p1 p2
              go_wp2_with fail
              go_roundw
              case rel => exact ⟨i + 1, _, hin, by go_num, by rw [show M - (i + 1) = q by omega]; exact HG6.out⟩
              case measure => simp [intOf]; omega
            · obtain rfl : M = i := by omega
              rw [Nat.sub_self] at HG
              go_wp2_with fail
              refine (dropS_none HG.out.1.sto HK.out (back_mem0 HNE.out)).mono ?_
              rintro e w6 ⟨rfl, k6⟩
              have H6 := Lib.hid (HG.out.1.keptN k6)
              have K6 := Lib.hid (HG.out.2.2.trans k6 (fun _ _ e => e.elim))
              have ⟨r0, r1, r2⟩ := HB4.out.kept H6.out.kept (fun e => e)
              have HL6 := Lib.hid (lenS_any H6.out.sto)
              rw [show (backL o k hs 0).length = 1 from rfl] at HL6
              clear k6 HG p0 p1 p2
              go_wp2_with fail
              refine HL6.out.mono ?_
              rintro e w7 ⟨rfl, k7⟩
              have H7 := Lib.hid (H6.out.keptN k7)
              have K7 := Lib.hid (K6.out.trans k7 (fun _ _ e => e.elim))
              have ⟨s0, s1, s2⟩ := HB4.out.kept H7.out.kept (fun e => e)
              have HI7 := Lib.hid (itemsS_any (k := k) H7.out.sto HK.out (fun m hm => Nat.le_trans (back_few 0 m hm) (by omega)))
              rw [items_none (back_mem0 HNE.out)] at HI7
              clear k7 H6 K6 HL6 r0 r1 r2
              go_wp2_with fail
              refine HI7.out.mono ?_
              rintro e w8 ⟨a8, c8, rfl, _, k8⟩
              have H8 := Lib.hid (H7.out.keptN k8)
              have K8 := Lib.hid (K7.out.trans k8 (fun _ _ e => e.elim))
              have ⟨t0, t1, t2⟩ := HB5.out.kept H8.out.kept (fun e => e)
              have HI8 := Lib.hid (itemsS_any (k := o) H8.out.sto HO.out (fun m hm => Nat.le_trans (back_few 0 m hm) (by omega)))
              rw [back_other 0] at HI8
              clear k8 H7 K7 HI7 s0 s1 s2
              simp only [List.length_nil]
              go_wp2_with fail
              refine HI8.out.mono ?_
              rintro e w9 ⟨a9, c9, rfl, r9, k9⟩
              have H9 := Lib.hid (H8.out.keptN k9)
              have HT := Lib.hid (ints_any (c := c9) (c' := cw) (r9.toIn cN_len (by decide)) (R5.out.keptF (cap := cw) (K8.out.trans k9 (fun _ _ e => e.elim)) HRF.out) (by omega) (by omega))
              rw [decide_eq_true rfl] at HT
              clear k9 r9 H8 K8 HI8 t0 t1 t2
              go_wp2_with fail
              refine HT.out.mono ?_
              rintro e w10 ⟨rfl, k10⟩
              have H10 := Lib.hid (H9.out.keptN k10)
              clear k10 HT H9
              go_wp2_with fail
              refine (awake_any _).mono ?_
              rintro e w11 ⟨rfl, k11⟩
              go_wp2_with fail
              go_ret
              exact ⟨rfl, KW.out.trans (H10.out.kept.trans k11 (fun _ _ g => g)) (fun _ _ g => g)⟩
end Go.Proofs.Ytjfkillpepoplaa
