/- Layer plain: the program's Any (and what stands behind the first so many Pos steps). -/
import Derived.Test.YtmpoeibkndcnnaaA15
import Derived.Test.YtmpoeibkndcnnaaBYTake
import Derived.Test.YtmpoeibkndcnnaaBGBack
namespace Go.Proofs.Ytmpoeibkndcnnaa
open Go.RowKit
set_option maxRecDepth 100000

/-! ### What stands behind the first so many Pos steps -/
def isPosS (s : St) : Bool := decide (s.hd.k = 1)
def firstP (l : List St) : Nat := l.findIdx isPosS
def behind : Nat → List St → List St
  | 0, l => l
  | n + 1, l => behind n (l.drop (firstP l + 1))
theorem firstP_pos (s : St) (r : List St) (h : s.hd.k = 1) : firstP (s :: r) = 0 := by
  unfold firstP
  rw [List.findIdx_cons]
  have : isPosS s = true := decide_eq_true h
  rw [this]; rfl
theorem firstP_skip (s : St) (r : List St) (h : s.hd.k ≠ 1) : firstP (s :: r) = firstP r + 1 := by
  unfold firstP
  rw [List.findIdx_cons]
  have : isPosS s = false := decide_eq_false h
  rw [this]; rfl
theorem firstP_at : ∀ (l : List St), 1 ≤ posN l → ∃ s, l[firstP l]? = some s ∧ s.hd.k = 1 ∧ (∀ (i : Nat) x, i < firstP l → l[i]? = some x → x.hd.k ≠ 1) ∧ posN l = posN (l.drop (firstP l + 1)) + 1
  | [], h => by simp [posN] at h
  | s :: r, h => by
    by_cases h1 : s.hd.k = 1
    · rw [firstP_pos s r h1]
      refine ⟨s, rfl, h1, fun i x hi => by omega, ?_⟩
      rw [posN, if_pos h1]
      simp; omega
    · rw [posN, if_neg h1, Nat.zero_add] at h
      obtain ⟨t, e1, e2, e3, e4⟩ := firstP_at r h
      rw [firstP_skip s r h1]
      refine ⟨t, by simpa using e1, e2, fun i x hi hx => ?_, ?_⟩
      · cases i with
        | zero => simp at hx; subst hx; exact h1
        | succ i => exact e3 i x (by omega) (by simpa using hx)
      · rw [posN, if_neg h1, Nat.zero_add, e4]; simp
theorem behind_take : ∀ (c : List St) (k : Nat), (k = 0 ∨ ∃ s, c[k - 1]? = some s ∧ s.hd.k = 1) → behind (posN (c.take k)) c = c.drop k
  | c, 0, _ => by rw [List.take_zero]; rfl
  | [], k + 1, h => by
    rcases h with h | ⟨s, h, _⟩
    · omega
    · simp at h
  | s :: r, k + 1, h => by
    have hk : ∃ t, (s :: r)[k]? = some t ∧ t.hd.k = 1 := by
      rcases h with h | ⟨t, h, h'⟩
      · omega
      · exact ⟨t, by simpa using h, h'⟩
    rw [List.take_succ_cons, List.drop_succ_cons, posN]
    by_cases h1 : s.hd.k = 1
    · rw [if_pos h1, Nat.add_comm, behind, firstP_pos s r h1]
      show behind (posN (r.take k)) r = _
      refine behind_take r k ?_
      cases k with
      | zero => exact .inl rfl
      | succ k => right; obtain ⟨t, e, e'⟩ := hk; exact ⟨t, by simpa using e, e'⟩
    · rw [if_neg h1, Nat.zero_add]
      cases k with
      | zero => obtain ⟨t, e, e'⟩ := hk; simp at e; subst e; exact absurd e' h1
      | succ k =>
        obtain ⟨t, e, e'⟩ := hk
        have e2 : r[k]? = some t := by simpa using e
        have hp : 1 ≤ posN (r.take (k + 1)) := by
          rw [List.take_add_one, e2, posN_append]
          show 1 ≤ _ + posN [t]
          rw [posN, if_pos e']; omega
        obtain ⟨m, hm⟩ : ∃ m, posN (r.take (k + 1)) = m + 1 := ⟨posN (r.take (k + 1)) - 1, by omega⟩
        have ih := behind_take r (k + 1) (.inr ⟨t, by simpa using e2, e'⟩)
        rw [hm, behind] at ih ⊢
        rw [firstP_skip s r h1]
        exact ih
theorem behind_sub : ∀ (n : Nat) (l : List St), (∀ x ∈ behind n l, x ∈ l) ∧ cntL (behind n l) ≤ cntL l
  | 0, l => ⟨fun _ h => h, Nat.le_refl _⟩
  | n + 1, l => by
    obtain ⟨h1, h2⟩ := behind_sub n (l.drop (firstP l + 1))
    refine ⟨fun x hx => List.mem_of_mem_drop (h1 x hx), Nat.le_trans h2 ?_⟩
    have := cntL_append (l.take (firstP l + 1)) (l.drop (firstP l + 1))
    rw [List.take_append_drop] at this
    omega
/-! ### behindPos -/
set_option maxHeartbeats 2000000 in
theorem behindClo_any (h : SH) (tv uv : Value) (w : World) :
    Calls Try.prog 66 #[vS h tv uv] w fun e w' => e = .returned (.bool (decide (h.k = 1))) ∧ Kept Nil w w' := by
  obtain ⟨k, k0, k1, k2, ts⟩ := h
  have K0 := Lib.hid ((Kept.refl Nil w).alloc (.cells #[.int .i64 k, .int .i64 k0, .int .i64 k1, .int .i64 k2, tv, uv] 59))
  go_enter Try.func66, Try.ntmps66
  go_wp2_with fail
  go_ret
  exact ⟨ret_bool (by first | rfl | (cases h : decide (k = 1) <;> simp_all)), K0.out⟩
set_option maxHeartbeats 4000000 in
theorem behindIdx_any (l : List St) (hp : 1 ≤ posN l) (a : Option Addr) (len cap : Nat) (hl : l.length = len) (hl5 : len ≤ 5000) (w : World) (hH : SHolds w Any2 (.slice a len cap) l) :
    Calls Try.prog 65 #[.slice a len cap, .func (.func 66) #[] #[]] w fun e w' => e = .returned (.int .i64 (firstP l : Nat)) ∧ Kept Nil w w' := by
  obtain ⟨s, e1, e2, e3, _⟩ := firstP_at l hp
  obtain ⟨p, hpe⟩ : ∃ p, firstP l = p := ⟨_, rfl⟩
  rw [hpe] at e1 e3 ⊢
  have HH := Lib.hid hH
  have HL := Lib.hid hl
  have HP := Lib.hid (And.intro e1 (And.intro e2 e3))
  have hpl : p < len := by rw [← hl]; exact (List.getElem?_eq_some_iff.1 e1).1
  clear hH hl e1 e2 e3 hp hpe
  go_enter Try.func65, Try.ntmps65
  go_wp2_with fail
  go_loopw [5, 8] (fun _ i wr => ∃ j : Nat, j ≤ p ∧ i = .int .i64 j ∧ Kept Nil w wr) (fun _ i _ => len - (intOf i).toNat)
  case atStart => exact ⟨0, by omega, rfl, Kept.refl _ _⟩
  case round =>
    obtain ⟨j, hj, rfl, hK⟩ := hrel
    have HK := Lib.hid hK
    clear hK
    have hlt : j < len := by omega
    obtain ⟨⟨⟨k, k0, k1, k2, ts⟩, sb⟩, hx⟩ : ∃ x, l[j]? = some x := ⟨_, List.getElem?_eq_getElem (by rw [HL.out]; exact hlt)⟩
    obtain ⟨b, o, ta, tc, ua, uc, rfl, _, hr, ht, hs⟩ := (HH.out.keptN HK.out).at_ hx
    have CX := Lib.hid (behindClo_any ⟨k, k0, k1, k2, ts⟩ (.slice ta ts.length tc) (.slice ua sb.length uc) wr)
    have c0 := hr 0 _ rfl
    have c1 := hr 1 _ rfl
    have c2 := hr 2 _ rfl
    have c3 := hr 3 _ rfl
    have c4 := hr 4 _ rfl
    have c5 := hr 5 _ rfl
    have HXx := Lib.hid hx
    simp only [Nat.add_zero] at c0 c1 c2 c3 c4 c5
    simp only at CX
    generalize ts.length = tn at *
    generalize sb.length = un at *
    clear hx hr ht hs
    by_cases hk : k = 1
    · rw [decide_eq_true hk] at CX
      have hjp : j = p := by
        rcases Nat.lt_or_ge j p with h | h
        · exact absurd hk (HP.out.2.2 j _ h HXx.out)
        · omega
      have HJ := Lib.hid hjp
      clear hk hjp
      go_wp2_with fail
      refine CX.out.mono ?_
      rintro e w2 ⟨rfl, k2'⟩
      go_wp2_with fail
      go_ret
      exact ⟨by rw [← HJ.out]; rfl, HK.out.trans k2' (fun _ _ g => g)⟩
    · rw [decide_eq_false hk] at CX
      have hjp : j < p := by
        rcases Nat.lt_or_ge j p with h | h
        · exact h
        · have e : j = p := by omega
          subst e
          have h1 := HP.out.1
          rw [HXx.out] at h1
          cases h1
          exact absurd HP.out.2.1 hk
      clear hk
      go_wp2_with fail
      refine CX.out.mono ?_
      rintro e w2 ⟨rfl, k2'⟩
      have K2 := Lib.hid (HK.out.trans k2' (fun _ _ g => g))
      clear k2'
      go_wp2_with fail
      go_roundw
      case rel => exact ⟨j + 1, by omega, by go_num, K2.out⟩
      case measure => simp [intOf]; omega
set_option maxHeartbeats 4000000 in
theorem behindPos_any (l : List St) (n : Nat) (hn : n ≤ posN l) (a : Option Addr) (len cap : Nat) (hl : l.length = len) (hl5 : len ≤ 5000) (w : World) (hH : SHolds w Any2 (.slice a len cap) l) :
    Calls Try.prog 44 #[.slice a len cap, .int .i64 (n : Int)] w fun e w' => ∃ a' c', e = .returned (.slice a' (behind n l).length c') ∧ SHolds w' Any2 (.slice a' (behind n l).length c') (behind n l) ∧ Kept Nil w w' := by
  obtain ⟨L, hL⟩ : ∃ L, behind n l = L := ⟨_, rfl⟩
  rw [hL]
  have HH := Lib.hid hH
  have HL := Lib.hid (And.intro hL (And.intro hn hl))
  have hn5 : n ≤ 5000 := by
    have : ∀ l : List St, posN l ≤ l.length := fun l => by
      induction l with
      | nil => exact Nat.le_refl _
      | cons s r ih => rw [posN, List.length_cons]; split <;> omega
    have := this l
    omega
  clear hH hL hn hl
  go_enter Try.func44, Try.ntmps44
  go_wp2_with fail
  go_loopw [0, 1, 5] (fun vc vn _ wr => ∃ (m : Nat) (l' : List St) (a' : Option Addr) (n' c' : Nat), vn = .int .i64 (m : Int) ∧ vc = .slice a' n' c' ∧ l'.length = n' ∧ SHolds w Any2 (.slice a' n' c') l' ∧ behind m l' = L ∧ m ≤ posN l' ∧ m ≤ 5000 ∧ n' ≤ 5000 ∧ Kept Nil w wr) (fun _ vn _ _ => (intOf vn).toNat)
  case atStart => exact ⟨n, l, a, len, cap, rfl, rfl, HL.out.2.2, HH.out, HL.out.1, HL.out.2.1, hn5, hl5, Kept.refl _ _⟩
  case round =>
    obtain ⟨m, l', a', n', c', rfl, rfl, hl', hS, hb, hp, hm5, hn'5, hK⟩ := hrel
    have HS := Lib.hid hS
    have HK := Lib.hid hK
    rcases m with _ | m
    · have HB := Lib.hid (show l' = L from hb)
      have hl2 : L.length = n' := by rw [← HB.out]; exact hl'
      clear hS hK hb hp hl'
      go_wp2_with fail
      go_ret
      refine ⟨a', c', by rw [hl2]; rfl, ?_, HK.out⟩
      rw [hl2, ← HB.out]
      exact HS.out.keptN HK.out
    · have hp1 : 1 ≤ posN l' := by omega
      obtain ⟨s, e1, e2, e3, e4⟩ := firstP_at l' hp1
      have CI := Lib.hid (behindIdx_any l' hp1 a' n' c' hl' hn'5 wr (hS.keptN hK))
      obtain ⟨p, hpe⟩ : ∃ p, firstP l' = p := ⟨_, rfl⟩
      rw [hpe] at e1 e3 e4 CI
      have hpl : p < n' := by rw [← hl']; exact (List.getElem?_eq_some_iff.1 e1).1
      have HB := Lib.hid (show behind m (l'.drop (p + 1)) = L from by rw [← hpe]; exact hb)
      have HP := Lib.hid (show m ≤ posN (l'.drop (p + 1)) from by omega)
      have HLl := Lib.hid hl'
      have hfit := hS.fits.2
      obtain ⟨q, hq⟩ : ∃ q, p + 1 = q := ⟨_, rfl⟩
      obtain ⟨M, hM⟩ : ∃ M, m + 1 = M := ⟨_, rfl⟩
      have s1 : IntKind.i64.wrap ((p : Int) + 1) = (q : Int) := by rw [IntKind.wrap_i64]; omega
      have s2 : IntKind.i64.wrap ((M : Int) - 1) = (m : Int) := by rw [IntKind.wrap_i64]; omega
      have hMp : (0 : Int) < (M : Int) := by omega
      have hqn : q ≤ n' := by omega
      have hqc : q ≤ c' := by omega
      have HQ := Lib.hid hq
      have HMM := Lib.hid hM
      rw [hM]
      clear hS hK hb hp hl' e1 e2 e3 e4 hpe hp1 hq hM
      go_wp2_with fail
      refine CI.out.mono ?_
      rintro e w2 ⟨rfl, k2⟩
      have K2 := Lib.hid (HK.out.trans k2 (fun _ _ g => g))
      clear k2 CI
      go_wp2_with fail
      go_roundw
      case rel =>
        refine ⟨m, l'.drop q, (if c' = q then a' else Option.map (fun x => x.add (q * 6)) a'), n' - q, c' - q, rfl, rfl, ?_, ?_, by rw [← HQ.out]; exact HB.out, by rw [← HQ.out]; exact HP.out, by omega, by omega, K2.out⟩
        · rw [List.length_drop, HLl.out]
        · rcases Nat.lt_or_ge q n' with h | h
          · rw [if_neg (by omega)]
            obtain ⟨⟨hd, sb⟩, hx⟩ : ∃ x, l'[0]? = some x := ⟨_, List.getElem?_eq_getElem (by rw [HLl.out]; omega)⟩
            obtain ⟨b, o, _, _, _, _, rfl, _⟩ := HS.out.at_ hx
            show SHolds w Any2 (.slice (some ((⟨b, o, none⟩ : Addr).add (q * 6))) (n' - q) (c' - q)) _
            rw [Addr.add_lit]
            exact HS.out.drop h
          · have e0 : n' - q = 0 := by omega
            rw [e0, List.drop_eq_nil_of_le (by rw [HLl.out]; omega)]
            exact .nil _ _
      case measure => simp [intOf]; have := HMM.out; omega
/-- The program's Any. -/
def AnyOK : Prop := ∀ (fs : List F4), fs.length ≤ 1000 → ∀ (l : List St), (∀ x ∈ l, x.okS) → l.length ≤ 16 → ∀ (bs : List F4), bs.length ≤ posN l → ∀ (fa : Option Addr) (fn fc : Nat) (a : Option Addr) (cap : Nat) (ba : Option Addr) (bn bc : Nat) (w : World), In cF 4 w fa fn fs → SHolds w Any2 (.slice a l.length cap) l → In cF 4 w ba bn bs →
  Calls Try.prog 24 #[.slice fa fn fc, .slice a l.length cap, .slice ba bn bc] w fun e w' => e = .returned (.bool (!(smL fs (behind bs.length l) bs).isEmpty)) ∧ Kept Nil w w'
theorem posN_len : ∀ l : List St, posN l ≤ l.length
  | [] => Nat.le_refl _
  | s :: r => by
    have := posN_len r
    rw [posN, List.length_cons]; split <;> omega
set_option maxHeartbeats 8000000 in
theorem anyOK : AnyOK := by
  intro fs hfs l hok hl16 bs hbs fa fn fc a cap ba bn bc w hF hH hB
  obtain ⟨len, hl⟩ : ∃ len, l.length = len := ⟨_, rfl⟩
  rw [hl] at hH ⊢
  have hbn : bs.length = bn := hB.1
  rw [hbn] at hbs ⊢
  have hpl := posN_len l
  have CRt := Lib.hid (rightP_any l hok a len cap hl (by omega) w hH)
  have CBk : Hid (∀ W, Kept Nil w W → Calls Try.prog 42 #[.slice a len cap] W fun e w' => e = .returned (.int .i64 (posN l : Int)) ∧ Kept Nil W w') := Lib.hid fun W kW => by
    have := back_any l (by omega) Any2 a cap W (by rw [hl]; exact hH.keptN kW)
    rw [hl] at this
    exact this
  have CBe : Hid (∀ W, Kept Nil w W → Calls Try.prog 44 #[.slice a len cap, .int .i64 (bn : Int)] W fun e w' => ∃ a' c', e = .returned (.slice a' (behind bn l).length c') ∧ SHolds w' Any2 (.slice a' (behind bn l).length c') (behind bn l) ∧ Kept Nil W w') := Lib.hid fun W kW => behindPos_any l bn hbs a len cap hl (by omega) W (hH.keptN kW)
  have hsub := behind_sub bn l
  have CG : Hid (∀ W a' c' ia ic, Kept Nil w W → SHolds W Any2 (.slice a' (behind bn l).length c') (behind bn l) → Row cT3 56 3 W w.heap.size (.slice ia bn ic) (bs.map Prod.snd) → Calls Try.prog 43 #[.slice fa fn fc, .slice a' (behind bn l).length c', .slice ia bn ic] W fun e w' => e = .returned (.bool (!(smL fs (behind bn l) bs).isEmpty)) ∧ Kept Nil W w') := Lib.hid fun W a' c' ia ic kW hh hr => by
    refine goes_ok fs hfs (behind bn l) (fun x hx => (hok x (hsub.1 x hx)).1) bs fa fn fc a' c' ia bn ic W (hF.kept kW) hh (hr.toIn cT3_len (by decide)) ?_ hr.caps.2.1 hr.caps.2.2 (by have := cntL_okS hok; have := hsub.2; omega)
    rcases hr.2 with ⟨e1, _⟩ | ⟨g, cp, cur, e1, _⟩
    · cases e1; exact .inr rfl
    · cases e1; exact .inl ⟨g, 0, rfl, (hr.lt g rfl).2⟩
  have HB := Lib.hid hB
  obtain ⟨Bs, hBs⟩ : ∃ Bs, bs.map Prod.snd = Bs := ⟨_, rfl⟩
  rw [hBs] at CG
  have HBm := Lib.hid hBs.symm
  have HBl : Hid (Bs.length = bn) := Lib.hid (by rw [← hBs, List.length_map, hbn])
  have hge : ¬ ((posN l : Int) < (bn : Int)) := by omega
  have hp16 : posN l ≤ 16 := by omega
  generalize posN l = pn at *
  generalize (behind bn l).length = bl at *
  generalize (!(smL fs (behind bn l) bs).isEmpty) = q at *
  generalize behind bn l = B at *
  clear hF hH hB hok hsub hl hl16 hfs hbn hBs
  go_enter Try.func24, Try.ntmps24
  go_wp2_with fail
  refine CRt.out.mono ?_
  rintro e w1 ⟨rfl, k1⟩
  have K1 := Lib.hid k1
  clear k1 CRt
  go_wp2_with fail
  refine (CBk.out _ K1.out).mono ?_
  rintro e w2 ⟨rfl, k2⟩
  have K2 := Lib.hid (K1.out.trans k2 (fun _ _ g => g))
  clear k2 CBk
  have hd1 : decide (pn < bn) = false := decide_eq_false (by omega)
  go_wp2_with fail
  go_loopw [7, 9, 22] (fun v _ i wr => ∃ (j : Nat) (ia : Option Addr) (ic : Nat), j ≤ bn ∧ i = .int .i64 j ∧ v = .slice ia j ic ∧ Row cT3 56 3 wr w.heap.size (.slice ia j ic) (Bs.take j) ∧ Kept Nil w wr) (fun _ _ i _ => bn - (intOf i).toNat)
  case atStart => exact ⟨0, none, 0, by omega, rfl, rfl, Row.nil _ _, K2.out⟩
  case round =>
    obtain ⟨j, ia, ic, hj, rfl, rfl, hR, hK⟩ := hrel
    have HR := Lib.hid hR
    have HK := Lib.hid hK
    have HLJ : Hid ((Bs.take j).length = j) := Lib.hid (by rw [List.length_take, HBl.out]; omega)
    clear hR hK
    by_cases hlt : j < bn
    rotate_left
    · obtain rfl : j = bn := by omega
      have HR2 : Hid (Row cT3 56 3 wr w.heap.size (.slice ia j ic) Bs) := Lib.hid (by have := HR.out; rwa [List.take_of_length_le (by rw [HBl.out]; exact Nat.le_refl _)] at this)
      go_wp2_with fail
      refine (CBe.out _ HK.out).mono ?_
      rintro e w3 ⟨a3, c3, rfl, h3, k3⟩
      have K3 := Lib.hid (HK.out.trans k3 (fun _ _ g => g))
      have CG3 := Lib.hid (CG.out w3 a3 c3 ia ic K3.out h3 (HR2.out.keptN k3))
      clear h3 k3 CG CBe
      go_wp2_with fail
      refine CG3.out.mono ?_
      rintro e w4 ⟨rfl, k4⟩
      go_wp2_with fail
      go_ret
      exact ⟨rfl, K3.out.trans k4 (fun _ _ g => g)⟩
    obtain ⟨⟨f0, f1, f2, f3⟩, hx⟩ : ∃ f, bs[j]? = some f := ⟨bs[j]'(by rw [HB.out.1]; exact hlt), by simp⟩
    obtain ⟨b, o, rfl, hb, p0, p1, p2, p3⟩ := (HB.out.kept HK.out).four hx
    have HTk : Hid (Bs.take (j + 1) = Bs.take j ++ [(f1, f2, f3)]) := Lib.hid (by rw [List.take_add_one, HBm.out, List.getElem?_map, hx]; rfl)
    simp only at p0 p1 p2 p3
    have kA : Kept Nil wr (wr.alloc (.cells #[.int .i64 f0, .int .i64 f1, .int .i64 f2, .int .i64 f3] 62)) := (Kept.refl Nil wr).alloc _
    have hsA : (wr.alloc (.cells #[.int .i64 f0, .int .i64 f1, .int .i64 f2, .int .i64 f3] 62)).heap.size = wr.heap.size + 1 := by simp
    have kB := kA.alloc (.cells #[.int .i64 f1, .int .i64 f2, .int .i64 f3] 56)
    obtain ⟨a4, c4, w4, r4, o4, k4, _⟩ := (HR.out.keptN kB).pushLit elsT3 cT3_len cT3_one 25 (by rw [HLJ.out]; omega) (Nat.le_trans HK.out.size kB.size) (x := (f1, f2, f3)) (Blk.new _ _ _) rfl
    rw [HLJ.out, hsA] at r4
    rw [HLJ.out] at o4
    have R4 := Lib.hid r4
    have H4 := Lib.hid (And.intro o4 ((HK.out.trans kB (fun _ _ g => g)).trans k4 (fun i hi e => absurd e.2 (Nat.not_le.2 hi))))
    clear hx kA kB r4 o4 k4 hsA
    go_wp2_with (at_builtin; refine wpList_append_run rfl (.tmp 26) (.tmp 29) 25 rfl _ _ rfl rfl R4.out ?_)
    go_roundw
    case rel => exact ⟨j + 1, a4, c4, by omega, by go_num, rfl, by rw [HTk.out]; exact H4.out.1, H4.out.2⟩
    case measure => simp [intOf]; omega
end Go.Proofs.Ytmpoeibkndcnnaa
