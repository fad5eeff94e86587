/- Layer plain: the reference's Blockers. -/
import Derived.Test.YtmpoeibkndcnnaaA9
import Derived.Test.YtmpoeibkndcnnaaA12
namespace Go.Proofs.Ytmpoeibkndcnnaa
open Go.RowKit
set_option maxRecDepth 100000

/-- The triples of the facts of some ids; how many pairs of a match and a fact that meets a step there are. -/
def backOf (fs : List F4) (ids : List Int) : List T3 := ids.flatMap fun i => (fs.filter fun f => f.1 == i).map Prod.snd
def blkN (fs : List F4) (h : SH) (L : List (List Int)) : Nat := (L.map fun ids => fs.countP fun f => meetH h (backOf fs ids) f.2).sum
theorem backOf_le (fs : List F4) : ∀ ids : List Int, (backOf fs ids).length ≤ ids.length * fs.length
  | [] => Nat.zero_le _
  | i :: r => by
    have := backOf_le fs r
    unfold backOf at this ⊢
    rw [List.flatMap_cons, List.length_append, List.length_map, List.length_cons, Nat.add_mul, Nat.one_mul]
    have h2 : (fs.filter fun f => f.1 == i).length ≤ fs.length := List.length_filter_le _ _
    omega
theorem blkN_le (fs : List F4) (h : SH) : ∀ L : List (List Int), blkN fs h L ≤ L.length * fs.length
  | [] => Nat.zero_le _
  | x :: r => by
    have := blkN_le fs h r
    unfold blkN at this ⊢
    rw [List.map_cons, List.sum_cons, List.length_cons, Nat.add_mul, Nat.one_mul]
    have h2 : fs.countP (fun f => meetH h (backOf fs x) f.2) ≤ fs.length := List.countP_le_length
    omega
theorem filter_take (fs : List F4) (id : Int) {q : Nat} {f : F4} (h : fs[q]? = some f) : ((fs.take (q + 1)).filter fun f => f.1 == id).map Prod.snd = ((fs.take q).filter fun f => f.1 == id).map Prod.snd ++ if f.1 = id then [f.2] else [] := by
  rw [List.take_add_one, h, List.filter_append, List.map_append]
  congr 1
  show (List.filter _ [f]).map Prod.snd = _
  by_cases e : f.1 = id
  · rw [if_pos e, List.filter_cons_of_pos (by simp [e])]; rfl
  · rw [if_neg e, List.filter_cons_of_neg (by simp [e])]; rfl
set_option maxHeartbeats 8000000 in
theorem blockers_of (fs : List F4) (hn12 : fs.length ≤ 12) (h : SH) (M : List (List Int)) (hM : M.length ≤ 3000) (hMl : ∀ x ∈ M, x.length ≤ 16) (hb : ∀ x ∈ M, (backOf fs x).length ≤ 300) (fa : Option Addr) (fn fc : Nat) (a : Option Addr) (cn cap : Nat) (ta : Option Addr) (tn tc : Nat) (ua : Option Addr) (un uc : Nat) (w : World) (hF : In cF 4 w fa fn fs)
    (CSt : ∀ W, Kept Nil w W → Calls Try.prog 20 #[.slice fa fn fc, .slice a cn cap, .slice none 0 0] W fun e w' => ∃ r', e = .returned r' ∧ LL w' W.heap.size r' M ∧ Kept Nil W w')
    (CMt : ∀ (bk : List T3) (t : T3) (a n c) W, n ≤ 1000 → Kept Nil w W → In cT3 3 W a n bk → Calls Try.prog 37 #[.agg #[.int .i64 h.k, .int .i64 h.k0, .int .i64 h.k1, .int .i64 h.k2, .slice ta tn tc, .slice ua un uc], .slice a n c, av t] W fun e w' => e = .returned (.bool (meetH h bk t)) ∧ Kept Nil W w') :
    Calls Try.prog 23 #[.slice fa fn fc, .slice a cn cap, .agg #[.int .i64 h.k, .int .i64 h.k0, .int .i64 h.k1, .int .i64 h.k2, .slice ta tn tc, .slice ua un uc]] w fun e w' => e = .returned (.int .i64 (blkN fs h M)) ∧ Kept Nil w w' := by
  have HF := Lib.hid hF
  have HS := Lib.hid CSt
  have HMt := Lib.hid CMt
  obtain ⟨k, k0, k1, k2, ts⟩ := h
  simp only at HMt ⊢
  have K0 := Lib.hid ((Kept.refl Nil w).alloc (.cells #[.int .i64 k, .int .i64 k0, .int .i64 k1, .int .i64 k2, .slice ta tn tc, .slice ua un uc] 54))
  have B0 := Lib.hid (Blk.new w 54 #[.int .i64 k, .int .i64 k0, .int .i64 k1, .int .i64 k2, .slice ta tn tc, .slice ua un uc])
  clear hF CSt CMt
  go_enter Try.func23, Try.ntmps23
  go_wp2_with fail
  refine (HS.out _ K0.out).mono ?_
  rintro e w1 ⟨r1, rfl, h1, k1'⟩
  obtain ⟨a1, c1, rfl⟩ := h1.shape
  have K1 := Lib.hid (K0.out.trans k1' (fun _ _ e => e))
  have B1 := Lib.hid (B0.out.kept k1' (fun e => e))
  have H1 := Lib.hid h1.toLIn
  have hMn : M.length ≤ 3000 := hM
  generalize hmn : M.length = mn at *
  clear k1' h1 K0 B0 HS
  go_wp2_with fail
  go_loopw [7, 21] (fun vn i wr => ∃ m : Nat, m ≤ mn ∧ i = .int .i64 m ∧ vn = .int .i64 (blkN fs ⟨k, k0, k1, k2, ts⟩ (M.take m)) ∧ Kept Nil w1 wr) (fun _ i _ => mn - (intOf i).toNat)
  case atStart => exact ⟨0, Nat.zero_le _, rfl, rfl, Kept.refl _ _⟩
  case round =>
    obtain ⟨m, hm, rfl, rfl, hK⟩ := hrel
    rename World => wo
    have HK := Lib.hid hK
    clear hK
    by_cases hmm : m < mn
    rotate_left
    · obtain rfl : m = mn := by omega
      have e1 : M.take m = M := List.take_of_length_le (by rw [hmn]; exact Nat.le_refl _)
      rw [e1]
      go_wp2_with fail
      go_ret
      exact ⟨rfl, K1.out.trans HK.out (fun _ _ e => e)⟩
    obtain ⟨x, hx⟩ : ∃ x, M[m]? = some x := ⟨_, List.getElem?_eq_getElem (by omega)⟩
    obtain ⟨b, o, a', n', c', rfl, hb1, hc, hi⟩ := (H1.out.kept HK.out).at_ hx
    have hn16 : n' ≤ 16 := by have := hMl x (List.mem_of_getElem? hx); have := hi.1; omega
    have HX := Lib.hid hi
    have HB := Lib.hid (hb x (List.mem_of_getElem? hx))
    have HBT : Hid (blkN fs ⟨k, k0, k1, k2, ts⟩ (M.take (m + 1)) = blkN fs ⟨k, k0, k1, k2, ts⟩ (M.take m) + fs.countP fun f => meetH ⟨k, k0, k1, k2, ts⟩ (backOf fs x) f.2) := Lib.hid (by
      unfold blkN
      rw [List.take_add_one, hx, List.map_append, List.sum_append]; simp)
    have hfn : fn ≤ 12 := by have := HF.out.1; omega
    have hbN : blkN fs ⟨k, k0, k1, k2, ts⟩ (M.take m) ≤ 36000 := by
      have h1 := blkN_le fs ⟨k, k0, k1, k2, ts⟩ (M.take m)
      have h2 : (M.take m).length * fs.length ≤ 3000 * 12 := Nat.mul_le_mul (by rw [List.length_take]; omega) hn12
      omega
    generalize blkN fs ⟨k, k0, k1, k2, ts⟩ (M.take m) = N at *
    clear hi hx
    go_wp2_with fail
    go_loopw [10, 27] (fun vb i wq => ∃ (p : Nat) (ab : Option Addr) (nb cb : Nat), p ≤ n' ∧ i = .int .i64 p ∧ vb = .slice ab nb cb ∧ (backOf fs (x.take p)).length = nb ∧ Row cT3 51 3 wq wo.heap.size (.slice ab nb cb) (backOf fs (x.take p)) ∧ Kept Nil wo wq) (fun _ i _ => n' - (intOf i).toNat)
    case atStart => exact ⟨0, none, 0, 0, Nat.zero_le _, rfl, rfl, rfl, Row.nil _ _, Kept.refl _ _⟩
    case round =>
      obtain ⟨p, ab, nb, cb, hp, rfl, rfl, hlb, hR, hK2⟩ := hrel
      rename World => wq
      have HR := Lib.hid hR
      have HK2 := Lib.hid hK2
      clear hR hK2
      by_cases hpn : p < n'
      rotate_left
      · obtain rfl : p = n' := by omega
        have e1 : x.take p = x := List.take_of_length_le (by rw [HX.out.1]; exact Nat.le_refl _)
        rw [e1] at HR hlb
        go_wp2_with fail
        have HLB := Lib.hid hlb
        have hnb : nb ≤ 300 := by have := HB.out; omega
        go_loopw [7, 50] (fun vn i wr => ∃ q : Nat, q ≤ fn ∧ i = .int .i64 q ∧ vn = .int .i64 ((N + (fs.take q).countP fun f => meetH ⟨k, k0, k1, k2, ts⟩ (backOf fs x) f.2 : Nat)) ∧ Kept Nil wq wr) (fun _ i _ => fn - (intOf i).toNat)
        case atStart => exact ⟨0, Nat.zero_le _, rfl, by simp, Kept.refl _ _⟩
        case round =>
          obtain ⟨q, hq, rfl, rfl, hK3⟩ := hrel
          have HK3 := Lib.hid hK3
          clear hK3
          by_cases hqn : q < fn
          rotate_left
          · obtain rfl : q = fn := by omega
            have e1 : fs.take q = fs := List.take_of_length_le (by rw [HF.out.1]; exact Nat.le_refl _)
            rw [e1, ← HBT.out]
            go_wp2_with fail
            go_roundw
            case rel => exact ⟨m + 1, by omega, by go_num, rfl, (HK.out.trans HK2.out (fun _ _ e => e)).trans HK3.out (fun _ _ e => e)⟩
            case measure => simp [intOf]; omega
          obtain ⟨⟨fi, t1, t2, t3⟩, hf⟩ : ∃ f, fs[q]? = some f := ⟨_, List.getElem?_eq_getElem (by rw [HF.out.1]; exact hqn)⟩
          obtain ⟨bf, of, rfl, hbf, p0, p1, p2, p3⟩ := ((((HF.out.kept K1.out).kept HK.out).kept HK2.out).kept HK3.out).four hf
          simp only at p0 p1 p2 p3
          have KX := Lib.hid ((K1.out.trans HK.out (fun _ _ e => e)).trans (HK2.out.trans HK3.out (fun _ _ e => e)) (fun _ _ e => e))
          have kb := (Kept.refl Nil wr).alloc (.cells #[.int .i64 fi, .int .i64 t1, .int .i64 t2, .int .i64 t3] 94)
          have BF := Lib.hid (Blk.new wr 94 #[.int .i64 fi, .int .i64 t1, .int .i64 t2, .int .i64 t3])
          have K4 := Lib.hid (HK3.out.trans kb (fun _ _ e => e))
          have B4 := Lib.hid ((((B1.out.kept HK.out (fun e => e)).kept HK2.out (fun e => e)).kept HK3.out (fun e => e)).kept kb (fun e => e))
          have CX := Lib.hid (HMt.out (backOf fs x) (t1, t2, t3) ab nb cb _ (by omega) (KX.out.trans kb (fun _ _ e => e)) (((HR.out.toIn cT3_len (by decide)).kept HK3.out).kept kb))
          have HCt : Hid ((fs.take (q + 1)).countP (fun f => meetH ⟨k, k0, k1, k2, ts⟩ (backOf fs x) f.2) = (fs.take q).countP (fun f => meetH ⟨k, k0, k1, k2, ts⟩ (backOf fs x) f.2) + if meetH ⟨k, k0, k1, k2, ts⟩ (backOf fs x) (t1, t2, t3) = true then 1 else 0) := Lib.hid (by
            rw [List.take_add_one, hf, List.countP_append]
            congr 1
            show List.countP _ [_] = _
            rw [List.countP_cons, List.countP_nil, Nat.zero_add])
          have hct : (fs.take q).countP (fun f => meetH ⟨k, k0, k1, k2, ts⟩ (backOf fs x) f.2) ≤ 12 := Nat.le_trans List.countP_le_length (by rw [List.length_take]; omega)
          generalize (fs.take q).countP (fun f => meetH ⟨k, k0, k1, k2, ts⟩ (backOf fs x) f.2) = ct at *
          generalize meetH ⟨k, k0, k1, k2, ts⟩ (backOf fs x) (t1, t2, t3) = mt at *
          have hlw : wr.heap.size < (wr.alloc (.cells #[.int .i64 fi, .int .i64 t1, .int .i64 t2, .int .i64 t3] 94)).heap.size := BF.out.lt
          have s0 := B4.out.cell 0
          have s1 := B4.out.cell 1
          have s2 := B4.out.cell 2
          have s3 := B4.out.cell 3
          have s4 := B4.out.cell 4
          have s5 := B4.out.cell 5
          have y1 := BF.out.cell 1
          have y2 := BF.out.cell 2
          have y3 := BF.out.cell 3
          have hlt4 := B4.out.lt
          simp at s0 s1 s2 s3 s4 s5 y1 y2 y3
          clear hf kb
          go_wp2_with fail
          refine CX.out.mono ?_
          rintro e w5 ⟨rfl, k5⟩
          have K5 := Lib.hid (K4.out.trans k5 (fun _ _ e => e))
          clear k5 s0 s1 s2 s3 s4 s5 y1 y2 y3 p0 p1 p2 p3 CX
          cases mt
          · rw [if_neg (by decide)] at HCt
            go_wp2_with fail
            go_roundw
            case rel => exact ⟨q + 1, hqn, by go_num, by rw [HCt.out]; go_num, K5.out⟩
            case measure => simp [intOf]; omega
          · rw [if_pos rfl] at HCt
            go_wp2_with fail
            go_roundw
            case rel => exact ⟨q + 1, hqn, by go_num, by rw [HCt.out]; go_num, K5.out⟩
            case measure => simp [intOf]; omega
      obtain ⟨id, hid⟩ : ∃ id, x[p]? = some id := ⟨_, List.getElem?_eq_getElem (by rw [HX.out.1]; exact hpn)⟩
      obtain ⟨b2, o2, rfl, hb2, hc2⟩ := (HX.out.kept HK2.out).one hid
      have HT : Hid (backOf fs (x.take (p + 1)) = backOf fs (x.take p) ++ (fs.filter fun f => f.1 == id).map Prod.snd) := Lib.hid (by
        unfold backOf
        rw [List.take_add_one, hid, List.flatMap_append]; simp)
      have hbt : (backOf fs (x.take p)).length + ((fs.filter fun f => f.1 == id).map Prod.snd).length ≤ 300 := by
        rw [← List.length_append, ← HT.out]
        refine Nat.le_trans ?_ HB.out
        have : x = x.take (p + 1) ++ x.drop (p + 1) := (List.take_append_drop _ _).symm
        conv => rhs; rw [this]
        unfold backOf
        rw [List.flatMap_append, List.length_append]
        omega
      generalize backOf fs (x.take p) = K at *
      clear hid
      go_wp2_with fail
      go_loopw [10, 33] (fun vb i wq2 => ∃ (q : Nat) (ab : Option Addr) (nb cb : Nat), q ≤ fn ∧ i = .int .i64 q ∧ vb = .slice ab nb cb ∧ (K ++ ((fs.take q).filter fun f => f.1 == id).map Prod.snd).length = nb ∧ Row cT3 51 3 wq2 wo.heap.size (.slice ab nb cb) (K ++ ((fs.take q).filter fun f => f.1 == id).map Prod.snd) ∧ Kept Nil wo wq2) (fun _ i _ => fn - (intOf i).toNat)
      case atStart => exact ⟨0, ab, nb, cb, Nat.zero_le _, rfl, rfl, by simpa using hlb, by simpa using HR.out, HK2.out⟩
      case round =>
        obtain ⟨q, aq, nq, cq, hq, rfl, rfl, hlq, hRq, hK3⟩ := hrel
        have HRq := Lib.hid hRq
        have HK3 := Lib.hid hK3
        clear hRq hK3
        by_cases hqn : q < fn
        rotate_left
        · obtain rfl : q = fn := by omega
          have e1 : fs.take q = fs := List.take_of_length_le (by rw [HF.out.1]; exact Nat.le_refl _)
          rw [e1] at HRq hlq
          go_wp2_with fail
          go_roundw
          case rel => exact ⟨p + 1, aq, nq, cq, hpn, by go_num, rfl, by rw [HT.out]; exact hlq, by rw [HT.out]; exact HRq.out, HK3.out⟩
          case measure => simp [intOf]; omega
        obtain ⟨⟨fi, t1, t2, t3⟩, hf⟩ : ∃ f, fs[q]? = some f := ⟨_, List.getElem?_eq_getElem (by rw [HF.out.1]; exact hqn)⟩
        obtain ⟨bf, of, rfl, hbf, p0, p1, p2, p3⟩ := (((HF.out.kept K1.out).kept HK.out).kept HK3.out).four hf
        have HFt := Lib.hid (filter_take fs id hf)
        have hlle : (K ++ ((fs.take q).filter fun f => f.1 == id).map Prod.snd).length ≤ 300 := by
          rw [List.length_append, List.length_map]
          rw [List.length_map] at hbt
          have : ((fs.take q).filter fun f => f.1 == id).length ≤ (fs.filter fun f => f.1 == id).length := ((List.take_sublist q fs).filter _).length_le
          omega
        simp only at p0 p1 p2 p3
        have kb := (Kept.refl Nil wr).alloc (.cells #[.int .i64 fi, .int .i64 t1, .int .i64 t2, .int .i64 t3] 94)
        have BF := Lib.hid (Blk.new wr 94 #[.int .i64 fi, .int .i64 t1, .int .i64 t2, .int .i64 t3])
        have K4 := Lib.hid (HK3.out.trans kb (fun _ _ e => e))
        have hlw : wr.heap.size < (wr.alloc (.cells #[.int .i64 fi, .int .i64 t1, .int .i64 t2, .int .i64 t3] 94)).heap.size := BF.out.lt
        by_cases hid : fi = id
        rotate_left
        · have hne : (fi == id) = false := beq_eq_false_iff_ne.2 hid
          rw [if_neg hid, List.append_nil] at HFt
          have R4 := Lib.hid (HRq.out.keptN kb)
          clear hf kb
          go_wp2_with fail
          go_roundw
          case rel => exact ⟨q + 1, aq, nq, cq, hqn, by go_num, rfl, by rw [HFt.out]; exact hlq, by rw [HFt.out]; exact R4.out, K4.out⟩
          case measure => simp [intOf]; omega
        subst hid
        rw [if_pos rfl] at HFt
        have hRb1 := HRq.out.keptN kb
        have hs1 : (wr.alloc (.cells #[.int .i64 fi, .int .i64 t1, .int .i64 t2, .int .i64 t3] 94)).heap.size = wr.heap.size + 1 := by simp
        obtain ⟨a4, c4, w4, r4, row4, kk4, ko4⟩ := Row.push elsB3 cT3_len cT3_one 97 K4.out hRb1 hlq.symm (by omega) (t1, t2, t3) #[.int .i64 t1, .int .i64 t2, .int .i64 t3] rfl
        rw [hs1] at r4
        have R4 := Lib.hid r4
        have H4 := Lib.hid (And.intro row4 kk4)
        have hbe : ((fi : Int) == fi) = true := beq_self_eq_true fi
        clear hf kb hRb1 hs1 r4 row4 kk4 ko4
        go_wp2_with (at_builtin; refine wpList_append_run rfl (.tmp 41) (.tmp 44) 97 rfl _ _ rfl rfl R4.out ?_)
        go_roundw
        case rel => exact ⟨q + 1, a4, nq + 1, c4, hqn, by go_num, rfl, by rw [HFt.out, ← List.append_assoc, List.length_append, hlq]; rfl, by rw [HFt.out, ← List.append_assoc]; exact H4.out.1, H4.out.2⟩
        case measure => simp [intOf]; omega
end Go.Proofs.Ytmpoeibkndcnnaa
