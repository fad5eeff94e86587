/- Layer block: the law BlockTypes, whatever it is called with. -/
import Derived.Test.YtodghgeghpbdlaaBAwake
import Derived.Test.YtodghgeghpbdlaaBqR
import Derived.Test.YtodghgeghpbdlaaBDis
import Derived.Test.YtodghgeghpbdlaaBOpen
import Derived.ChangeKeysEq
import Derived.Laws.StructEq
import Derived.Deep.DeepCutAuto
namespace Go.Proofs.Ytodghgeghpbdlaa
open Go.RowKit Go.Maps Go.WideMaps
set_option maxRecDepth 100000

theorem infoInt : (Try.prog.info? 3).isSome = true := by kernel_rfl
theorem partInt (xs : Array Value) (i : Nat) (v : Value) (h : xs[i]? = some v) (w : World) : (part 3 xs i).run Try.prog w = .ok v w := by
  simp [part, isAgg, run_underlying Try.underlying3, h]
theorem eqT (x k : T3) (w : World) :
    (Op.equalIn 10000 38 (.agg #[.int .i64 x.1, .int .i64 x.2.1, .int .i64 x.2.2]) (.agg #[.int .i64 k.1, .int .i64 k.2.1, .int .i64 k.2.2])).run Try.prog w = .ok (decide (x = k)) w := by
  obtain ⟨a1, a2, a3⟩ := x
  obtain ⟨b1, b2, b3⟩ := k
  obtain ⟨i, hi⟩ := Option.isSome_iff_exists.1 infoInt
  have e : ∀ x y : Int, (Op.equalIn 9999 3 (.int .i64 x) (.int .i64 y)).run Try.prog w = .ok (x == y) w := fun x y => run_equalIn_int w 9998 3 .i64 .i64 x y Try.underlying3
  rw [run_equalIn_array w 9999 _ _ Try.underlying38 hi, cells1]
  show (Op.eqItems 9999 3 1 _ _ [0, 1, 2]).run Try.prog w = _
  have p0 : ∀ x y z : Value, (part 3 #[x, y, z] 0).run Try.prog w = .ok x w := fun x y z => partInt #[x, y, z] 0 x rfl w
  have p1 : ∀ x y z : Value, (part 3 #[x, y, z] 1).run Try.prog w = .ok y w := fun x y z => partInt #[x, y, z] 1 y rfl w
  have p2 : ∀ x y z : Value, (part 3 #[x, y, z] 2).run Try.prog w = .ok z w := fun x y z => partInt #[x, y, z] 2 z rfl w
  by_cases h1 : a1 = b1
  · by_cases h2 : a2 = b2
    · by_cases h3 : a3 = b3
      · simp [Op.eqItems, p0, p1, p2, e, h1, h2, h3]
      · simp [Op.eqItems, p0, p1, p2, e, h1, h2, h3]
    · simp [Op.eqItems, p0, p1, e, h1, h2]
  · simp [Op.eqItems, p0, e, h1]
/-- The law's calls' state. -/
structure LQ (w W : World) (pb : Nat) (R : List T3) (Ps : List (T3 × ByteArray)) (n : Nat) : Prop where
  bt : BTQ W w.heap.size pb R Ps n
  k : Kept Nil w W
theorem LQ.keptN {w W W' : World} {pb n : Nat} {R : List T3} {Ps : List (T3 × ByteArray)} (h : LQ w W pb R Ps n) (k : Kept Nil W W') : LQ w W' pb R Ps n := ⟨h.bt.keptN k, h.k.trans k (fun _ _ e => e)⟩
theorem LQ.call {w W W' : World} {pb n n' : Nat} {R R' : List T3} {Ps Ps' : List (T3 × ByteArray)} (h : LQ w W pb R Ps n) (g : GBQ W W' w.heap.size pb R' Ps' n') : LQ w W' pb R' Ps' n' := ⟨g.1, h.k.trans g.2 (fun _ hi e => absurd e.1 (Nat.not_le.2 hi))⟩
set_option maxHeartbeats 8000000 in
theorem blockTypes_any (a : Option Addr) (n cap : Nat) (l : List T3) (a2 : Option Addr) (n2 cap2 : Nat) (l2 : List ByteArray) (w : World) (hl : In cT 3 w a n l) (hok : ∀ x ∈ l, K3.ok x) (hmx : n ≤ maxLen) (hcap : n ≤ cap) (hl2 : In cS 1 w a2 n2 l2) (hok2 : ∀ x ∈ l2, KS.ok x) (hmx2 : n2 ≤ maxLen) (hcap2 : n2 ≤ cap2) :
    Calls Try.prog 7 #[.slice a n cap, .slice a2 n2 cap2] w fun e w' => e = .returned (.bool true) ∧ Kept Nil w w' := by
  have HL := Lib.hid hl
  have HOK := Lib.hid hok
  have HL2 := Lib.hid hl2
  have HOK2 := Lib.hid hok2
  have HA := Lib.hid awake_any
  have hmx' : n ≤ 9223372036854775807 := Nat.le_trans hmx (by unfold maxLen; decide)
  have hmx2' : n2 ≤ 9223372036854775807 := Nat.le_trans hmx2 (by unfold maxLen; decide)
  clear hl hok hmx hl2 hok2 hmx2
  go_enter Try.func7, Try.ntmps7
  go_wp2_with fail
  refine (newB_q w).mono ?_
  rintro e w1 ⟨pb, rfl, h1, k1, _⟩
  have H1 := Lib.hid (show LQ w w1 pb [] [] 0 from ⟨h1, k1⟩)
  clear h1 k1
  by_cases hn : n ≤ 30
  rotate_left
  · have e1 : decide ((30 : Int) < (n : Int)) = true := by simp; omega
    clear hn
    go_wp2_with fail
    refine (HA.out _).mono ?_
    rintro e w3 ⟨rfl, k3⟩
    go_wp2_with fail
    go_ret
    exact ⟨rfl, H1.out.k.trans k3 (fun _ _ e => e)⟩
  have e1 : decide ((30 : Int) < (n : Int)) = false := by simp; omega
  by_cases hn2 : n2 ≤ 30
  rotate_left
  · have e2 : decide ((30 : Int) < (n2 : Int)) = true := by simp; omega
    clear hn2
    go_wp2_with fail
    refine (HA.out _).mono ?_
    rintro e w3 ⟨rfl, k3⟩
    go_wp2_with fail
    go_ret
    exact ⟨rfl, H1.out.k.trans k3 (fun _ _ e => e)⟩
  have e2 : decide ((30 : Int) < (n2 : Int)) = false := by simp; omega
  go_wp2_with fail
  go_loopw [6, 40] (fun c i wr => ∃ j : Nat, j ≤ n ∧ i = .int .i64 j ∧ c = .int .i64 ((dis (l.take j)).length : Nat) ∧ LQ w wr pb (dis (l.take j)) [] j) (fun _ i _ => n - (intOf i).toNat)
  case atStart => exact ⟨0, Nat.zero_le _, rfl, rfl, H1.out⟩
  case round =>
    obtain ⟨j, hj, rfl, rfl, hI⟩ := hrel
    have HI := Lib.hid hI
    clear hI
    by_cases hlt : j < n
    · obtain ⟨k, hx⟩ : ∃ x, l[j]? = some x := ⟨_, List.getElem?_eq_getElem (by have := HL.out.1; omega)⟩
      obtain ⟨b, off, hae, hb, hc⟩ := HL.out.at_ hx
      subst hae
      have HC := Lib.hid (HL.out)
      have HO := Lib.hid (HOK.out _ (List.mem_of_getElem? hx))
      have hbw : b < wr.heap.size := Nat.lt_of_lt_of_le hb HI.out.k.size
      have p0 := (HI.out.k.cell (p := ⟨b, off + j * 3 + 0, none⟩) hb (fun e => e)).trans (hc 0 _ rfl)
      have p1 := (HI.out.k.cell (p := ⟨b, off + j * 3 + 1, none⟩) hb (fun e => e)).trans (hc 1 _ rfl)
      have p2 := (HI.out.k.cell (p := ⟨b, off + j * 3 + 2, none⟩) hb (fun e => e)).trans (hc 2 _ rfl)
      rw [Nat.add_zero] at p0
      have HTS := Lib.hid (take_snoc hx)
      have HDS := Lib.hid (dis_snoc (l.take j) k)
      have HDL := Lib.hid (dis_le (l.take j))
      have hd30 : (dis (l.take j)).length ≤ 30 := by have := HDL.out; simp at this; omega
      clear hx hc
      have HKa := Lib.hid ((Kept.refl Nil wr).alloc (.cells #[.int .i64 k.1, .int .i64 k.2.1, .int .i64 k.2.2] 38))
      have HBx := Lib.hid (Blk.new wr 38 #[.int .i64 k.1, .int .i64 k.2.1, .int .i64 k.2.2])
      have HI5 := Lib.hid (HI.out.keptN HKa.out)
      obtain ⟨D, hD⟩ : ∃ D, dis (l.take j) = D := ⟨_, rfl⟩
      have HD := Lib.hid hD
      simp only [hD] at hd30 ⊢
      clear hD
      go_upto_region 8 with fail
      show Code.wp _ _ _ _ (wr.alloc (.cells #[.int .i64 k.1, .int .i64 k.2.1, .int .i64 k.2.2] 38))
      generalize wr.alloc (.cells #[.int .i64 k.1, .int .i64 k.2.1, .int .i64 k.2.2] 38) = w5 at *
      generalize wr.heap.size = b8 at *
      have hb5 : b < w5.heap.size := Nat.lt_of_lt_of_le hb HI5.out.k.size
      clear p0 p1 p2 hbw
      go_wp2_with fail
      go_loopw [9, 49] (fun q i wr' => ∃ t : Nat, t ≤ j ∧ i = .int .i64 t ∧ q = .bool (isIn k (l.take t)) ∧ Kept Nil w5 wr') (fun _ i _ => j - (intOf i).toNat)
      case atStart => exact ⟨0, Nat.zero_le _, rfl, rfl, Kept.refl _ _⟩
      case round =>
        obtain ⟨t, ht, rfl, rfl, hKi⟩ := hrel
        have HKi := Lib.hid hKi
        have h8 := HBx.out.kept hKi (fun e => e)
        have b0 := h8.cell 0
        have b1 := h8.cell 1
        have b2 := h8.cell 2
        simp only [List.getElem?_toArray, List.getElem?_cons_zero, List.getElem?_cons_succ] at b0 b1 b2
        have H8 := Lib.hid h8
        clear hKi h8
        by_cases hlti : t < j
        · obtain ⟨x, hx⟩ : ∃ x, l[t]? = some x := ⟨_, List.getElem?_eq_getElem (by have := HL.out.1; omega)⟩
          obtain ⟨b', off', hae, _, hc⟩ := HL.out.at_ hx
          cases hae
          have hkk := HI5.out.k.trans HKi.out (fun _ _ e => e)
          have p0 := (hkk.cell (p := ⟨b, off + t * 3 + 0, none⟩) hb (fun e => e)).trans (hc 0 _ rfl)
          have p1 := (hkk.cell (p := ⟨b, off + t * 3 + 1, none⟩) hb (fun e => e)).trans (hc 1 _ rfl)
          have p2 := (hkk.cell (p := ⟨b, off + t * 3 + 2, none⟩) hb (fun e => e)).trans (hc 2 _ rfl)
          rw [Nat.add_zero] at p0
          have HTS2 := Lib.hid (take_snoc hx)
          have HSn := Lib.hid (isIn_snoc (l := l.take t) (x := k) (y := x))
          have heq := fun W : World => eqT k x W
          have hlt2 : b < wr.heap.size := Nat.lt_of_lt_of_le hb hkk.size
          have hbk : b8 < wr.heap.size := World.block_lt_of_cell? wr _ b0
          have BY := Lib.hid ((Kept.refl Nil wr).alloc (.cells #[.int .i64 x.1, .int .i64 x.2.1, .int .i64 x.2.2] 38))
          obtain ⟨q, hq⟩ : ∃ q, isIn k (l.take t) = q := ⟨_, rfl⟩
          simp only [hq] at HSn ⊢
          have hxk : ∃ r : Bool, decide (k = x) = r := ⟨_, rfl⟩
          obtain ⟨r, hr⟩ := hxk
          simp only [hr] at heq HSn
          clear hx hc hkk hq hr
          cases q
          · go_wp2_with fail
            go_roundw
            case rel => exact ⟨t + 1, hlti, by go_num, by rw [HTS2.out, HSn.out]; rfl, HKi.out.trans BY.out (fun _ _ e => e)⟩
            case measure => simp [intOf]; omega
          · go_wp2_with fail
            go_roundw
            case rel => exact ⟨t + 1, hlti, by go_num, by rw [HTS2.out, HSn.out]; rfl, HKi.out.trans BY.out (fun _ _ e => e)⟩
            case measure => simp [intOf]; omega
        · obtain rfl : t = j := by omega
          have HI6 := Lib.hid (HI5.out.keptN HKi.out)
          have CO := Lib.hid (open_q HI6.out.bt (by omega) HI6.out.k.size HO.out)
          have hDt : isIn k (dis (l.take t)) = isIn k (l.take t) := isIn_dis
          rw [hDt] at CO
          have HSn := HDS.out
          rw [hDt] at HSn
          have HSn2 := Lib.hid HSn
          have HOp := Lib.hid (show opn (dis (l.take t)) k = dis (l.take (t + 1)) by rw [HTS.out, HSn, ← hDt]; rfl)
          rw [HOp.out] at CO
          rw [← HTS.out] at HSn2
          have hlen : (dis (l.take (t + 1))).length = D.length + (if isIn k (l.take t) then 0 else 1) := by
            rw [HSn2.out, HD.out]; split <;> simp
          obtain ⟨q, hq⟩ : ∃ q, isIn k (l.take t) = q := ⟨_, rfl⟩
          simp only [hq] at CO hlen ⊢
          generalize D.length = d at *
          have HLn := Lib.hid hlen
          clear HSn hDt hq hlen
          cases q
          · go_wp2_with fail
            refine CO.out.mono ?_
            rintro e w6 ⟨rfl, g⟩
            have HG := Lib.hid (HI6.out.call g)
            clear g CO
            go_wp2_with fail
            go_roundw
            case rel => exact ⟨t + 1, by omega, by go_num, by rw [HLn.out]; go_num, HG.out⟩
            case measure => simp [intOf]; omega
          · go_wp2_with fail
            refine CO.out.mono ?_
            rintro e w6 ⟨rfl, g⟩
            have HG := Lib.hid (HI6.out.call g)
            clear g CO
            go_wp2_with fail
            go_roundw
            case rel => exact ⟨t + 1, by omega, by go_num, by rw [HLn.out]; rfl, HG.out⟩
            case measure => simp [intOf]; omega
    · obtain rfl : j = n := by omega
      have HI0 := HI.out
      rw [List.take_of_length_le (by have := HL.out.1; omega)] at HI0 ⊢
      have HJ := Lib.hid HI0
      have hd30 : (dis l).length ≤ 30 := by have := dis_le l; have := HL.out.1; omega
      obtain ⟨d, hd⟩ : ∃ d, (dis l).length = d := ⟨_, rfl⟩
      have HD := Lib.hid hd
      simp only [hd] at hd30 ⊢
      clear HI0 HI hd hlt
      rename World => w2
      go_wp2_with fail
      go_loopw [12, 72] (fun c i wr => ∃ (i2 : Nat) (Ps : List (T3 × ByteArray)), i2 ≤ n2 ∧ i = .int .i64 i2 ∧ c = .int .i64 ((dis (l2.take i2)).length : Nat) ∧ LQ w wr pb (dis l) Ps (j + j * i2) ∧ PR (dis l) (dis (l2.take i2)) Ps) (fun _ i _ => n2 - (intOf i).toNat)
      case atStart => exact ⟨0, [], Nat.zero_le _, rfl, rfl, by simpa using HJ.out, PR.zero _⟩
      case round =>
        obtain ⟨i2, Ps, hi2, rfl, rfl, hI, hPR⟩ := hrel
        have HI5 := Lib.hid hI
        have HPR := Lib.hid hPR
        have HDL2 := Lib.hid (dis_le (l2.take i2))
        have hv30 : (dis (l2.take i2)).length ≤ 30 := by have := HDL2.out; simp at this; omega
        clear hI hPR
        by_cases hlt : i2 < n2
        · obtain ⟨y, hx⟩ : ∃ x, l2[i2]? = some x := ⟨_, List.getElem?_eq_getElem (by have := HL2.out.1; omega)⟩
          obtain ⟨b, off, hae, hb, hc⟩ := HL2.out.at_ hx
          subst hae
          have HO := Lib.hid (HOK2.out _ (List.mem_of_getElem? hx))
          have hbw : b < wr.heap.size := Nat.lt_of_lt_of_le hb HI5.out.k.size
          have p0 := (HI5.out.k.cell (p := ⟨b, off + i2 * 1 + 0, none⟩) hb (fun e => e)).trans (hc 0 _ rfl)
          rw [Nat.add_zero, Nat.mul_one] at p0
          have HTS2 := Lib.hid (take_snoc hx)
          have hlen : (dis (l2.take (i2 + 1))).length = (dis (l2.take i2)).length + (if isIn y (l2.take i2) then 0 else 1) := by
            rw [HTS2.out, dis_snoc, isIn_dis]; split <;> simp
          have HLn0 := Lib.hid hlen
          clear hx hc hlen
          go_wp2_with fail
          go_loopw [15, 81] (fun q i wr' => ∃ t : Nat, t ≤ i2 ∧ i = .int .i64 t ∧ q = .bool (isIn y (l2.take t)) ∧ wr' = wr) (fun _ i _ => i2 - (intOf i).toNat)
          case atStart => exact ⟨0, Nat.zero_le _, rfl, rfl, rfl⟩
          case round =>
            rename World => wq
            obtain ⟨t, ht, rfl, rfl, rfl⟩ := hrel
            by_cases hlti : t < i2
            · obtain ⟨x, hx⟩ : ∃ x, l2[t]? = some x := ⟨_, List.getElem?_eq_getElem (by have := HL2.out.1; omega)⟩
              obtain ⟨b', off', hae, _, hc⟩ := HL2.out.at_ hx
              cases hae
              have p1 := (HI5.out.k.cell (p := ⟨b, off + t * 1 + 0, none⟩) hb (fun e => e)).trans (hc 0 _ rfl)
              rw [Nat.add_zero, Nat.mul_one] at p1
              have HTS3 := Lib.hid (take_snoc hx)
              have HSn := Lib.hid (isIn_snoc (l := l2.take t) (x := y) (y := x))
              obtain ⟨q, hq⟩ : ∃ q, isIn y (l2.take t) = q := ⟨_, rfl⟩
              simp only [hq] at HSn ⊢
              have hyx : (y.toList == x.toList) = decide (y = x) := by
                by_cases e : y = x
                · rw [decide_eq_true e, str_eq e]
                · rw [decide_eq_false e, str_ne e]
              obtain ⟨r, hr⟩ : ∃ r : Bool, decide (y = x) = r := ⟨_, rfl⟩
              simp only [hr] at hyx HSn
              clear hx hc hq hr
              cases q
              · go_wp2_with fail
                go_roundw
                case rel => exact ⟨t + 1, hlti, by go_num, by rw [HTS3.out, HSn.out]; rfl, trivial⟩
                case measure => simp [intOf]; omega
              · go_wp2_with fail
                go_roundw
                case rel => exact ⟨t + 1, hlti, by go_num, by rw [HTS3.out, HSn.out]; rfl, trivial⟩
                case measure => simp [intOf]; omega
            · obtain rfl : t = i2 := by omega
              have HDQ : Hid ((dis (l2.take (t + 1))).length = (dis (l2.take t)).length + (if isIn y (l2.take t) then 0 else 1)) := HLn0
              have HLn := HDQ
              clear HLn0 HDQ p0
              obtain ⟨q, hq⟩ : ∃ q, isIn y (l2.take t) = q := ⟨_, rfl⟩
              simp only [hq] at HLn ⊢
              obtain ⟨mv, hmv⟩ : ∃ mv, (dis (l2.take t)).length = mv := ⟨_, rfl⟩
              simp only [hmv] at HLn hv30 ⊢
              clear hq hmv
              cases q
              · go_wp2_with fail
                go_loopw [98] (fun i wr' => ∃ (u : Nat) (Ps2 : List (T3 × ByteArray)), u ≤ j ∧ i = .int .i64 u ∧ LQ w wr' pb (dis l) Ps2 (j + j * t + u) ∧ PI (dis l) (dis (l2.take t)) y (l.take u) Ps2) (fun i _ => j - (intOf i).toNat)
                case atStart => exact ⟨0, Ps, Nat.zero_le _, rfl, HI5.out, HPR.out.start y⟩
                case round =>
                  obtain ⟨u, Ps2, ht, rfl, hI, hPI⟩ := hrel
                  have HI6 := Lib.hid hI
                  have HPI := Lib.hid hPI
                  clear hI hPI
                  by_cases hlti : u < j
                  · obtain ⟨k, hx⟩ : ∃ x, l[u]? = some x := ⟨_, List.getElem?_eq_getElem (by have := HL.out.1; omega)⟩
                    obtain ⟨b, off, rfl, hb, hc⟩ := HL.out.at_ hx
                    have p0 := (HI6.out.k.cell (p := ⟨b, off + u * 3 + 0, none⟩) hb (fun e => e)).trans (hc 0 _ rfl)
                    have p1 := (HI6.out.k.cell (p := ⟨b, off + u * 3 + 1, none⟩) hb (fun e => e)).trans (hc 1 _ rfl)
                    have p2 := (HI6.out.k.cell (p := ⟨b, off + u * 3 + 2, none⟩) hb (fun e => e)).trans (hc 2 _ rfl)
                    rw [Nat.add_zero] at p0
                    have hkl := List.mem_of_getElem? hx
                    have HTS := Lib.hid (take_snoc hx)
                    have HPI2 := Lib.hid (HPI.out.step (mem_dis.2 hkl))
                    have HKa := Lib.hid ((Kept.refl Nil wr).alloc (.cells #[.int .i64 k.1, .int .i64 k.2.1, .int .i64 k.2.2] 38))
                    have HBx := Lib.hid (Blk.new wr 38 #[.int .i64 k.1, .int .i64 k.2.1, .int .i64 k.2.2])
                    have HI7 := Lib.hid (HI6.out.keptN HKa.out)
                    have hnn : j + j * t + u ≤ 5000 := by
                      have : j * t ≤ 30 * 30 := Nat.mul_le_mul hn (by omega)
                      omega
                    have CB := Lib.hid (block_q (k := k) (v := y) HI7.out.bt hnn (HOK.out _ hkl) HO.out)
                    clear hx hc hkl hnn
                    go_upto_region 34 with fail
                    show Code.wp _ _ _ _ (wr.alloc (.cells #[.int .i64 k.1, .int .i64 k.2.1, .int .i64 k.2.2] 38))
                    generalize wr.alloc (.cells #[.int .i64 k.1, .int .i64 k.2.1, .int .i64 k.2.2] 38) = w7 at *
                    generalize wr.heap.size = b19 at *
                    have b0 := HBx.out.cell 0
                    have b1 := HBx.out.cell 1
                    have b2 := HBx.out.cell 2
                    simp only [List.getElem?_toArray, List.getElem?_cons_zero, List.getElem?_cons_succ] at b0 b1 b2
                    clear p0 p1 p2 hb
                    go_wp2_with fail
                    refine CB.out.mono ?_
                    rintro e w8 ⟨rfl, g⟩
                    have HG := Lib.hid (HI7.out.call g)
                    clear g CB b0 b1 b2
                    go_wp2_with fail
                    go_roundw
                    case rel => exact ⟨u + 1, _, hlti, by go_num, by have := HG.out; rwa [Nat.add_assoc] at this, by rw [HTS.out]; exact HPI2.out⟩
                    case measure => simp [intOf]; omega
                  · obtain rfl : u = j := by omega
                    have HPI2 := HPI.out
                    rw [show l.take u = l from List.take_of_length_le (by have := HL.out.1; omega)] at HPI2
                    have HPR2 := Lib.hid HPI2.done
                    have hV : (if isIn y (dis (l2.take t)) then dis (l2.take t) else dis (l2.take t) ++ [y]) = dis (l2.take (t + 1)) := by rw [HTS2.out, dis_snoc]
                    rw [hV] at HPR2
                    clear HPI2 hV
                    go_wp2_with fail
                    go_roundw
                    case rel => exact ⟨t + 1, _, by omega, by go_num, by rw [HLn.out]; go_num, by have := HI6.out; rwa [Nat.add_assoc, ← Nat.mul_succ] at this, HPR2.out⟩
                    case measure => simp [intOf]; omega
              · go_wp2_with fail
                go_loopw [98] (fun i wr' => ∃ (u : Nat) (Ps2 : List (T3 × ByteArray)), u ≤ j ∧ i = .int .i64 u ∧ LQ w wr' pb (dis l) Ps2 (j + j * t + u) ∧ PI (dis l) (dis (l2.take t)) y (l.take u) Ps2) (fun i _ => j - (intOf i).toNat)
                case atStart => exact ⟨0, Ps, Nat.zero_le _, rfl, HI5.out, HPR.out.start y⟩
                case round =>
                  obtain ⟨u, Ps2, ht, rfl, hI, hPI⟩ := hrel
                  have HI6 := Lib.hid hI
                  have HPI := Lib.hid hPI
                  clear hI hPI
                  by_cases hlti : u < j
                  · obtain ⟨k, hx⟩ : ∃ x, l[u]? = some x := ⟨_, List.getElem?_eq_getElem (by have := HL.out.1; omega)⟩
                    obtain ⟨b, off, rfl, hb, hc⟩ := HL.out.at_ hx
                    have p0 := (HI6.out.k.cell (p := ⟨b, off + u * 3 + 0, none⟩) hb (fun e => e)).trans (hc 0 _ rfl)
                    have p1 := (HI6.out.k.cell (p := ⟨b, off + u * 3 + 1, none⟩) hb (fun e => e)).trans (hc 1 _ rfl)
                    have p2 := (HI6.out.k.cell (p := ⟨b, off + u * 3 + 2, none⟩) hb (fun e => e)).trans (hc 2 _ rfl)
                    rw [Nat.add_zero] at p0
                    have hkl := List.mem_of_getElem? hx
                    have HTS := Lib.hid (take_snoc hx)
                    have HPI2 := Lib.hid (HPI.out.step (mem_dis.2 hkl))
                    have HKa := Lib.hid ((Kept.refl Nil wr).alloc (.cells #[.int .i64 k.1, .int .i64 k.2.1, .int .i64 k.2.2] 38))
                    have HBx := Lib.hid (Blk.new wr 38 #[.int .i64 k.1, .int .i64 k.2.1, .int .i64 k.2.2])
                    have HI7 := Lib.hid (HI6.out.keptN HKa.out)
                    have hnn : j + j * t + u ≤ 5000 := by
                      have : j * t ≤ 30 * 30 := Nat.mul_le_mul hn (by omega)
                      omega
                    have CB := Lib.hid (block_q (k := k) (v := y) HI7.out.bt hnn (HOK.out _ hkl) HO.out)
                    clear hx hc hkl hnn
                    go_upto_region 34 with fail
                    show Code.wp _ _ _ _ (wr.alloc (.cells #[.int .i64 k.1, .int .i64 k.2.1, .int .i64 k.2.2] 38))
                    generalize wr.alloc (.cells #[.int .i64 k.1, .int .i64 k.2.1, .int .i64 k.2.2] 38) = w7 at *
                    generalize wr.heap.size = b19 at *
                    have b0 := HBx.out.cell 0
                    have b1 := HBx.out.cell 1
                    have b2 := HBx.out.cell 2
                    simp only [List.getElem?_toArray, List.getElem?_cons_zero, List.getElem?_cons_succ] at b0 b1 b2
                    clear p0 p1 p2 hb
                    go_wp2_with fail
                    refine CB.out.mono ?_
                    rintro e w8 ⟨rfl, g⟩
                    have HG := Lib.hid (HI7.out.call g)
                    clear g CB b0 b1 b2
                    go_wp2_with fail
                    go_roundw
                    case rel => exact ⟨u + 1, _, hlti, by go_num, by have := HG.out; rwa [Nat.add_assoc] at this, by rw [HTS.out]; exact HPI2.out⟩
                    case measure => simp [intOf]; omega
                  · obtain rfl : u = j := by omega
                    have HPI2 := HPI.out
                    rw [show l.take u = l from List.take_of_length_le (by have := HL.out.1; omega)] at HPI2
                    have HPR2 := Lib.hid HPI2.done
                    have hV : (if isIn y (dis (l2.take t)) then dis (l2.take t) else dis (l2.take t) ++ [y]) = dis (l2.take (t + 1)) := by rw [HTS2.out, dis_snoc]
                    rw [hV] at HPR2
                    clear HPI2 hV
                    go_wp2_with fail
                    go_roundw
                    case rel => exact ⟨t + 1, _, by omega, by go_num, by rw [HLn.out]; rfl, by have := HI6.out; rwa [Nat.add_assoc, ← Nat.mul_succ] at this, HPR2.out⟩
                    case measure => simp [intOf]; omega
        · obtain rfl : i2 = n2 := by omega
          rw [List.take_of_length_le (by have := HL2.out.1; omega)] at HPR hv30 ⊢
          have CN := Lib.hid (len_q HI5.out.bt)
          have CP := Lib.hid (pairs_q HI5.out.bt)
          rw [HPR.out.len] at CP
          have hnn : j + j * i2 ≤ 5000 := by
            have : j * i2 ≤ 30 * 30 := Nat.mul_le_mul hn hn2
            omega
          obtain ⟨mv, hmv⟩ : ∃ mv, (dis l2).length = mv := ⟨_, rfl⟩
          simp only [hmv, HD.out] at CN CP hv30 ⊢
          have hmul : ((d * mv : Nat) : Int) = (d : Int) * (mv : Int) := by push_cast; rfl
          have hdm : d * mv ≤ 30 * 30 := Nat.mul_le_mul hd30 hv30
          rw [hmul] at CP
          have hb0 : (0 : Int) ≤ (d : Int) * (mv : Int) ∧ (d : Int) * (mv : Int) ≤ 900 := by rw [← hmul]; omega
          by_cases h0 : i2 = 0
          · subst h0
            clear hmul hdm hmv
            go_wp2_with fail
            refine CN.out.mono ?_
            rintro e w3 ⟨rfl, rfl⟩
            go_wp2_with fail
            refine CP.out.mono ?_
            rintro e w3 ⟨rfl, rfl⟩
            go_wp2_with fail
            refine (HA.out _).mono ?_
            rintro e w4 ⟨rfl, k4⟩
            go_wp2_with fail
            go_ret
            exact ⟨rfl, HI5.out.k.trans k4 (fun _ _ e => e)⟩
          · have hz : ((i2 : Int) == 0) = false := by simp; omega
            obtain ⟨y, hx⟩ : ∃ x, l2[0]? = some x := ⟨_, List.getElem?_eq_getElem (by have := HL2.out.1; omega)⟩
            obtain ⟨b, off, hae, hb, hc⟩ := HL2.out.at_ hx
            subst hae
            have hbw : b < wr.heap.size := Nat.lt_of_lt_of_le hb HI5.out.k.size
            have p0 := (HI5.out.k.cell (p := ⟨b, off + 0 * 1 + 0, none⟩) hb (fun e => e)).trans (hc 0 _ rfl)
            simp only [Nat.zero_mul, Nat.add_zero] at p0
            have CB := Lib.hid (by_q (v := y) HI5.out.bt hnn (HOK2.out _ (List.mem_of_getElem? hx)))
            rw [HPR.out.by_ (mem_dis.2 (List.mem_of_getElem? hx)), HD.out] at CB
            clear hmul hdm hmv hx hc
            go_wp2_with fail
            refine CN.out.mono ?_
            rintro e w3 ⟨rfl, rfl⟩
            go_wp2_with fail
            refine CP.out.mono ?_
            rintro e w3 ⟨rfl, rfl⟩
            go_wp2_with fail
            refine CB.out.mono ?_
            rintro e w4 ⟨a4, cp4, rfl, _, k4, _, _⟩
            have K4 := Lib.hid (HI5.out.k.trans k4 (fun _ _ e => e))
            clear k4 CB CP CN p0
            go_wp2_with fail
            refine (HA.out _).mono ?_
            rintro e w5 ⟨rfl, k5⟩
            go_wp2_with fail
            go_ret
            exact ⟨rfl, K4.out.trans k5 (fun _ _ e => e)⟩
end Go.Proofs.Ytodghgeghpbdlaa
