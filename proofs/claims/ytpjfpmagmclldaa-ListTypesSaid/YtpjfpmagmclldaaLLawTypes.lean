/- Whatever the numbers and strings, ListTypes returns true, and writes nothing that was there. -/
import Derived.Test.YtpjfpmagmclldaaLAwake
import Derived.Test.YtpjfpmagmclldaaLOpen
import Derived.Test.YtpjfpmagmclldaaLiE
import Derived.Test.YtpjfpmagmclldaaLaE
import Derived.ChangeKeysEq
import Derived.Laws.StructEq
namespace Go.Proofs.Ytpjfpmagmclldaa
set_option maxRecDepth 100000
open Go.RowKit Go.Maps

theorem infoStr : (Try.prog.info? 9).isSome = true := by kernel_rfl
theorem partStr (xs : Array Value) (i : Nat) (v : Value) (h : xs[i]? = some v) (w : World) : (part 9 xs i).run Try.prog w = .ok v w := by
  simp [part, isAgg, run_underlying Try.underlying9, h]
/-- A pair is like itself. -/
theorem eqA (a b : ByteArray) (w : World) : (Op.equalIn 10000 57 (.agg #[.string a, .string b]) (.agg #[.string a, .string b])).run Try.prog w = .ok true w := by
  obtain ⟨i, hi⟩ := Option.isSome_iff_exists.1 infoStr
  have e : ∀ x : ByteArray, (Op.equalIn 9999 9 (.string x) (.string x)).run Try.prog w = .ok true w := fun x => by
    rw [run_equalIn_string w 9998 9 x x Try.underlying9]; simp
  rw [run_equalIn_array w 9999 _ _ Try.underlying57 hi, cellsStr]
  show (Op.eqItems 9999 9 1 _ _ [0, 1]).run Try.prog w = _
  have p0 : ∀ x y : Value, (part 9 #[x, y] 0).run Try.prog w = .ok x w := fun x y => partStr #[x, y] 0 x rfl w
  have p1 : ∀ x y : Value, (part 9 #[x, y] 1).run Try.prog w = .ok y w := fun x y => partStr #[x, y] 1 y rfl w
  simp [Op.eqItems, p0, p1, e]

theorem FoI.fresh {w w1 w2 : World} {m : Value} (h : Kept Nil w w1) (k : Kept (FoI w1 w.heap.size m) w1 w2) : Kept Nil w w2 := h.trans k (fun _ hi hf => absurd hf.1 (Nat.not_le.2 hi))
theorem FoA.fresh {w w1 w2 : World} {m : Value} (h : Kept Nil w w1) (k : Kept (FoA w1 w.heap.size m) w1 w2) : Kept Nil w w2 := h.trans k (fun _ hi hf => absurd hf.1 (Nat.not_le.2 hi))
section
variable {w w' : World} {B p q : Nat} {m n : Value} {g f : Nat → Nat} {row rob : List Nat} {vals : List Int} {pairs : List (ByteArray × ByteArray)}
theorem two_apart (h : LstI w B p m g row vals) (h' : LstA w B q n f rob pairs) (hne : ∀ k, m = .map (some k) → n ≠ .map (some k)) (k : Nat) : FoI w B m k → ¬ FoA w B n k := by
  rintro ⟨_, e⟩ ⟨_, e'⟩
  rcases e with e | ⟨cs, fr, e⟩
  · rcases e' with e' | ⟨cs', fr', e'⟩
    · exact hne k e e'
    · rcases h.mp with ⟨e2, _⟩ | ⟨bm, D, e2, _, ho, _⟩
      · rw [e2] at e; cases e
      · rw [e2] at e
        cases e
        obtain ⟨es, c, hbb, _⟩ := ho
        rw [hbb] at e'
        rcases e' with e' | e' <;> cases e'
  · rcases e' with e' | ⟨cs', fr', e'⟩
    · rcases h'.mp with ⟨e2, _⟩ | ⟨bm, D, e2, _, ho, _⟩
      · rw [e2] at e'; cases e'
      · rw [e2] at e'
        cases e'
        obtain ⟨es, c, hbb, _⟩ := ho
        rw [hbb] at e
        rcases e with e | e <;> cases e
    · rcases e with e | e <;> (rw [e] at e'; rcases e' with e' | e' <;> simp at e')
end
def rw1 (i : Nat) : List Nat := List.range' 1 i
theorem rw1_step (i : Nat) : rw1 i ++ [i + 1] = rw1 (i + 1) := by
  unfold rw1
  rw [List.range'_1_concat, Nat.add_comm 1 i]
theorem rw1_mem {i x : Nat} : x ∈ rw1 i ↔ 1 ≤ x ∧ x < 1 + i := by simp [rw1]
def px (s : ByteArray) : ByteArray × ByteArray := (s, ⟨#[120]⟩)
/-- What stands at the head of each round: two lists, so far pushed to. -/
def RoundT (w wr : World) (pa pb i j : Nat) (xs : List Int) (ss : List ByteArray) : Prop :=
  ∃ ma ga mb gb, LstI wr w.heap.size pa ma ga (rw1 i) (xs.take i) ∧ LstA wr w.heap.size pb mb gb (rw1 j) ((ss.take j).map px) ∧ (∀ k, ma = .map (some k) → mb ≠ .map (some k)) ∧ Kept Nil w wr
theorem map_lt_i {w : World} {B p : Nat} {m : Value} {g : Nat → Nat} {row : List Nat} {vals : List Int} (h : LstI w B p m g row vals) {k : Nat} (e : m = .map (some k)) : k < w.heap.size := by
  rcases h.mp with ⟨e2, _⟩ | ⟨bm, D, e2, _, ho, _⟩
  · rw [e2] at e; cases e
  · rw [e2] at e; cases e; exact ho.lt
theorem map_lt_a {w : World} {B p : Nat} {m : Value} {g : Nat → Nat} {row : List Nat} {vals : List (ByteArray × ByteArray)} (h : LstA w B p m g row vals) {k : Nat} (e : m = .map (some k)) : k < w.heap.size := by
  rcases h.mp with ⟨e2, _⟩ | ⟨bm, D, e2, _, ho, _⟩
  · rw [e2] at e; cases e
  · rw [e2] at e; cases e; exact ho.lt
theorem RoundT.grewI {w wr w' : World} {pa pb i j : Nat} {xs : List Int} {ss : List ByteArray} {x : Int} {ma mb : Value} {ga gb : Nat → Nat} (h1 : LstI wr w.heap.size pa ma ga (rw1 i) (xs.take i)) (h2 : LstA wr w.heap.size pb mb gb (rw1 j) ((ss.take j).map px)) (hne : ∀ k, ma = .map (some k) → mb ≠ .map (some k)) (hk : Kept Nil w wr)
    (hx : xs[i]? = some x) (hg : GrewI wr w' w.heap.size pa ma (rw1 i ++ [(xs.take i).length + 1]) (xs.take i ++ [x])) : RoundT w w' pa pb (i + 1) j xs ss := by
  obtain ⟨m', g', hl, hm, hkk⟩ := hg
  have hi : i < xs.length := (List.getElem?_eq_some_iff.1 hx).1
  rw [show (xs.take i).length = i from by rw [List.length_take]; omega, rw1_step, show xs.take i ++ [x] = xs.take (i + 1) from by rw [List.take_add_one, hx]; rfl] at hl
  refine ⟨m', g', mb, gb, hl, h2.kept hkk (fun k hf hfi => two_apart h1 h2 hne k hfi hf), fun k e e' => ?_, FoI.fresh hk hkk⟩
  rcases hm with rfl | ⟨bm, rfl, hb⟩
  · exact hne k e e'
  · cases e
    have := map_lt_a h2 e'
    omega
theorem RoundT.grewA {w wr w' : World} {pa pb i j : Nat} {xs : List Int} {ss : List ByteArray} {x : ByteArray} {ma mb : Value} {ga gb : Nat → Nat} (h1 : LstI wr w.heap.size pa ma ga (rw1 i) (xs.take i)) (h2 : LstA wr w.heap.size pb mb gb (rw1 j) ((ss.take j).map px)) (hne : ∀ k, ma = .map (some k) → mb ≠ .map (some k)) (hk : Kept Nil w wr)
    (hx : ss[j]? = some x) (hg : GrewA wr w' w.heap.size pb mb (rw1 j ++ [((ss.take j).map px).length + 1]) ((ss.take j).map px ++ [px x])) : RoundT w w' pa pb i (j + 1) xs ss := by
  obtain ⟨m', g', hl, hm, hkk⟩ := hg
  have hi : j < ss.length := (List.getElem?_eq_some_iff.1 hx).1
  rw [show ((ss.take j).map px).length = j from by rw [List.length_map, List.length_take]; omega, rw1_step, show (ss.take j).map px ++ [px x] = (ss.take (j + 1)).map px from by rw [List.take_add_one, hx, List.map_append]; rfl] at hl
  refine ⟨ma, ga, m', g', h1.kept hkk (fun k hf hfa => two_apart h1 h2 hne k hf hfa), hl, fun k e e' => ?_, FoA.fresh hk hkk⟩
  rcases hm with rfl | ⟨bm, rfl, hb⟩
  · exact hne k e e'
  · cases e'
    have := map_lt_i h1 e
    omega
theorem RoundT.step {w wr w' : World} {pa pb i j : Nat} {xs : List Int} {ss : List ByteArray} (h : RoundT w wr pa pb i j xs ss) (k : Kept Nil wr w') : RoundT w w' pa pb i j xs ss := by
  obtain ⟨ma, ga, mb, gb, h1, h2, h3, h4⟩ := h
  exact ⟨ma, ga, mb, gb, h1.keptN k, h2.keptN k, h3, h4.trans k (fun _ _ e => e)⟩

set_option maxHeartbeats 4000000 in
theorem listTypes_any (a : Option Addr) (na ca : Nat) (xs : List Int) (b : Option Addr) (nb cb : Nat) (ss : List ByteArray) (w : World) (h1 : In cN 1 w a na xs) (hm1 : na ≤ maxLen) (h2 : In cT 1 w b nb ss) (_hs : ∀ s ∈ ss, s.size ≤ maxLen) (hm2 : nb ≤ maxLen) :
    Calls Try.prog 5 #[.slice a na ca, .slice b nb cb] w fun e w' => e = .returned (.bool true) ∧ Kept Nil w w' := by
  obtain ⟨hla, hata⟩ := h1
  obtain ⟨hlb, hatb⟩ := h2
  have HLA := Lib.hid hla
  have HLB := Lib.hid hlb
  have HTA := Lib.hid hata
  have HTB := Lib.hid hatb
  unfold maxLen at hm1 hm2
  clear hla hlb hata hatb
  by_cases hbig : 40 < na ∨ 40 < nb
  · by_cases hb1 : 40 < na
    · have hd : decide (40 < (na : Int)) = true := decide_eq_true (by omega)
      clear hbig
      go_enter Try.func5, Try.ntmps5
      go_wp2_with fail
      refine (awake_any _).mono ?_
      rintro e w2 ⟨rfl, k2⟩
      go_wp2_with fail
      go_ret
      exact ⟨rfl, k2⟩
    · have hb2 : 40 < nb := by omega
      have hd : decide (40 < (na : Int)) = false := decide_eq_false (by omega)
      have hd2 : decide (40 < (nb : Int)) = true := decide_eq_true (by omega)
      clear hbig
      go_enter Try.func5, Try.ntmps5
      go_wp2_with fail
      refine (awake_any _).mono ?_
      rintro e w2 ⟨rfl, k2⟩
      go_wp2_with fail
      go_ret
      exact ⟨rfl, k2⟩
  · have hd : decide (40 < (na : Int)) = false := decide_eq_false (by omega)
    have hd2 : decide (40 < (nb : Int)) = false := decide_eq_false (by omega)
    have hna : na ≤ 40 := by omega
    have hnb : nb ≤ 40 := by omega
    clear hbig
    go_enter Try.func5, Try.ntmps5
    go_wp2_with fail
    refine (new_i _).mono ?_
    rintro e w1 ⟨rfl, t1, k1⟩
    have T1 := Lib.hid t1
    have K1 := Lib.hid k1
    clear t1 k1
    go_wp2_with fail
    refine (new_a _).mono ?_
    rintro e w2 ⟨rfl, t2, k2⟩
    have HT := Lib.hid (show RoundT w w2 w.heap.size w1.heap.size 0 0 xs ss from ⟨_, _, _, _, T1.out.keptN k2, by
      have := t2
      refine ⟨Nat.le_trans K1.out.size this.base, this.here, this.nodup, this.range, this.cell, fun h hh => Nat.le_trans K1.out.size (this.low h hh), this.inj, .inl ⟨rfl, rfl⟩⟩, fun k e => (by cases e), K1.out.trans k2 (fun _ _ e => e)⟩)
    have HPB := Lib.hid K1.out.size
    clear t2 k2
    go_wp2_with fail
    generalize hpb : w1.heap.size = pb at *
    clear hpb
    go_loopw [38] (fun iv wf => ∃ i : Nat, i ≤ na ∧ iv = .int .i64 (i : Int) ∧ RoundT w wf w.heap.size pb i 0 xs ss) (fun iv _ => na - (intOf iv).toNat)
    case atStart => exact ⟨0, Nat.zero_le _, rfl, HT.out⟩
    case round =>
      obtain ⟨i, hi, rfl, hR⟩ := hrel
      have HR := Lib.hid hR
      clear hR
      by_cases hlt : i < na
      · obtain ⟨x, hx⟩ : ∃ x, xs[i]? = some x := ⟨xs[i]'(by have := HLA.out; omega), by simp⟩
        rcases HTA.out with e | ⟨g, off, rfl, hg, hc⟩
        · omega
        obtain ⟨ma, ga, mb, gb, r1, r2, r3, r4⟩ := HR.out
        have hcell : wr.cell? ⟨g, off + i, none⟩ = some (.int .i64 x) := by
          have := (r4.cell (p := ⟨g, off + i * 1 + 0, none⟩) hg (fun e => e)).trans (hc i x 0 _ hx rfl)
          simpa using this
        have R1 := Lib.hid r1
        have RG := Lib.hid (fun w' hgr => RoundT.grewI (w' := w') r1 r2 r3 r4 hx hgr)
        have hll : (xs.take i).length = i := by rw [List.length_take]; have := HLA.out; omega
        have HLL := Lib.hid hll
        clear hc r1 r2 r3 r4 hx hll
        go_wp2_with fail
        refine (push_i R1.out (by rw [HLL.out]; omega) x).mono ?_
        rintro e w5 ⟨rfl, hgr⟩
        rw [HLL.out]
        have HR5 := Lib.hid (RG.out w5 hgr)
        clear hgr
        go_wp2_with fail
        go_roundw
        case rel => exact ⟨i + 1, hlt, by go_num, HR5.out⟩
        case measure => simp [intOf]; omega
      · have hin : i = na := by omega
        subst hin
        rename World => wo
        clear hlt
        go_wp2_with fail
        go_loopw [52] (fun iv wf => ∃ j : Nat, j ≤ nb ∧ iv = .int .i64 (j : Int) ∧ RoundT w wf w.heap.size pb i j xs ss) (fun iv _ => nb - (intOf iv).toNat)
        case atStart => exact ⟨0, Nat.zero_le _, rfl, HR.out⟩
        case round =>
          obtain ⟨j, hj, rfl, hR⟩ := hrel
          have HR2 := Lib.hid hR
          clear hR
          by_cases hlt : j < nb
          · obtain ⟨x, hx⟩ : ∃ x, ss[j]? = some x := ⟨ss[j]'(by have := HLB.out; omega), by simp⟩
            rcases HTB.out with e | ⟨g, off, rfl, hg, hc⟩
            · omega
            obtain ⟨ma, ga, mb, gb, r1, r2, r3, r4⟩ := HR2.out
            have hcell : wr.cell? ⟨g, off + j, none⟩ = some (.string x) := by
              have := (r4.cell (p := ⟨g, off + j * 1 + 0, none⟩) hg (fun e => e)).trans (hc j x 0 _ hx rfl)
              simpa using this
            have R2 := Lib.hid r2
            have RG := Lib.hid (fun w' hgr => RoundT.grewA (w' := w') r1 r2 r3 r4 hx hgr)
            have hll : ((ss.take j).map px).length = j := by rw [List.length_map, List.length_take]; have := HLB.out; omega
            have HLL := Lib.hid hll
            clear hc r1 r2 r3 r4 hx hll
            go_wp2_with fail
            refine (push_a R2.out (by rw [HLL.out]; omega) (px x)).mono ?_
            rintro e w5 ⟨rfl, hgr⟩
            rw [HLL.out]
            have HR5 := Lib.hid (RG.out w5 hgr)
            clear hgr
            go_wp2_with fail
            go_roundw
            case rel => exact ⟨j + 1, hlt, by go_num, HR5.out⟩
            case measure => simp [intOf]; omega
          · have hin : j = nb := by omega
            subst hin
            obtain ⟨ma, ga, mb, gb, r1, r2, r3, r4⟩ := HR2.out
            rw [List.take_of_length_le (by have := HLA.out; omega)] at r1
            rw [List.take_of_length_le (by have := HLB.out; omega)] at r2
            have R1 := Lib.hid r1
            have R2 := Lib.hid r2
            have R3 := Lib.hid r3
            have R4 := Lib.hid r4
            rename World => wt
            clear hlt r1 r2 r3 r4
            go_wp2_with fail
            go_loopw [67] (fun iv wf => ∃ k : Nat, k ≤ i ∧ iv = .int .i64 (k : Int) ∧ Kept Nil wt wf) (fun iv _ => i - (intOf iv).toNat)
            case atStart => exact ⟨0, Nat.zero_le _, rfl, Kept.refl _ _⟩
            case round =>
              obtain ⟨k, hk, rfl, hkk⟩ := hrel
              have HK := Lib.hid hkk
              clear hkk
              by_cases hlt : k < i
              · obtain ⟨x, hx⟩ : ∃ x, xs[k]? = some x := ⟨xs[k]'(by have := HLA.out; omega), by simp⟩
                rcases HTA.out with e | ⟨g, off, rfl, hg, hc⟩
                · omega
                have hcell : wr.cell? ⟨g, off + k, none⟩ = some (.int .i64 x) := by
                  have := ((R4.out.trans HK.out (fun _ _ e => e)).cell (p := ⟨g, off + k * 1 + 0, none⟩) hg (fun e => e)).trans (hc k x 0 _ hx rfl)
                  simpa using this
                have HX := Lib.hid hx
                clear hc hx
                go_wp2_with fail
                refine (getH_i (R1.out.keptN HK.out) (by have := HLA.out; omega) (x := k + 1) (rw1_mem.2 (by omega)) (v := x) (by simpa using HX.out)).mono ?_
                rintro e w5 ⟨rfl, k5⟩
                have HK5 := Lib.hid (HK.out.trans k5 (fun _ _ e => e))
                clear k5
                go_wp2_with fail
                go_roundw
                case rel => exact ⟨k + 1, hlt, by go_num, HK5.out⟩
                case measure => simp [intOf]; omega
              · rename World => wu
                have HU := Lib.hid (R4.out.trans HK.out (fun _ _ e => e))
                have A1 := Lib.hid (R1.out.keptN HK.out)
                have A2 := Lib.hid (R2.out.keptN HK.out)
                have hki : i = k := by omega
                subst hki
                clear hlt
                go_wp2_with fail
                go_loopw [89] (fun iv wf => ∃ (k : Nat) (gb : Nat → Nat), k ≤ j ∧ iv = .int .i64 (k : Int) ∧ LstI wf w.heap.size w.heap.size ma ga (rw1 i) xs ∧ LstA wf w.heap.size pb mb gb (List.range' (k + 1) (j - k)) (ss.map px) ∧ Kept Nil w wf) (fun iv _ => j - (intOf iv).toNat)
                case atStart => exact ⟨0, gb, Nat.zero_le _, rfl, A1.out, A2.out, HU.out⟩
                case round =>
                  obtain ⟨k, gb, hk, rfl, hl1, hl2, hkk⟩ := hrel
                  have L1 := Lib.hid hl1
                  have L2 := Lib.hid hl2
                  have HK := Lib.hid hkk
                  clear hl1 hl2 hkk
                  by_cases hlt : k < j
                  · obtain ⟨x, hx⟩ : ∃ x, ss[k]? = some x := ⟨ss[k]'(by have := HLB.out; omega), by simp⟩
                    rcases HTB.out with e | ⟨g, off, rfl, hg, hc⟩
                    · omega
                    have hcell : wr.cell? ⟨g, off + k, none⟩ = some (.string x) := by
                      have := (HK.out.cell (p := ⟨g, off + k * 1 + 0, none⟩) hg (fun e => e)).trans (hc k x 0 _ hx rfl)
                      simpa using this
                    have hrow : List.range' (k + 1) (j - k) = (k + 1) :: List.range' (k + 2) (j - k - 1) := by
                      rw [show j - k = (j - k - 1) + 1 from by omega, List.range'_succ]; rfl
                    have hrm : rm (List.range' (k + 1) (j - k)) (k + 1) = List.range' (k + 1 + 1) (j - (k + 1)) := by
                      rw [hrow, rm_same, rm_none (by simp [List.mem_range']; omega), show j - (k + 1) = j - k - 1 from by omega]
                    have hmem : k + 1 ∈ List.range' (k + 1) (j - k) := by rw [hrow]; simp
                    obtain ⟨bm, rfl⟩ : ∃ bm, mb = .map (some bm) := by
                      rcases L2.out.mp with ⟨_, e⟩ | ⟨bm, _, e, _⟩
                      · rw [e] at hmem; cases hmem
                      · exact ⟨bm, e⟩
                    have CR := Lib.hid (removeH_a L2.out (by rw [List.length_map]; have := HLB.out; omega) hmem (v := px x) (by rw [List.getElem?_map, Nat.add_sub_cancel, hx]; rfl))
                    have HRM := Lib.hid hrm
                    have heq := fun W => eqA x ⟨#[120]⟩ W
                    clear hc hx hrow hrm hmem
                    go_wp2_with fail
                    refine CR.out.mono ?_
                    rintro e w5 ⟨rfl, hl5, hk5⟩
                    rw [HRM.out] at hl5
                    have L5 := Lib.hid (hl5.keptN ((Kept.refl Nil w5).alloc (.cells #[.string x, .string ⟨#[120]⟩] 57)))
                    have M5 := Lib.hid ((L1.out.kept hk5 (fun k hf hfa => two_apart L1.out L2.out R3.out k hf hfa)).keptN ((Kept.refl Nil w5).alloc (.cells #[.string x, .string ⟨#[120]⟩] 57)))
                    have K5 := Lib.hid ((FoA.fresh HK.out hk5).alloc (.cells #[.string x, .string ⟨#[120]⟩] 57))
                    have e1 : (px x).1 = x := rfl
                    have e2 : (px x).2 = ⟨#[120]⟩ := rfl
                    rw [e1, e2]
                    clear hl5 hk5 e1 e2
                    go_wp2_with fail
                    go_roundw
                    case rel => exact ⟨k + 1, gb, hlt, by go_num, M5.out, L5.out, K5.out⟩
                    case measure => simp [intOf]; omega
                  · have hkj : k = j := by omega
                    subst hkj
                    have hr0 : List.range' (k + 1) (k - k) = [] := by rw [Nat.sub_self]; rfl
                    rw [hr0] at L2
                    have hli : (rw1 i).length = i := by simp [rw1]
                    have HLI := Lib.hid hli
                    clear hr0 hlt hli
                    go_wp2_with fail
                    refine (len_i L1.out).mono ?_
                    rintro e w6 ⟨rfl, rfl⟩
                    rw [HLI.out]
                    go_wp2_with fail
                    refine (len_a L2.out).mono ?_
                    rintro e w7 ⟨rfl, rfl⟩
                    rw [show (([] : List Nat).length : Int) = 0 from rfl]
                    go_wp2_with fail
                    refine (next_a L2.out (by rw [List.length_map]; have := HLB.out; omega) (k := 0) (by decide)).mono ?_
                    rintro e w8 ⟨rfl, k8⟩
                    rw [show ((nxI [] 0 : Nat) : Int) = 0 from by decide]
                    have K8 := Lib.hid (HK.out.trans k8 (fun _ _ e => e))
                    clear k8
                    go_wp2_with fail
                    refine (awake_any _).mono ?_
                    rintro e w9 ⟨rfl, k9⟩
                    go_wp2_with fail
                    go_ret
                    exact ⟨rfl, K8.out.trans k9 (fun _ _ e => e)⟩
end Go.Proofs.Ytpjfpmagmclldaa
