/- Whatever is called, ListTurns returns true, and writes nothing that was there. -/
import Derived.Test.YtpjfpmagmclldaaLSteps
namespace Go.Proofs.Ytpjfpmagmclldaa
set_option maxRecDepth 100000
open Go.RowKit Go.Maps

/-- How long a slice is. -/
def lenOf : Value → Nat
  | .slice _ n _ => n
  | _ => 0

/-- What stands at the head of each round: a list of at most so many values, all of it made since. -/
def Round (w wr : World) (p j : Nat) : Prop := ∃ m g row vals, LstS wr w.heap.size p m g row vals ∧ vals.length ≤ j ∧ row.length ≤ j ∧ Kept Nil w wr
theorem Round.grew {w wr w' : World} {p j : Nat} {m : Value} {row : List Nat} {vals : List ByteArray} (k : Kept Nil w wr) (h : GrewS wr w' w.heap.size p m row vals) (h1 : vals.length ≤ j) (h2 : row.length ≤ j) : Round w w' p j := by
  obtain ⟨m', g', hl, _, hk⟩ := h
  exact ⟨m', g', row, vals, hl, h1, h2, FoS.fresh k hk⟩
theorem befRow_le {row : List Nat} {k : Int} {n : Nat} : (befRow row k n).length ≤ row.length + 1 := by
  unfold befRow; split
  · rw [length_ins]; exact Nat.le_refl _
  · exact Nat.le_succ _
theorem befVals_le {row : List Nat} {vals : List ByteArray} {k : Int} {v : ByteArray} : (befVals row vals k v).length ≤ vals.length + 1 := by
  unfold befVals; split
  · simp
  · exact Nat.le_succ _

theorem nxI_zero {row : List Nat} : nxI row 0 = row[0]?.getD 0 := by
  have : nxI row 0 = nx (0 :: row) 0 := rfl
  rw [this, ← headD_nx]
  cases row <;> rfl
theorem nxI_at {row : List Nat} {i x : Nat} (hn : row.Nodup) (h0 : 0 ∉ row) (hx : row[i]? = some x) : nxI row (x : Int) = row[i + 1]?.getD 0 := by
  have : nxI row (x : Int) = nx (0 :: row) x := by unfold nxI; rw [if_neg (by omega)]; rfl
  rw [this, nx0_at hn h0 hx]
theorem pvI_zero {row : List Nat} (h0 : 0 ∉ row) : pvI row 0 = if row.length = 0 then 0 else row[row.length - 1]?.getD 0 := by
  have : pvI row 0 = bf 0 row 0 := by simp [pvI]
  rw [this, bf_out h0]
theorem pvI_at {row : List Nat} {i x : Nat} (hn : row.Nodup) (hx : row[i]? = some x) : pvI row (x : Int) = if i = 0 then 0 else row[i - 1]?.getD 0 := by
  have hm : x ∈ row := List.mem_of_getElem? hx
  have : pvI row (x : Int) = bf 0 row x := by
    unfold pvI
    rw [if_neg (by omega), if_pos (.inr (by simpa using hm))]; rfl
  rw [this, bf_at hn hx]

set_option maxHeartbeats 4000000 in
theorem listTurns_any (a : Option Addr) (len cap : Nat) (os : List OpV) (w : World) (h : In cO 3 w a len os) (hok : ∀ o ∈ os, okO o) (hml : len ≤ maxLen) :
    Calls Try.prog 6 #[.slice a len cap] w fun e w' => e = .returned (.bool true) ∧ Kept Nil w w' := by
  obtain ⟨hlen, hat⟩ := h
  have HLen := Lib.hid hlen
  have HOk := Lib.hid hok
  have HAt := Lib.hid hat
  unfold maxLen at hml
  clear hlen hok hat
  by_cases hbig : 60 < len
  · go_enter Try.func6, Try.ntmps6
    go_wp2_with fail
    refine (new_s _).mono ?_
    rintro e w1 ⟨rfl, t1, k1⟩
    have K1 := Lib.hid k1
    clear t1 k1
    go_wp2_with fail
    refine (awake_any _).mono ?_
    rintro e w2 ⟨rfl, k2⟩
    go_wp2_with fail
    go_ret
    exact ⟨rfl, K1.out.trans k2 (fun _ _ g => g)⟩
  · have hd : decide (60 < (len : Int)) = false := decide_eq_false (by omega)
    go_enter Try.func6, Try.ntmps6
    go_wp2_with fail
    refine (new_s _).mono ?_
    rintro e w1 ⟨rfl, t1, k1⟩
    have A1 := Lib.hid (show Round w w1 w.heap.size 0 from ⟨_, _, _, _, t1, Nat.le_refl _, Nat.le_refl _, k1⟩)
    clear t1 k1
    go_wp2_with fail
    go_loopw [25] (fun i wr => ∃ j : Nat, j ≤ len ∧ i = .int .i64 (j : Int) ∧ Round w wr w.heap.size j) (fun i _ => len - (intOf i).toNat)
    case atStart => exact ⟨0, Nat.zero_le _, rfl, A1.out⟩
    case round =>
      obtain ⟨j, hj, rfl, m, g, row, vals, hL, hv, hr, hk⟩ := hrel
      have HL := Lib.hid hL
      have HK := Lib.hid hk
      clear hL hk
      by_cases hlt : j < len
      · obtain ⟨o, ho⟩ : ∃ o, os[j]? = some o := ⟨os[j]'(by have := HLen.out; omega), by simp⟩
        have hoo := HOk.out o (List.mem_of_getElem? ho)
        rcases HAt.out with e | ⟨b, off, rfl, hb, hc⟩
        · omega
        have d0 : wr.cell? ⟨b, off + j * 3, none⟩ = some (Value.int .i64 o.k) := (HK.out.cell (p := ⟨b, off + j * 3 + 0, none⟩) hb (fun e => e)).trans (hc j o 0 _ ho rfl)
        have d1 : _ = some (Value.int .i64 o.h) := (HK.out.cell (p := ⟨b, off + j * 3 + 1, none⟩) hb (fun e => e)).trans (hc j o 1 _ ho rfl)
        have d2 : _ = some (Value.string o.v) := (HK.out.cell (p := ⟨b, off + j * 3 + 2, none⟩) hb (fun e => e)).trans (hc j o 2 _ ho rfl)
        have KA := Lib.hid ((HK.out).alloc (.cells #[.int .i64 o.k, .int .i64 o.h, .string o.v] 31))
        have HLA := Lib.hid (HL.out.keptN ((Kept.refl Nil wr).alloc (.cells #[.int .i64 o.k, .int .i64 o.h, .string o.v] 31)))
        have hw := hoo.2.1
        clear hc ho hoo
        by_cases h1 : o.k = 1
        · rw [h1] at d0 KA HLA
          clear h1
          go_wp2_with fail
          refine (push_s HLA.out (by omega) o.v).mono ?_
          rintro e w2 ⟨rfl, hg⟩
          have HR := Lib.hid (Round.grew (j := j + 1) KA.out hg (by simp; omega) (by simp; omega))
          clear hg
          go_wp2_with fail
          go_roundw
          case rel => exact ⟨j + 1, hlt, by go_num, HR.out⟩
          case measure => simp [intOf]; omega
        · have e1 : (o.k == 1) = false := by simp [h1]
          by_cases h2 : o.k = 2
          · rw [h2] at d0 KA HLA
            clear h1 h2 e1
            go_wp2_with fail
            refine (before_any HLA.out (by omega) hw o.v).mono ?_
            rintro e w2 ⟨rfl, hg⟩
            have HR := Lib.hid (Round.grew (j := j + 1) KA.out hg (Nat.le_trans befVals_le (by omega)) (Nat.le_trans befRow_le (by omega)))
            clear hg
            go_wp2_with fail
            go_roundw
            case rel => exact ⟨j + 1, hlt, by go_num, HR.out⟩
            case measure => simp [intOf]; omega
          · have e2 : (o.k == 2) = false := by simp [h2]
            by_cases h3 : o.k = 3
            · rw [h3] at d0 KA HLA
              clear h1 h2 h3 e1 e2
              go_wp2_with fail
              refine (remove_any HLA.out (by omega) hw).mono ?_
              rintro e w2 ⟨rfl, hl2, hk2⟩
              have HR := Lib.hid (show Round w w2 w.heap.size (j + 1) from ⟨_, _, _, _, hl2, by omega, Nat.le_trans rmI_le (by omega), FoS.fresh KA.out hk2⟩)
              clear hl2 hk2
              go_wp2_with fail
              go_roundw
              case rel => exact ⟨j + 1, hlt, by go_num, HR.out⟩
              case measure => simp [intOf]; omega
            · have e3 : (o.k == 3) = false := by simp [h3]
              have HR := Lib.hid (show Round w (wr.alloc (.cells #[.int .i64 o.k, .int .i64 o.h, .string o.v] 31)) w.heap.size (j + 1) from ⟨_, _, _, _, HLA.out, by omega, by omega, KA.out⟩)
              clear h1 h2 h3
              go_wp2_with fail
              go_roundw
              case rel => exact ⟨j + 1, hlt, by go_num, HR.out⟩
              case measure => simp [intOf]; omega
      · rename World => wo
        have hnd := HL.out.nodup
        have h0 := HL.out.zero
        have HND := Lib.hid hnd
        have HZ := Lib.hid h0
        have hv60 : row.length ≤ 60 := by omega
        have hv61 : vals.length ≤ 60 := by omega
        clear hnd h0 hv hr
        go_wp2_with fail
        refine (next_s HL.out (by omega) (k := 0) (by decide)).mono ?_
        rintro e w2 ⟨rfl, k2⟩
        rw [nxI_zero]
        have K2 := Lib.hid k2
        have HB := Lib.hid (Nat.le_trans HK.out.size k2.size)
        clear k2
        generalize hn : row.length = n at *
        have HN := Lib.hid hn
        clear hn
        go_wp2_with fail
        go_loopw [6, 7] (fun fv hv wf => ∃ (i : Nat) (fa : Option Addr) (fc : Nat), i ≤ n ∧ fv = .slice fa i fc ∧ wf.ownsRow wo.heap.size 3 1 (.slice fa i fc) i ((row.take i).map vN) ∧ hv = .int .i64 ((row[i]?.getD 0 : Nat) : Int) ∧ Kept Nil wo wf) (fun fv _ _ => n - lenOf fv)
        case atStart => exact ⟨0, none, 0, Nat.zero_le _, rfl, World.ownsRow_nil _ _ _ _, rfl, K2.out⟩
        case round =>
          obtain ⟨i, fa, fc, hi, rfl, ho, rfl, hk3⟩ := hrel
          have HO := Lib.hid ho
          have HK3 := Lib.hid hk3
          clear ho hk3
          by_cases hlt2 : i < n
          · obtain ⟨x, hx⟩ : ∃ x, row[i]? = some x := ⟨row[i]'(by have := HN.out; omega), by simp⟩
            rw [show row[i]?.getD 0 = x from by rw [hx]; rfl]
            have hx0 : x ≠ 0 := fun e => HZ.out (e ▸ List.mem_of_getElem? hx)
            have hne : ((x : Int) != 0) = true := by simp [hx0]
            have hle : decide (i ≤ 60) = true := decide_eq_true (by omega)
            have hle2 : decide ((i : Int) ≤ 60) = true := decide_eq_true (by omega)
            have hBw : wo.heap.size ≤ wr.heap.size := HK3.out.size
            obtain ⟨v', w', r1, o1, k1, l1⟩ := append_any elsI 26 (HO.out.alloc (.cells #[.int .i64 (x : Int)] 3)) (At.lit wr 3 #[.int .i64 (x : Int)] [.int .i64 (x : Int)] rfl) rfl (by intro y hy; simp at hy; subst hy; rfl) (by omega) (by simp; omega)
            obtain ⟨fa', fc', rfl⟩ := own_shape o1
            have htk : row.take (i + 1) = row.take i ++ [x] := by rw [List.take_add_one, hx]; rfl
            have HT := Lib.hid htk
            have HX := Lib.hid hx
            have K4 := Lib.hid (show Kept Nil wo w' from HK3.out.trans (((Kept.refl (fun b => wo.heap.size ≤ b) wr).alloc (.cells #[.int .i64 (x : Int)] 3)).trans (kept_from (HO.out.alloc (.cells #[.int .i64 (x : Int)] 3)) k1) (fun _ _ e => e)) (fun i hi e => absurd hi (Nat.not_lt.2 e)))
            have O1 := Lib.hid o1
            clear hx hx0 htk k1 o1 l1
            go_wp2_with (at_builtin; refine wpList_append_run rfl (.tmp 64) (.tmp 66) 26 rfl _ _ rfl rfl r1 ?_)
            refine (next_s (HL.out.keptN K4.out) (by omega) (k := (x : Int)) (WalkArith.wf_i64 (by have := HL.out.range x (List.mem_of_getElem? HX.out); omega))).mono ?_
            rintro e w5 ⟨rfl, k5⟩
            rw [nxI_at HND.out HZ.out HX.out]
            have K5 := Lib.hid (K4.out.trans k5 (fun _ _ e => e))
            have O5 := Lib.hid (k5.row O1.out (fun _ _ e => e))
            clear k5
            go_wp2_with fail
            go_roundw
            case rel => exact ⟨i + 1, fa', fc', hlt2, rfl, by rw [HT.out]; simpa [vN] using O5.out, rfl, K5.out⟩
            case measure => simp [lenOf]; omega
          · have hin : i = n := by omega
            subst hin
            rw [show row[i]?.getD 0 = 0 from by rw [List.getElem?_eq_none (by have := HN.out; omega)]; rfl, show ((0 : Nat) : Int) = 0 from rfl]
            have hrow : row.take i = row := List.take_of_length_le (by have := HN.out; omega)
            rw [hrow] at HO
            have HNN := HN.out
            clear HN
            subst HNN
            obtain ⟨fa0, fc0, ef, hf1, hf2, hfat⟩ := (RefL.rowAt (v := .slice none 0 0) (vals := []) ⟨ownsRow_low HO.out, World.ownsRow_nil _ _ _ _⟩)
            simp at ef
            obtain ⟨rfl, rfl⟩ := ef
            have HF := Lib.hid hfat
            have HM := Lib.hid HK3.out
            clear hfat hrow hlt2
            rename World => wm
            unfold maxLen at hf2
            generalize hn : row.length = n at *
            have HN := Lib.hid hn
            clear hn
            go_wp2_with fail
            go_loopw [8, 70] (fun hv iv wf => ∃ i : Nat, i ≤ n ∧ iv = .int .i64 (i : Int) ∧ hv = .int .i64 ((if i = 0 then 0 else row[n - i]?.getD 0 : Nat) : Int) ∧ Kept Nil wm wf) (fun _ iv _ => n - (intOf iv).toNat)
            case atStart => exact ⟨0, Nat.zero_le _, rfl, rfl, Kept.refl _ _⟩
            case round =>
              obtain ⟨i, hi, rfl, rfl, hk6⟩ := hrel
              have HK6 := Lib.hid hk6
              clear hk6
              by_cases hlt3 : i < n
              · obtain ⟨k, hk⟩ : ∃ k, k = n - 1 - i := ⟨_, rfl⟩
                obtain ⟨x, hx⟩ : ∃ x, row[k]? = some x := ⟨row[k]'(by have := HN.out; omega), by simp⟩
                have hpv : pvI row ((if i = 0 then 0 else row[n - i]?.getD 0 : Nat) : Int) = x := by
                  by_cases h0 : i = 0
                  · rw [if_pos h0]
                    show pvI row 0 = x
                    rw [pvI_zero HZ.out, if_neg (by have := HN.out; omega), HN.out, show n - 1 = k from by omega, hx]; rfl
                  · rw [if_neg h0]
                    obtain ⟨y, hy⟩ : ∃ y, row[n - i]? = some y := ⟨row[n - i]'(by have := HN.out; omega), by simp⟩
                    rw [hy]
                    show pvI row (y : Int) = x
                    rw [pvI_at HND.out hy, if_neg (by omega), show n - i - 1 = k from by omega, hx]; rfl
                have hwf : (Lit.int .i64 ((if i = 0 then 0 else row[n - i]?.getD 0 : Nat) : Int)).wf = true := WalkArith.wf_i64 (by
                  by_cases h0 : i = 0
                  · rw [if_pos h0]; omega
                  · rw [if_neg h0]
                    obtain ⟨y, hy⟩ : ∃ y, row[n - i]? = some y := ⟨row[n - i]'(by have := HN.out; omega), by simp⟩
                    have := HL.out.range y (List.mem_of_getElem? hy)
                    rw [hy]
                    simp only [Option.getD_some]; omega)
                rcases HF.out with e | ⟨fb, rfl, hat⟩
                · rw [e] at hx; simp at hx
                have hfb := World.block_lt_of_cell? _ _ (hat k x hx)
                have hcell : ∀ W, Kept Nil wm W → W.cell? ⟨fb, k, none⟩ = some (.int .i64 (x : Int)) := fun W kk => (kk.cell (p := ⟨fb, k, none⟩) hfb (fun e => e)).trans (hat k x hx)
                have HC := Lib.hid hcell
                have HPV := Lib.hid hpv
                have HX := Lib.hid hx
                have hb1 : (n : Int) - 1 - (i : Int) = (k : Int) := by omega
                have hw1 : IntKind.i64.wrap (k : Int) = (k : Int) := by rw [IntKind.wrap_i64]; omega
                have hkn : k < n := by omega
                have h0k : (0 : Int) ≤ (k : Int) := by omega
                clear hat hx hpv hcell hk
                generalize hh : (if i = 0 then 0 else row[n - i]?.getD 0 : Nat) = hn at *
                clear hh
                go_wp2_with fail
                refine (prev_s (HL.out.keptN (HM.out.trans HK6.out (fun _ _ e => e))) (by omega) hwf).mono ?_
                rintro e w7 ⟨rfl, k7⟩
                rw [HPV.out]
                have K7 := Lib.hid (HK6.out.trans k7 (fun _ _ e => e))
                have hcell := HC.out w7 K7.out
                clear k7 hwf
                go_wp2_with fail
                go_roundw
                case rel => exact ⟨i + 1, hlt3, by go_num, by rw [if_neg (by omega), show n - (i + 1) = k from by omega, HX.out]; rfl, K7.out⟩
                case measure => simp [intOf]; omega
              · have hin : i = n := by omega
                subst hin
                have HM2 := Lib.hid (HK.out.trans (HM.out.trans HK6.out (fun _ _ e => e)) (fun _ _ e => e))
                have hL6 := Lib.hid (HL.out.keptN (HM.out.trans HK6.out (fun _ _ e => e)))
                by_cases hz : i = 0
                · subst hz
                  clear hlt3
                  go_wp2_with fail
                  refine (len_s hL6.out).mono ?_
                  rintro e w7 ⟨rfl, rfl⟩
                  rw [HN.out]
                  go_wp2_with fail
                  refine (awake_any _).mono ?_
                  rintro e w8 ⟨rfl, k8⟩
                  go_wp2_with fail
                  go_ret
                  exact ⟨rfl, HM2.out.trans k8 (fun _ _ e => e)⟩
                · obtain ⟨y, hy⟩ : ∃ y, row[0]? = some y := ⟨row[0]'(by have := HN.out; omega), by simp⟩
                  rw [if_neg hz, show i - i = 0 from by omega, show row[0]?.getD 0 = y from by rw [hy]; rfl]
                  have hpy : pvI row (y : Int) = 0 := by rw [pvI_at HND.out hy]; rfl
                  have HPY := Lib.hid hpy
                  have hwf : (Lit.int .i64 (y : Int)).wf = true := WalkArith.wf_i64 (by have := HL.out.range y (List.mem_of_getElem? hy); omega)
                  have hi0 : ((i : Int) == 0) = false := by simp [hz]
                  clear hlt3 hy hpy
                  go_wp2_with fail
                  refine (prev_s hL6.out (by omega) hwf).mono ?_
                  rintro e w7 ⟨rfl, k7⟩
                  rw [HPY.out]
                  have K7 := Lib.hid (HM2.out.trans k7 (fun _ _ e => e))
                  have hL7 := Lib.hid (hL6.out.keptN k7)
                  clear k7 hwf
                  go_wp2_with fail
                  refine (len_s hL7.out).mono ?_
                  rintro e w8 ⟨rfl, rfl⟩
                  rw [HN.out]
                  go_wp2_with fail
                  refine (awake_any _).mono ?_
                  rintro e w9 ⟨rfl, k9⟩
                  go_wp2_with fail
                  go_ret
                  exact ⟨rfl, K7.out.trans k9 (fun _ _ e => e)⟩
end Go.Proofs.Ytpjfpmagmclldaa
