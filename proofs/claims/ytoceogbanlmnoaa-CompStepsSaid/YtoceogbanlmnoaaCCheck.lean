/- Layer cond: the contract of Check, of the program. -/
import Derived.Test.YtoceogbanlmnoaaCEq
namespace Go.Proofs.Ytoceogbanlmnoaa
open Go.RowKit
set_option maxRecDepth 100000

def Hd.fine (h : Hd) : Bool := Go.Proofs.Ytoceogbanlmnoaa.fine h.x0 h.x1 h.x2 h.n0 h.n1 h.n2
def zeroH : Hd := ⟨0, false, false, false, 0, 0, 0⟩
mutual
/-- What is wrong with a condition at a depth. -/
def Sh.chk : Sh → Int → Int
  | .mk h subs, d => if 3 < d then 5 else if h.k = 3 then (if h.sameT zeroH = false then 4 else if subs.length = 0 then 2 else chkL subs (d + 1)) else if h.k = 1 ∨ h.k = 2 then (if h.fine = false then 4 else if 0 < subs.length then 4 else 0) else 3
def chkL : List Sh → Int → Int
  | [], _ => 0
  | s :: r, d => if s.chk d ≠ 0 then s.chk d else chkL r d
end
theorem chkL_drop {l : List Sh} {j : Nat} {x : Sh} (h : l[j]? = some x) (d : Int) : chkL (l.drop j) d = if x.chk d ≠ 0 then x.chk d else chkL (l.drop (j + 1)) d := by
  obtain ⟨hl, e⟩ := List.getElem?_eq_some_iff.1 h
  rw [List.drop_eq_getElem_cons hl, e]
  rfl

def termsT (h : Hd) (len : Nat) : Int := if h.fine = false then 4 else if 0 < len then 4 else 0
set_option maxHeartbeats 1000000 in
theorem checkTerms_any (k : Int) (x0 x1 x2 : Bool) (n0 n1 n2 : Int) (a : Option Addr) (len cap : Nat) (w : World) :
    Calls Try.prog 73 #[vA ⟨k, x0, x1, x2, n0, n1, n2⟩ (.slice a len cap)] w fun e w' => e = .returned (.int .i64 (termsT ⟨k, x0, x1, x2, n0, n1, n2⟩ len)) ∧ Kept Nil w w' := by
  obtain ⟨i0, i1, i2⟩ := idxL3 x0 x1 x2 n0 n1 n2
  have R0 := Lib.hid (fun W => termRight_any x0 n0 W)
  have R1 := Lib.hid (fun W => termRight_any x1 n1 W)
  have R2 := Lib.hid (fun W => termRight_any x2 n2 W)
  have HT : Hid (termsT ⟨k, x0, x1, x2, n0, n1, n2⟩ len = if (okTm x0 n0 && okTm x1 n1 && okTm x2 n2) = false then 4 else if 0 < len then 4 else 0) := Lib.hid rfl
  generalize hb0 : okTm x0 n0 = b0 at HT R0
  generalize hb1 : okTm x1 n1 = b1 at HT R1
  generalize hb2 : okTm x2 n2 = b2 at HT R2
  clear hb0 hb1 hb2
  have B0 := Lib.hid (Blk.new w 27 #[.int .i64 k, .bool x0, .int .i64 n0, .bool x1, .int .i64 n1, .bool x2, .int .i64 n2, .slice a len cap])
  have K0 := Lib.hid ((Kept.refl Nil w).alloc (.cells #[.int .i64 k, .bool x0, .int .i64 n0, .bool x1, .int .i64 n1, .bool x2, .int .i64 n2, .slice a len cap] 27))
  go_enter Try.func73, Try.ntmps73
  go_wp2_with fail
  go_loopw [7] (fun i wr => ((i = .int .i64 0) ∨ (i = .int .i64 1 ∧ b0 = true) ∨ (i = .int .i64 2 ∧ b0 = true ∧ b1 = true) ∨ (i = .int .i64 3 ∧ b0 = true ∧ b1 = true ∧ b2 = true)) ∧ Blk wr w.heap.size 27 #[.int .i64 k, .bool x0, .int .i64 n0, .bool x1, .int .i64 n1, .bool x2, .int .i64 n2, .slice a len cap] ∧ Kept Nil w wr) (fun i _ => (3 - intOf i).toNat)
  case atStart => exact ⟨.inl rfl, B0.out, K0.out⟩
  case round =>
    obtain ⟨hrel, hB, hK⟩ := hrel
    have HB := Lib.hid hB
    have HK := Lib.hid hK
    clear hB hK B0 K0
    rcases hrel with rfl | ⟨rfl, rfl⟩ | ⟨rfl, rfl, rfl⟩ | ⟨rfl, rfl, rfl, rfl⟩
    · go_wp2_with fail
      refine (R0.out _).mono ?_
      rintro e w2 ⟨rfl, k2⟩
      have KB := Lib.hid ((HB.out.alloc (.cells #[.bool x0, .int .i64 n0] 24)).kept k2 id)
      cases b0
      · go_wp2_with fail
        go_ret
        exact ⟨by rw [HT.out]; rfl, (HK.out.alloc _).trans k2 (fun _ _ g => g)⟩
      · go_wp2_with fail
        go_roundw
        case rel => exact ⟨by simp, KB.out, (HK.out.alloc _).trans k2 (fun _ _ g => g)⟩
        case measure => decide
    · go_wp2_with fail
      refine (R1.out _).mono ?_
      rintro e w2 ⟨rfl, k2⟩
      have KB := Lib.hid ((HB.out.alloc (.cells #[.bool x1, .int .i64 n1] 24)).kept k2 id)
      cases b1
      · go_wp2_with fail
        go_ret
        exact ⟨by rw [HT.out]; rfl, (HK.out.alloc _).trans k2 (fun _ _ g => g)⟩
      · go_wp2_with fail
        go_roundw
        case rel => exact ⟨by simp, KB.out, (HK.out.alloc _).trans k2 (fun _ _ g => g)⟩
        case measure => decide
    · go_wp2_with fail
      refine (R2.out _).mono ?_
      rintro e w2 ⟨rfl, k2⟩
      have KB := Lib.hid ((HB.out.alloc (.cells #[.bool x2, .int .i64 n2] 24)).kept k2 id)
      cases b2
      · go_wp2_with fail
        go_ret
        exact ⟨by rw [HT.out]; rfl, (HK.out.alloc _).trans k2 (fun _ _ g => g)⟩
      · go_wp2_with fail
        go_roundw
        case rel => exact ⟨by simp, KB.out, (HK.out.alloc _).trans k2 (fun _ _ g => g)⟩
        case measure => decide
    · have c7 := HB.out.cell 7
      simp at c7
      by_cases hl : 0 < len
      · go_wp2_with fail
        go_ret
        exact ⟨by rw [HT.out]; simp [hl], HK.out⟩
      · have hd : decide (0 < len) = false := decide_eq_false hl
        go_wp2_with fail
        go_ret
        exact ⟨by rw [HT.out]; simp [hl], HK.out⟩

/-- What IH says of a child. -/
abbrev CheckIH (subs : List Sh) : Prop := ∀ hd sb, Sh.mk hd sb ∈ subs → ∀ ok a cap w (d : Int), 1 ≤ d → d ≤ 4 → Holds cA w ok (.slice a sb.length cap) sb →
  Calls Try.prog 64 #[vA hd (.slice a sb.length cap), .int .i64 d] w fun e w' => e = .returned (.int .i64 ((Sh.mk hd sb).chk d)) ∧ Kept Nil w w'
def nccT (h : Hd) (subs : List Sh) (d : Int) : Int := if h.sameT zeroH = false then 4 else if subs.length = 0 then 2 else chkL subs (d + 1)
theorem builtZ : Try.prog.built 25 [] = some #[.bool false, .int .i64 0, .bool false, .int .i64 0, .bool false, .int .i64 0] := by kernel_rfl
set_option maxHeartbeats 1000000 in
theorem checkNcc_step (k : Int) (x0 x1 x2 : Bool) (n0 n1 n2 : Int) (subs : List Sh) (len : Nat) (HL : Hid (subs.length = len)) (hLen : len ≤ 5000) (IH : Hid (CheckIH subs))
    (ok : Nat → Nat → Prop) (a : Option Addr) (cap : Nat) (w : World) (HH : Hid (Holds cA w ok (.slice a len cap) subs)) (d : Int) (hd1 : 1 ≤ d) (hd2 : d ≤ 3) :
    Calls Try.prog 72 #[vA ⟨k, x0, x1, x2, n0, n1, n2⟩ (.slice a len cap), .int .i64 d] w fun e w' => e = .returned (.int .i64 (nccT ⟨k, x0, x1, x2, n0, n1, n2⟩ subs d)) ∧ Kept Nil w w' := by
  have hq : ∀ W, (Op.equalIn 10000 25 (.agg #[.bool x0, .int .i64 n0, .bool x1, .int .i64 n1, .bool x2, .int .i64 n2]) (.agg #[.bool false, .int .i64 0, .bool false, .int .i64 0, .bool false, .int .i64 0])).run Try.prog W = .ok ((⟨k, x0, x1, x2, n0, n1, n2⟩ : Hd).sameT zeroH) W := fun W => eqL ⟨k, x0, x1, x2, n0, n1, n2⟩ zeroH W
  have hbz := builtZ
  have HT : Hid (nccT ⟨k, x0, x1, x2, n0, n1, n2⟩ subs d = if (⟨k, x0, x1, x2, n0, n1, n2⟩ : Hd).sameT zeroH = false then 4 else if len = 0 then 2 else chkL subs (d + 1)) := Lib.hid (by rw [← HL.out]; rfl)
  generalize hz : (⟨k, x0, x1, x2, n0, n1, n2⟩ : Hd).sameT zeroH = z at hq HT
  clear hz
  have B0 := Lib.hid (Blk.new w 27 #[.int .i64 k, .bool x0, .int .i64 n0, .bool x1, .int .i64 n1, .bool x2, .int .i64 n2, .slice a len cap])
  have K0 := Lib.hid ((Kept.refl Nil w).alloc (.cells #[.int .i64 k, .bool x0, .int .i64 n0, .bool x1, .int .i64 n1, .bool x2, .int .i64 n2, .slice a len cap] 27))
  cases z
  · go_enter Try.func72, Try.ntmps72
    go_wp2_with fail
    go_ret
    exact ⟨by rw [HT.out]; rfl, K0.out⟩
  · rcases Nat.eq_zero_or_pos len with rfl | hpos
    · go_enter Try.func72, Try.ntmps72
      go_wp2_with fail
      go_ret
      exact ⟨by rw [HT.out]; rfl, K0.out⟩
    · have h0 : len ≠ 0 := by omega
      have h0' : ((len : Int) == 0) = false := by simp; omega
      have HT2 : Hid (nccT ⟨k, x0, x1, x2, n0, n1, n2⟩ subs d = chkL subs (d + 1)) := Lib.hid (by rw [HT.out]; simp [h0])
      clear HT
      go_enter Try.func72, Try.ntmps72
      go_wp2_with fail
      go_loopw [19] (fun i wr => ∃ j : Nat, j ≤ len ∧ i = .int .i64 j ∧ chkL subs (d + 1) = chkL (subs.drop j) (d + 1) ∧ Kept Nil w wr) (fun i _ => len - (intOf i).toNat)
      case atStart => exact ⟨0, by omega, rfl, rfl, K0.out⟩
      case round =>
        obtain ⟨j, hj, rfl, hch, hK⟩ := hrel
        have HK := Lib.hid hK
        have HCh := Lib.hid hch
        clear hK K0 hch
        by_cases hlt : j < len
        · obtain ⟨⟨⟨k', x0', x1', x2', n0', n1', n2'⟩, sb⟩, hx⟩ : ∃ x, subs[j]? = some x := ⟨_, List.getElem?_eq_getElem (by have := HL.out; omega)⟩
          obtain ⟨b, o, a', cap', rfl, hok, hr, hs⟩ := (HH.out.keptN HK.out).at_ hx
          have HX := Lib.hid (IH.out _ _ (List.mem_of_getElem? hx))
          have HR := Lib.hid hr
          have HS := Lib.hid hs
          have HN := Lib.hid (chkL_drop hx (d + 1))
          clear hx hr hs hok
          have HX2 : Hid (∀ w, Holds cA w ok (.slice a' sb.length cap') sb → Calls Try.prog 64 #[vA ⟨k', x0', x1', x2', n0', n1', n2'⟩ (.slice a' sb.length cap'), .int .i64 (d + 1)] w fun e w' => e = .returned (.int .i64 ((Sh.mk ⟨k', x0', x1', x2', n0', n1', n2'⟩ sb).chk (d + 1))) ∧ Kept Nil w w') := Lib.hid fun w h => HX.out ok a' cap' w (d + 1) (by omega) (by omega) h
          clear HX
          generalize hv : (Sh.mk ⟨k', x0', x1', x2', n0', n1', n2'⟩ sb).chk (d + 1) = v at HX2 HN
          clear hv
          generalize sb.length = len' at HR HS HX2
          go_wp2_with ((with_reducible refine wpList_load_A rfl (.tmp 21) rfl _ _ rfl ⟨k', x0', x1', x2', n0', n1', n2'⟩ (.slice a' len' cap') ?_ ?_)
                       · exact HR.out)
          refine (HX2.out _ (HS.out.keptN ((Kept.refl Nil _).alloc _))).mono ?_
          rintro e w2 ⟨rfl, k2⟩
          by_cases hv : v = 0
          · subst hv
            go_wp2_with fail
            go_roundw
            case rel => exact ⟨j + 1, by omega, by go_num, by rw [HCh.out, HN.out]; simp, (HK.out.alloc _).trans k2 (fun _ _ g => g)⟩
            case measure => simp [intOf]; omega
          · have hv' : (v == 0) = false := by simpa using hv
            go_wp2_with fail
            go_ret
            exact ⟨by rw [HT2.out, HCh.out, HN.out]; simp [hv], (HK.out.alloc _).trans k2 (fun _ _ g => g)⟩
        · obtain rfl : j = len := by omega
          have HE : Hid (chkL (subs.drop j) (d + 1) = 0) := Lib.hid (by rw [← HL.out, List.drop_length]; rfl)
          go_wp2_with fail
          go_ret
          exact ⟨by rw [HT2.out, HCh.out, HE.out]; rfl, HK.out⟩
end Go.Proofs.Ytoceogbanlmnoaa
