/- Layer cond: the law's own Small: what it lets through has at most so many conditions in it. – Layer cond: the reference's Check. – Layer scope: the law's own Fine: what it tells of is right, and few. – Layer trie: the law TrieShares, wherever its lists lie. – What comes into layer trie's laws, opened: lists of conditions. -/
import Derived.Test.YtodghgeghpbdlaaA1
import Derived.Test.YtodghgeghpbdlaaA2
import Derived.Test.YtodghgeghpbdlaaA20
import Derived.Test.YtodghgeghpbdlaaA16
import Derived.Test.YtodghgeghpbdlaaA18
import Derived.Test.YtodghgeghpbdlaaA19
namespace Go.Proofs.Ytodghgeghpbdlaa
section
open Go.RowKit
set_option maxRecDepth 100000

def SmallEnd (M g m : Nat) (s : Sh) (w : World) (e : Ending) (w' : World) : Prop :=
  ∃ (b : Bool) (m' : Nat), e = .returned (.bool b) ∧ Blk w' g 3 #[.int .i64 m'] ∧ Kept (fun k => k = g) w w' ∧ (b = true → m' = m + s.count ∧ m' ≤ M)
abbrev SmallIH (M : Nat) (subs : List Sh) : Prop := ∀ hd sb, Sh.mk hd sb ∈ subs → ∀ ok a cap w (g m : Nat) (deep : Int), Holds cA w ok (.slice a sb.length cap) sb → (∀ b o, ok b o → b ≠ g) → Blk w g 3 #[.int .i64 m] → m ≤ M → -1 ≤ deep → deep ≤ 5 →
  Calls Try.prog 91 #[vA hd (.slice a sb.length cap), .int .i64 deep, .int .i64 M, .pointer (some ⟨g, 0, none⟩)] w (SmallEnd M g m (.mk hd sb) w)
set_option maxHeartbeats 1000000 in
theorem small_step (M : Nat) (hM : M ≤ 5000) (k : Int) (x0 x1 x2 : Bool) (n0 n1 n2 : Int) (subs : List Sh) (len : Nat) (HL : Hid (subs.length = len)) (IH : Hid (SmallIH M subs))
    (ok : Nat → Nat → Prop) (a : Option Addr) (cap : Nat) (w : World) (g m : Nat) (deep : Int) (HH : Hid (Holds cA w ok (.slice a len cap) subs)) (HG : Hid (∀ b o, ok b o → b ≠ g)) (HB : Hid (Blk w g 3 #[.int .i64 m])) (hm : m ≤ M) (hd1 : -1 ≤ deep) (hd2 : deep ≤ 5) :
    Calls Try.prog 91 #[vA ⟨k, x0, x1, x2, n0, n1, n2⟩ (.slice a len cap), .int .i64 deep, .int .i64 M, .pointer (some ⟨g, 0, none⟩)] w (SmallEnd M g m (.mk ⟨k, x0, x1, x2, n0, n1, n2⟩ subs) w) := by
  have hg : g < w.heap.size := HB.out.lt
  have c0 : w.cell? ⟨g, 0, none⟩ = some (.int .i64 m) := by rw [HB.out.cell 0]; rfl
  have f0 : w.frozen? ⟨g, 0, none⟩ = false := HB.out.frozen 0
  have K0 := Lib.hid (((Kept.refl (fun k => k = g) w).setCell ⟨g, 0, none⟩ (.inl rfl) (.int .i64 ((m + 1 : Nat) : Int))).alloc (.cells #[.int .i64 k, .bool x0, .int .i64 n0, .bool x1, .int .i64 n1, .bool x2, .int .i64 n2, .slice a len cap] 101))
  have B0 := Lib.hid ((HB.out.set_ 0 (.int .i64 ((m + 1 : Nat) : Int))).alloc (.cells #[.int .i64 k, .bool x0, .int .i64 n0, .bool x1, .int .i64 n1, .bool x2, .int .i64 n2, .slice a len cap] 101))
  have hne : g ≠ w.heap.size := by omega
  by_cases h60 : m + 1 > M
  · go_enter Try.func91, Try.ntmps91
    go_wp2_with fail
    go_ret
    exact ⟨false, m + 1, rfl, by simpa using B0.out, by simpa using K0.out, fun h => by cases h⟩
  · have hs60 : decide ((M : Int) < (m : Int) + 1) = false := decide_eq_false (by omega)
    by_cases hdp : deep < 0
    · go_enter Try.func91, Try.ntmps91
      go_wp2_with fail
      go_ret
      exact ⟨false, m + 1, rfl, by simpa using B0.out, by simpa using K0.out, fun h => by cases h⟩
    · have hdn : decide (deep < 0) = false := decide_eq_false hdp
      go_enter Try.func91, Try.ntmps91
      go_wp2_with fail
      go_loopw [28] (fun i wr => ∃ j : Nat, j ≤ len ∧ i = .int .i64 j ∧ Blk wr g 3 #[.int .i64 ((m + 1 + countL (subs.take j) : Nat) : Int)] ∧ m + 1 + countL (subs.take j) ≤ M ∧ Kept (fun k => k = g) w wr) (fun i _ => len - (intOf i).toNat)
      case atStart => exact ⟨0, by omega, rfl, by simpa [countL] using B0.out, by simp [countL]; omega, by simpa using K0.out⟩
      case round =>
        obtain ⟨j, hj, rfl, hB, hle, hK⟩ := hrel
        have HK := Lib.hid hK
        have HB2 := Lib.hid hB
        have hjl : j ≤ M := by
          have h1 := length_countL (subs.take j)
          rw [List.length_take] at h1
          have := HL.out
          omega
        clear hK K0 B0 hB
        by_cases hlt : j < len
        · obtain ⟨⟨⟨k', x0', x1', x2', n0', n1', n2'⟩, sb⟩, hx⟩ : ∃ x, subs[j]? = some x := ⟨_, List.getElem?_eq_getElem (by have := HL.out; omega)⟩
          obtain ⟨b, o, a', cap', rfl, hok, hr, hs⟩ := (HH.out.kept HK.out (fun b o hb e => HG.out b o hb e)).at_ hx
          have HX := Lib.hid (IH.out _ _ (List.mem_of_getElem? hx))
          have HR := Lib.hid hr
          have HS := Lib.hid hs
          have HN := Lib.hid (countL_take_succ hx)
          clear hx hr hs hok
          generalize hcn : m + 1 + countL (subs.take j) = cn at HB2 hle
          have HCN := Lib.hid hcn
          clear hcn
          unfold SmallEnd at HX
          generalize (Sh.mk ⟨k', x0', x1', x2', n0', n1', n2'⟩ sb).count = cx at HX HN
          generalize sb.length = len' at HR HS HX
          go_wp2_with ((with_reducible refine wpList_load_A rfl (.tmp 30) rfl _ _ rfl ⟨k', x0', x1', x2', n0', n1', n2'⟩ (.slice a' len' cap') ?_ ?_)
                       · exact HR.out)
          refine (HX.out _ _ _ _ g cn (deep - 1) (HS.out.keptN ((Kept.refl Nil _).alloc _)) HG.out (HB2.out.alloc _) hle (by omega) (by omega)).mono ?_
          rintro e w2 ⟨r, m', rfl, b2, k2, hr2⟩
          cases r
          · go_wp2_with fail
            go_ret
            exact ⟨false, m', rfl, b2, (HK.out.alloc _).trans k2 (fun _ _ g => g), fun h => by cases h⟩
          · obtain ⟨rfl, hm'⟩ := hr2 rfl
            have HB3 := Lib.hid b2
            have HK2 := Lib.hid k2
            clear b2 k2 hr2
            go_wp2_with fail
            go_roundw
            case rel => exact ⟨j + 1, by omega, by go_num, by rw [HN.out, ← Nat.add_assoc, HCN.out]; exact HB3.out, by rw [HN.out, ← Nat.add_assoc, HCN.out]; exact hm', (HK.out.alloc _).trans HK2.out (fun _ _ g => g)⟩
            case measure => simp [intOf]; omega
        · obtain rfl : j = len := by omega
          have HE : Hid (subs.take j = subs) := Lib.hid (by rw [← HL.out]; simp)
          go_wp2_with fail
          go_ret
          refine ⟨true, _, rfl, HB2.out, HK.out, fun _ => ⟨?_, hle⟩⟩
          rw [HE.out]
          simp only [Sh.count]
          omega
theorem small_any (M : Nat) (hM : M ≤ 5000) : ∀ s : Sh, ∀ ok a cap w (g m : Nat) (deep : Int), Holds cA w ok (.slice a s.subs.length cap) s.subs → (∀ b o, ok b o → b ≠ g) → Blk w g 3 #[.int .i64 m] → m ≤ M → -1 ≤ deep → deep ≤ 5 →
    Calls Try.prog 91 #[vA s.hd (.slice a s.subs.length cap), .int .i64 deep, .int .i64 M, .pointer (some ⟨g, 0, none⟩)] w (SmallEnd M g m s w) := by
  refine Sh.ind fun hd subs ih ok a cap w g m deep h hg hb hm h1 h2 => ?_
  exact small_step M hM hd.k hd.x0 hd.x1 hd.x2 hd.n0 hd.n1 hd.n2 subs _ rfl (fun hd' sb hx => ih _ hx) ok a cap w g m deep h hg hb hm h1 h2
theorem smallM_any (M : Nat) (hM : M ≤ 5000) (s : Sh) (ok : Nat → Nat → Prop) (a : Option Addr) (cap : Nat) (w : World) (h : Holds cA w ok (.slice a s.subs.length cap) s.subs) (hok : ∀ b o, ok b o → b < w.heap.size) :
    Calls Try.prog 52 #[vA s.hd (.slice a s.subs.length cap), .int .i64 M] w fun e w' => ∃ b : Bool, e = .returned (.bool b) ∧ Kept Nil w w' ∧ (b = true → s.count ≤ M) := by
  have C := Lib.hid (fun w' (k : Kept Nil w w') (g : Nat) (hg : w.heap.size ≤ g) (hb : Blk w' g 3 #[.int .i64 (0 : Nat)]) => small_any M hM s ok a cap w' g 0 5 (h.keptN k) (fun b o hb => by have := hok b o hb; omega) hb (by omega) (by omega) (by omega))
  generalize s.subs.length = len at C ⊢
  generalize s.hd = hd at C ⊢
  obtain ⟨k, x0, x1, x2, n0, n1, n2⟩ := hd
  have K0 := Lib.hid (((Kept.refl Nil w).alloc (.cells #[.int .i64 k, .bool x0, .int .i64 n0, .bool x1, .int .i64 n1, .bool x2, .int .i64 n2, .slice a len cap] 101)).alloc (.cells #[.int .i64 0] 3))
  have B0 := Lib.hid (Blk.new (w.alloc (.cells #[.int .i64 k, .bool x0, .int .i64 n0, .bool x1, .int .i64 n1, .bool x2, .int .i64 n2, .slice a len cap] 101)) 3 #[.int .i64 0])
  clear h hok
  go_enter Try.func52, Try.ntmps52
  go_wp2_with fail
  refine (C.out _ K0.out (w.heap.size + 1) (by omega) (by simpa using B0.out)).mono ?_
  rintro e w2 ⟨r, m', rfl, b2, k2, hr2⟩
  have HR2 := Lib.hid hr2
  clear hr2
  go_wp2_with fail
  go_ret
  exact ⟨r, rfl, K0.out.trans k2 (fun i hi e => by omega), fun hb => by obtain ⟨e1, e2⟩ := HR2.out hb; omega⟩
theorem small60_any (s : Sh) (ok : Nat → Nat → Prop) (a : Option Addr) (cap : Nat) (w : World) (h : Holds cA w ok (.slice a s.subs.length cap) s.subs) (hok : ∀ b o, ok b o → b < w.heap.size) :
    Calls Try.prog 52 #[vA s.hd (.slice a s.subs.length cap), .int .i64 60] w fun e w' => ∃ b : Bool, e = .returned (.bool b) ∧ Kept Nil w w' ∧ (b = true → s.count ≤ 60) := smallM_any 60 (by decide) s ok a cap w h hok
end
section
open Go.RowKit
set_option maxRecDepth 100000

abbrev RefCheckIH (subs : List Sh) : Prop := ∀ hd sb, Sh.mk hd sb ∈ subs → ∀ ok a cap w (d : Int), 1 ≤ d → Holds cR w ok (.slice a sb.length cap) sb →
  Calls Try.prog 53 #[vR hd (.slice a sb.length cap), .int .i64 d] w fun e w' => e = .returned (.int .i64 ((Sh.mk hd sb).chk d)) ∧ Kept Nil w w'
theorem sameT_zero (h : Hd) : h.sameT zeroH = (decide (h.x0 = false ∧ h.n0 = 0) && (decide (h.x1 = false ∧ h.n1 = 0) && decide (h.x2 = false ∧ h.n2 = 0))) := by
  unfold Hd.sameT zeroH
  simp
set_option maxHeartbeats 2000000 in
theorem refTerms_part (k : Int) (x0 x1 x2 : Bool) (n0 n1 n2 : Int) (a : Option Addr) (len cap : Nat) (w : World) (d : Int) (hd3 : decide (3 < d) = false) (hk1 : 1 ≤ k) (hk2 : k < 3) :
    Calls Try.prog 53 #[vR ⟨k, x0, x1, x2, n0, n1, n2⟩ (.slice a len cap), .int .i64 d] w fun e w' => e = .returned (.int .i64 (termsT ⟨k, x0, x1, x2, n0, n1, n2⟩ len)) ∧ Kept Nil w w' := by
  have R0 := Lib.hid (fun W => refRight_any x0 n0 W)
  have R1 := Lib.hid (fun W => refRight_any x1 n1 W)
  have R2 := Lib.hid (fun W => refRight_any x2 n2 W)
  have HT : Hid (termsT ⟨k, x0, x1, x2, n0, n1, n2⟩ len = if (okTm x0 n0 && okTm x1 n1 && okTm x2 n2) = false then 4 else if 0 < len then 4 else 0) := Lib.hid rfl
  generalize hb0 : okTm x0 n0 = b0 at HT R0
  generalize hb1 : okTm x1 n1 = b1 at HT R1
  generalize hb2 : okTm x2 n2 = b2 at HT R2
  clear hb0 hb1 hb2
  have B0 := Lib.hid (Blk.new w 106 (arrR ⟨k, x0, x1, x2, n0, n1, n2⟩ (.slice a len cap)))
  have K0 := Lib.hid ((Kept.refl Nil w).alloc (.cells (arrR ⟨k, x0, x1, x2, n0, n1, n2⟩ (.slice a len cap)) 106))
  have q1 : decide (k < 1) = false := decide_eq_false (by omega)
  have q3 : decide (3 < k) = false := decide_eq_false (by omega)
  go_enter Try.func53, Try.ntmps53
  go_wp2_with fail
  go_loopw [5] (fun i wr => ((i = .int .i64 0) ∨ (i = .int .i64 1 ∧ b0 = true) ∨ (i = .int .i64 2 ∧ b0 = true ∧ b1 = true) ∨ (i = .int .i64 3 ∧ b0 = true ∧ b1 = true ∧ b2 = true)) ∧ Blk wr w.heap.size 106 (arrR ⟨k, x0, x1, x2, n0, n1, n2⟩ (.slice a len cap)) ∧ Kept Nil w wr) (fun i _ => (3 - intOf i).toNat)
  case atStart => exact ⟨.inl rfl, B0.out, K0.out⟩
  case round =>
    obtain ⟨hrel, hB, hK⟩ := hrel
    have HB := Lib.hid hB
    have HK := Lib.hid hK
    have c1 := hB.cell 1
    have c2 := hB.cell 2
    have c3 := hB.cell 3
    have c4 := hB.cell 4
    have c5 := hB.cell 5
    have c6 := hB.cell 6
    have c7 := hB.cell 7
    simp at c1 c2 c3 c4 c5 c6 c7
    clear hB hK B0 K0
    rcases hrel with rfl | ⟨rfl, rfl⟩ | ⟨rfl, rfl, rfl⟩ | ⟨rfl, rfl, rfl, rfl⟩
    · go_wp2_with fail
      refine (R0.out _).mono ?_
      rintro e w2 ⟨rfl, k2⟩
      have KB := Lib.hid (HB.out.kept k2 id)
      clear c1 c2 c3 c4 c5 c6 c7
      cases b0
      · go_wp2_with fail
        go_ret
        exact ⟨by rw [HT.out]; rfl, HK.out.trans k2 (fun _ _ g => g)⟩
      · go_wp2_with fail
        go_roundw
        case rel => exact ⟨by simp, KB.out, HK.out.trans k2 (fun _ _ g => g)⟩
        case measure => decide
    · go_wp2_with fail
      refine (R1.out _).mono ?_
      rintro e w2 ⟨rfl, k2⟩
      have KB := Lib.hid (HB.out.kept k2 id)
      clear c1 c2 c3 c4 c5 c6 c7
      cases b1
      · go_wp2_with fail
        go_ret
        exact ⟨by rw [HT.out]; rfl, HK.out.trans k2 (fun _ _ g => g)⟩
      · go_wp2_with fail
        go_roundw
        case rel => exact ⟨by simp, KB.out, HK.out.trans k2 (fun _ _ g => g)⟩
        case measure => decide
    · go_wp2_with fail
      refine (R2.out _).mono ?_
      rintro e w2 ⟨rfl, k2⟩
      have KB := Lib.hid (HB.out.kept k2 id)
      clear c1 c2 c3 c4 c5 c6 c7
      cases b2
      · go_wp2_with fail
        go_ret
        exact ⟨by rw [HT.out]; rfl, HK.out.trans k2 (fun _ _ g => g)⟩
      · go_wp2_with fail
        go_roundw
        case rel => exact ⟨by simp, KB.out, HK.out.trans k2 (fun _ _ g => g)⟩
        case measure => decide
    · by_cases hl : 0 < len
      · go_wp2_with fail
        go_ret
        exact ⟨by rw [HT.out]; simp [hl], HK.out⟩
      · have hd : decide (0 < len) = false := decide_eq_false hl
        go_wp2_with fail
        go_ret
        exact ⟨by rw [HT.out]; simp [hl], HK.out⟩
theorem isV_true : isV true = 1 := rfl
theorem isV_false : isV false = 0 := rfl
set_option maxHeartbeats 2000000 in
theorem refNcc_part (x0 x1 x2 : Bool) (n0 n1 n2 : Int) (subs : List Sh) (len : Nat) (HL : Hid (subs.length = len)) (hLen : len ≤ 5000) (IH : Hid (RefCheckIH subs))
    (ok : Nat → Nat → Prop) (a : Option Addr) (cap : Nat) (w : World) (HH : Hid (Holds cR w ok (.slice a len cap) subs)) (d : Int) (hd1 : 1 ≤ d) (hd2 : d ≤ 3) :
    Calls Try.prog 53 #[vR ⟨3, x0, x1, x2, n0, n1, n2⟩ (.slice a len cap), .int .i64 d] w fun e w' => e = .returned (.int .i64 (nccT ⟨3, x0, x1, x2, n0, n1, n2⟩ subs d)) ∧ Kept Nil w w' := by
  have HT : Hid (nccT ⟨3, x0, x1, x2, n0, n1, n2⟩ subs d = if (decide (x0 = false ∧ n0 = 0) && (decide (x1 = false ∧ n1 = 0) && decide (x2 = false ∧ n2 = 0))) = false then 4 else if len = 0 then 2 else chkL subs (d + 1)) := Lib.hid (by rw [← HL.out]; unfold nccT; rw [sameT_zero])
  have B0 := Lib.hid (Blk.new w 106 (arrR ⟨3, x0, x1, x2, n0, n1, n2⟩ (.slice a len cap)))
  have K0 := Lib.hid ((Kept.refl Nil w).alloc (.cells (arrR ⟨3, x0, x1, x2, n0, n1, n2⟩ (.slice a len cap)) 106))
  have hd3 : decide (3 < d) = false := decide_eq_false (by omega)
  have v1 := isV_true
  have v0 := isV_false
  go_enter Try.func53, Try.ntmps53
  go_wp2_with fail
  go_loopw [6] (fun i wr => ((i = .int .i64 0) ∨ (i = .int .i64 1 ∧ (x0 = false ∧ n0 = 0)) ∨ (i = .int .i64 2 ∧ (x0 = false ∧ n0 = 0) ∧ (x1 = false ∧ n1 = 0)) ∨ (i = .int .i64 3 ∧ (x0 = false ∧ n0 = 0) ∧ (x1 = false ∧ n1 = 0) ∧ (x2 = false ∧ n2 = 0))) ∧ Blk wr w.heap.size 106 (arrR ⟨3, x0, x1, x2, n0, n1, n2⟩ (.slice a len cap)) ∧ Kept Nil w wr) (fun i _ => (3 - intOf i).toNat)
  case atStart => exact ⟨.inl rfl, B0.out, K0.out⟩
  case round =>
    obtain ⟨hrel, hB, hK⟩ := hrel
    have HB := Lib.hid hB
    have HK := Lib.hid hK
    have c1 := hB.cell 1
    have c2 := hB.cell 2
    have c3 := hB.cell 3
    have c4 := hB.cell 4
    have c5 := hB.cell 5
    have c6 := hB.cell 6
    have c7 := hB.cell 7
    simp only [arrR] at c1 c2 c3 c4 c5 c6 c7
    simp at c1 c2 c3 c4 c5 c6 c7
    clear hB hK B0 K0
    rcases hrel with rfl | ⟨rfl, rfl, rfl⟩ | ⟨rfl, ⟨rfl, rfl⟩, rfl, rfl⟩ | ⟨rfl, ⟨rfl, rfl⟩, ⟨rfl, rfl⟩, rfl, rfl⟩
    · cases x0
      · by_cases hn : n0 = 0
        · subst hn
          go_wp2_with fail
          go_roundw
          case rel => exact ⟨by simp, HB.out, HK.out⟩
          case measure => decide
        · have hn' : (n0 == 0) = false := by simpa using hn
          go_wp2_with fail
          go_ret
          exact ⟨by rw [HT.out]; simp [hn], HK.out⟩
      · go_wp2_with fail
        go_ret
        exact ⟨by rw [HT.out]; simp, HK.out⟩
    · cases x1
      · by_cases hn : n1 = 0
        · subst hn
          go_wp2_with fail
          go_roundw
          case rel => exact ⟨by simp, HB.out, HK.out⟩
          case measure => decide
        · have hn' : (n1 == 0) = false := by simpa using hn
          go_wp2_with fail
          go_ret
          exact ⟨by rw [HT.out]; simp [hn], HK.out⟩
      · go_wp2_with fail
        go_ret
        exact ⟨by rw [HT.out]; simp, HK.out⟩
    · cases x2
      · by_cases hn : n2 = 0
        · subst hn
          go_wp2_with fail
          go_roundw
          case rel => exact ⟨by simp, HB.out, HK.out⟩
          case measure => decide
        · have hn' : (n2 == 0) = false := by simpa using hn
          go_wp2_with fail
          go_ret
          exact ⟨by rw [HT.out]; simp [hn], HK.out⟩
      · go_wp2_with fail
        go_ret
        exact ⟨by rw [HT.out]; simp, HK.out⟩
    · clear c1 c2 c3 c4 c5 c6
      rcases Nat.eq_zero_or_pos len with rfl | hpos
      · go_wp2_with fail
        go_ret
        exact ⟨by rw [HT.out]; simp, HK.out⟩
      · have h0 : len ≠ 0 := by omega
        have h0' : ((len : Int) == 0) = false := by simp; omega
        have HT2 : Hid (nccT ⟨3, false, false, false, 0, 0, 0⟩ subs d = chkL subs (d + 1)) := Lib.hid (by rw [HT.out]; simp [h0])
        clear HT
        go_wp2_with fail
        go_loopw [62] (fun i wr => ∃ j : Nat, j ≤ len ∧ i = .int .i64 j ∧ chkL subs (d + 1) = chkL (subs.drop j) (d + 1) ∧ Kept Nil w wr) (fun i _ => len - (intOf i).toNat)
        case atStart => exact ⟨0, by omega, rfl, rfl, HK.out⟩
        case round =>
          obtain ⟨j, hj, rfl, hch, hK⟩ := hrel
          have HK := Lib.hid hK
          have HCh := Lib.hid hch
          clear hK hch c7
          by_cases hlt : j < len
          · obtain ⟨⟨⟨k', x0', x1', x2', n0', n1', n2'⟩, sb⟩, hx⟩ : ∃ x, subs[j]? = some x := ⟨_, List.getElem?_eq_getElem (by have := HL.out; omega)⟩
            obtain ⟨b, o, a', cap', rfl, hok, hr, hs⟩ := (HH.out.keptN HK.out).at_ hx
            have HX := Lib.hid (IH.out _ _ (List.mem_of_getElem? hx))
            have HR := Lib.hid hr
            have HS := Lib.hid hs
            have HN := Lib.hid (chkL_drop hx (d + 1))
            clear hx hr hs hok
            have HX2 : Hid (∀ w, Holds cR w ok (.slice a' sb.length cap') sb → Calls Try.prog 53 #[vR ⟨k', x0', x1', x2', n0', n1', n2'⟩ (.slice a' sb.length cap'), .int .i64 (d + 1)] w fun e w' => e = .returned (.int .i64 ((Sh.mk ⟨k', x0', x1', x2', n0', n1', n2'⟩ sb).chk (d + 1))) ∧ Kept Nil w w') := Lib.hid fun w h => HX.out ok a' cap' w (d + 1) (by omega) h
            clear HX
            generalize hv : (Sh.mk ⟨k', x0', x1', x2', n0', n1', n2'⟩ sb).chk (d + 1) = v at HX2 HN
            clear hv
            generalize sb.length = len' at HR HS HX2
            go_wp2_with ((with_reducible refine wpList_load_R rfl (.tmp 64) rfl _ _ rfl ⟨k', x0', x1', x2', n0', n1', n2'⟩ (.slice a' len' cap') ?_ ?_)
                         · exact HR.out)
            refine (HX2.out _ (HS.out.keptN ((Kept.refl Nil _).alloc _))).mono ?_
            rintro e w2 ⟨rfl, k2⟩
            by_cases hv : v = 0
            · subst hv
              go_wp2_with fail
              go_roundw
              case rel => exact ⟨j + 1, by omega, by go_num, by rw [HCh.out, HN.out]; simp, (HK.out.alloc _).trans k2 (fun _ _ g => g)⟩
              case measure => simp [intOf]; omega
            · have hv' : (v == 0) = false := by simpa using hv
              go_wp2_with fail
              go_ret
              exact ⟨by rw [HT2.out, HCh.out, HN.out]; simp [hv], (HK.out.alloc _).trans k2 (fun _ _ g => g)⟩
          · obtain rfl : j = len := by omega
            have HE : Hid (chkL (subs.drop j) (d + 1) = 0) := Lib.hid (by rw [← HL.out, List.drop_length]; rfl)
            go_wp2_with fail
            go_ret
            exact ⟨by rw [HT2.out, HCh.out, HE.out]; rfl, HK.out⟩
theorem refCheck_step (hd : Hd) (subs : List Sh) (hLen : subs.length ≤ 5000) (IH : Hid (RefCheckIH subs))
    (ok : Nat → Nat → Prop) (a : Option Addr) (cap : Nat) (w : World) (h : Holds cR w ok (.slice a subs.length cap) subs) (d : Int) (hd1 : 1 ≤ d) :
    Calls Try.prog 53 #[vR hd (.slice a subs.length cap), .int .i64 d] w fun e w' => e = .returned (.int .i64 ((Sh.mk hd subs).chk d)) ∧ Kept Nil w w' := by
  rw [chk_mk]
  obtain ⟨k, x0, x1, x2, n0, n1, n2⟩ := hd
  by_cases h3 : 3 < d
  · rw [if_pos h3]
    clear IH h
    generalize subs.length = len
    have K0 := Lib.hid ((Kept.refl Nil w).alloc (.cells (arrR ⟨k, x0, x1, x2, n0, n1, n2⟩ (.slice a len cap)) 106))
    go_enter Try.func53, Try.ntmps53
    go_wp2_with fail
    go_ret
    exact ⟨rfl, K0.out⟩
  · rw [if_neg h3]
    by_cases hk : k = 3
    · subst hk
      rw [if_pos rfl]
      exact refNcc_part x0 x1 x2 n0 n1 n2 subs _ rfl hLen IH ok a cap w h d hd1 (by omega)
    · rw [if_neg hk]
      by_cases hk2 : k = 1 ∨ k = 2
      · rw [if_pos hk2]
        exact refTerms_part k x0 x1 x2 n0 n1 n2 a _ cap w d (decide_eq_false h3) (by omega) (by omega)
      · rw [if_neg hk2]
        clear IH h
        generalize subs.length = len
        have K0 := Lib.hid ((Kept.refl Nil w).alloc (.cells (arrR ⟨k, x0, x1, x2, n0, n1, n2⟩ (.slice a len cap)) 106))
        have hd3 : decide (3 < d) = false := decide_eq_false h3
        by_cases hlo : k < 1
        · go_enter Try.func53, Try.ntmps53
          go_wp2_with fail
          go_ret
          exact ⟨rfl, K0.out⟩
        · have hlo' : decide (k < 1) = false := decide_eq_false hlo
          have hhi : 3 < k := by omega
          go_enter Try.func53, Try.ntmps53
          go_wp2_with fail
          go_ret
          exact ⟨rfl, K0.out⟩
theorem refCheck_any : ∀ s : Sh, s.count ≤ 5000 → ∀ ok a cap w (d : Int), 1 ≤ d → Holds cR w ok (.slice a s.subs.length cap) s.subs →
    Calls Try.prog 53 #[vR s.hd (.slice a s.subs.length cap), .int .i64 d] w fun e w' => e = .returned (.int .i64 (s.chk d)) ∧ Kept Nil w w' := by
  refine Sh.ind fun hd subs ih hc ok a cap w d h1 h => ?_
  have hc' : 1 + countL subs ≤ 5000 := by simpa [Sh.count] using hc
  have hl := length_countL subs
  exact refCheck_step hd subs (by omega) (fun hd' sb hx ok a cap w d' h1 hh => ih _ hx (by have := count_mem hx; omega) ok a cap w d' h1 hh) ok a cap w h d h1
end
section
open Go.RowKit
set_option maxRecDepth 100000

/-- A bool; where it is true, something holds. -/
def YesEnd (T : Prop) (w : World) (e : Ending) (w' : World) : Prop := ∃ b : Bool, e = .returned (.bool b) ∧ Kept Nil w w' ∧ (b = true → T)
set_option maxHeartbeats 2000000 in
theorem fineL_any (l : List Sh) (ok : Nat → Nat → Prop) (a : Option Addr) (cap : Nat) (w : World) (h : Holds cA w ok (.slice a l.length cap) l) (hok : ∀ b o, ok b o → b < w.heap.size) :
    Calls Try.prog 10 #[.slice a l.length cap] w (YesEnd (countL l ≤ 16 ∧ chkL l 1 = 0) w) := by
  have CS : Hid (∀ w', Kept Nil w w' → Calls Try.prog 52 #[vA zeroH (.slice a l.length cap), .int .i64 18] w' fun e w'' => ∃ b : Bool, e = .returned (.bool b) ∧ Kept Nil w' w'' ∧ (b = true → 1 + countL l ≤ 18)) := Lib.hid fun w' k => by
    have := smallM_any 18 (by omega) (.mk zeroH l) ok a cap w' (h.keptN k) (fun b o hb => Nat.lt_of_lt_of_le (hok b o hb) k.size)
    refine this.mono ?_
    rintro e w'' ⟨b, h1, h2, h3⟩
    exact ⟨b, h1, h2, fun hb => by have := h3 hb; simpa only [Sh.count] using this⟩
  have CR : Hid (∀ w', Kept Nil w w' → countL l ≤ 5000 → Calls Try.prog 15 #[.slice a l.length cap] w' (ListEnd l w')) := Lib.hid fun w' k hc => refL_any l hc ok a cap w' (h.keptN k)
  obtain ⟨len, hlen⟩ : ∃ n, l.length = n := ⟨_, rfl⟩
  have HL := Lib.hid hlen
  rw [hlen] at CS CR ⊢
  clear h hok hlen
  go_enter Try.func10, Try.ntmps10
  go_wp2_with fail
  refine (CS.out _ (Kept.refl _ _)).mono ?_
  rintro e w1 ⟨b, rfl, k1, hb⟩
  have K1 := Lib.hid k1
  have HB := Lib.hid hb
  clear k1 hb CS
  cases b
  · go_wp2_with fail
    go_ret
    exact ⟨false, rfl, K1.out, fun h => by cases h⟩
  · have HCn : Hid (countL l ≤ 17) := Lib.hid (by have := HB.out rfl; omega)
    go_wp2_with fail
    refine (CR.out _ K1.out (by have := HCn.out; omega)).mono ?_
    rintro e w2 ⟨a2, c2, rfl, h2, k2⟩
    have K2 := Lib.hid (K1.out.trans k2 (fun _ _ g => g))
    have H2 := Lib.hid h2
    rw [HL.out] at H2 ⊢
    have hLen : len ≤ 17 := by have := length_countL l; have := HCn.out; have := HL.out; omega
    clear k2 h2 CR HB
    go_wp2_with fail
    go_loopw [3, 13] (fun n i wr => ∃ j m : Nat, j ≤ len ∧ i = .int .i64 j ∧ n = .int .i64 m ∧ m = countL (l.take j) ∧ chkL (l.take j) 1 = 0 ∧ Kept Nil w2 wr) (fun _ i _ => len - (intOf i).toNat)
    case atStart => exact ⟨0, 0, by omega, rfl, rfl, by rw [List.take_zero]; rfl, by rw [List.take_zero]; rfl, Kept.refl _ _⟩
    case round =>
      obtain ⟨j, m, hj, rfl, rfl, hm, hk, hK⟩ := hrel
      have HK := Lib.hid hK
      have HM := Lib.hid hm
      have HCk := Lib.hid hk
      clear hK hm hk
      by_cases hlt : j < len
      · obtain ⟨⟨⟨k', x0', x1', x2', n0', n1', n2'⟩, sb⟩, hx⟩ : ∃ x, l[j]? = some x := ⟨_, List.getElem?_eq_getElem (by have := HL.out; omega)⟩
        obtain ⟨b, o, a', cap', rfl, hok, hr, hs⟩ := (H2.out.keptN HK.out).at_ hx
        have hm5 : (Sh.mk ⟨k', x0', x1', x2', n0', n1', n2'⟩ sb).count ≤ 5000 := mem_count (Nat.le_trans HCn.out (show 17 ≤ 5000 by decide)) (List.mem_of_getElem? hx)
        have hsum := countL_take_succ hx
        have hle := countL_take_le l (j + 1)
        have HX1 : Hid (∀ W, Kept Nil wr W → Calls Try.prog 53 #[vR ⟨k', x0', x1', x2', n0', n1', n2'⟩ (.slice a' sb.length cap'), .int .i64 1] W fun e w' => e = .returned (.int .i64 ((Sh.mk ⟨k', x0', x1', x2', n0', n1', n2'⟩ sb).chk 1)) ∧ Kept Nil W w') := Lib.hid fun W kW => refCheck_any _ hm5 _ a' cap' W 1 (by omega) (hs.keptN kW)
        have HX2 : Hid (∀ W, Kept Nil wr W → Calls Try.prog 54 #[vR ⟨k', x0', x1', x2', n0', n1', n2'⟩ (.slice a' sb.length cap')] W fun e w' => e = .returned (.int .i64 ((Sh.mk ⟨k', x0', x1', x2', n0', n1', n2'⟩ sb).count : Int)) ∧ Kept Nil W w') := Lib.hid fun W kW => refSize_any _ hm5 _ a' cap' W (hs.keptN kW)
        have HRng := Lib.hid hr
        have h16 : m + (Sh.mk ⟨k', x0', x1', x2', n0', n1', n2'⟩ sb).count ≤ 17 := by have := HCn.out; have := HM.out; omega
        have HS : Hid (m + (Sh.mk ⟨k', x0', x1', x2', n0', n1', n2'⟩ sb).count = countL (l.take (j + 1))) := Lib.hid (by rw [HM.out, hsum])
        have HCk1 : Hid ((Sh.mk ⟨k', x0', x1', x2', n0', n1', n2'⟩ sb).chk 1 = 0 → chkL (l.take (j + 1)) 1 = 0) := Lib.hid fun h0 => chkL_all.2 fun s hs' => by
          rw [List.take_add_one, hx] at hs'
          rcases List.mem_append.1 hs' with hs' | hs'
          · exact chkL_all.1 HCk.out s hs'
          · simp at hs'; subst hs'; exact h0
        generalize (Sh.mk ⟨k', x0', x1', x2', n0', n1', n2'⟩ sb).count = c at HX2 HS h16
        generalize (Sh.mk ⟨k', x0', x1', x2', n0', n1', n2'⟩ sb).chk 1 = q at HX1 HCk1
        generalize sb.length = len' at HX1 HX2 HRng
        clear hx hr hs hok hm5 hsum hle
        have hw : IntKind.i64.wrap ((m : Int) + (c : Int)) = ((m + c : Nat) : Int) := by rw [IntKind.wrap_i64]; omega
        go_wp2_with ((with_reducible refine wpList_load_R rfl (.tmp 15) rfl _ _ rfl ⟨k', x0', x1', x2', n0', n1', n2'⟩ (.slice a' len' cap') ?_ ?_)
                     · exact HRng.out)
        have KA := Lib.hid ((Kept.refl Nil wr).alloc (.cells (arrR ⟨k', x0', x1', x2', n0', n1', n2'⟩ (.slice a' len' cap')) 106))
        refine (HX1.out _ KA.out).mono ?_
        rintro e w3 ⟨rfl, k3⟩
        have K3 := Lib.hid (KA.out.trans k3 (fun _ _ g => g))
        have B3 := Lib.hid ((Blk.new wr 106 (arrR ⟨k', x0', x1', x2', n0', n1', n2'⟩ (.slice a' len' cap'))).kept k3 id)
        clear k3 KA
        by_cases hq : q = 0
        · subst hq
          have HCk2 := Lib.hid (HCk1.out rfl)
          go_wp2_with ((with_reducible refine wpList_load_R rfl (.tmp 5) rfl _ _ rfl ⟨k', x0', x1', x2', n0', n1', n2'⟩ (.slice a' len' cap') ?_ ?_)
                       · exact World.rangeAt_of_block B3.out 0 8)
          refine (HX2.out _ K3.out).mono ?_
          rintro e w4 ⟨rfl, k4⟩
          have K4 := Lib.hid (HK.out.trans (K3.out.trans k4 (fun _ _ g => g)) (fun _ _ g => g))
          clear k4
          go_wp2_with fail
          go_roundw
          case rel => exact ⟨j + 1, m + c, by omega, by go_num, by go_num, HS.out, HCk2.out, K4.out⟩
          case measure => simp [intOf]; omega
        · have hq' : (q != 0) = true := by simpa using hq
          clear hq
          go_wp2_with fail
          go_ret
          exact ⟨false, rfl, K2.out.trans (HK.out.trans K3.out (fun _ _ g => g)) (fun _ _ g => g), fun h => by cases h⟩
      · obtain rfl : j = len := by omega
        have HE : Hid (l.take j = l) := Lib.hid (by rw [← HL.out]; simp)
        go_wp2_with fail
        go_ret
        refine ⟨decide ((m : Int) ≤ 16), rfl, K2.out.trans HK.out (fun _ _ g => g), fun h => ?_⟩
        have h1 := HM.out
        have h2 := HCk.out
        rw [HE.out] at h1 h2
        exact ⟨by have := of_decide_eq_true h; omega, h2⟩
end
section
open Go.RowKit Go.Maps Go.WideMaps
set_option maxRecDepth 100000

/-- Lists of conditions in memory. -/
def Lcs (w : World) (ok : Nat → Nat → Prop) (vals : List SlV) (Ls : List (List Sh)) : Prop := vals.length = Ls.length ∧ ∀ (i : Nat) l, Ls[i]? = some l → ∃ b cp, vals[i]? = some (b, l.length, cp) ∧ Holds cA w ok (.slice b l.length cp) l
def stA (Ls : List (List Sh)) : List (List St) := Ls.map fun l => stL l []
def chA (Ls : List (List Sh)) : List (List St) := (Ls.map fun l => chSL (stL l []) []).flatten
theorem stA_snoc (Ls : List (List Sh)) (l : List Sh) : stA (Ls ++ [l]) = stA Ls ++ [stL l []] := by simp [stA]
theorem chA_snoc (Ls : List (List Sh)) (l : List Sh) : chA (Ls ++ [l]) = chA Ls ++ chSL (stL l []) [] := by simp [chA]
theorem chA_mem (Ls : List (List Sh)) (x : List St) : x ∈ chA Ls ↔ x ≠ [] ∧ 0 < usesL (stA Ls) x := by
  unfold chA
  rw [List.mem_flatten]
  constructor
  · rintro ⟨D, hD, hx⟩
    obtain ⟨l, hl, rfl⟩ := List.mem_map.1 hD
    exact ⟨chain_ne hx, (usesL_pos (chain_ne hx)).2 ⟨stL l [], List.mem_map_of_mem hl, hx⟩⟩
  · rintro ⟨h0, h1⟩
    obtain ⟨s, hs, hx⟩ := (usesL_pos h0).1 h1
    obtain ⟨l, hl, rfl⟩ := List.mem_map.1 hs
    exact ⟨_, List.mem_map_of_mem hl, hx⟩
theorem cnt_eq (d : Nat) : (((d + 1 : Nat) : Int) == 1 + (d : Int)) = true := by rw [beq_iff_eq]; omega
abbrev GoesT (l : List Sh) : Prop := countL l ≤ 16 ∧ chkL l 1 = 0
theorem Sls.append {w : World} {ok : Nat → Nat → Prop} {v1 v2 : List SlV} {L1 L2 : List (List St)} (h1 : Sls w ok v1 L1) (h2 : Sls w ok v2 L2) : Sls w ok (v1 ++ v2) (L1 ++ L2) := by
  refine ⟨by simp [h1.1, h2.1], fun i x hi => ?_⟩
  by_cases hl : i < L1.length
  · rw [List.getElem?_append_left hl] at hi
    obtain ⟨b, cp, e1, e2⟩ := h1.2 i x hi
    exact ⟨b, cp, by rw [List.getElem?_append_left (by rw [h1.1]; exact hl)]; exact e1, e2⟩
  · rw [List.getElem?_append_right (by omega)] at hi
    obtain ⟨b, cp, e1, e2⟩ := h2.2 _ x hi
    exact ⟨b, cp, by rw [List.getElem?_append_right (by rw [h1.1]; omega), h1.1]; exact e1, e2⟩
theorem Sls.mono {w : World} {ok ok' : Nat → Nat → Prop} {v : List SlV} {L : List (List St)} (h : Sls w ok v L) (ho : ∀ b o, ok b o → ok' b o) : Sls w ok' v L := ⟨h.1, fun i x hi => by
  obtain ⟨b, cp, e1, e2⟩ := h.2 i x hi
  exact ⟨b, cp, e1, e2.mono ho⟩⟩
/-- What stands between two rounds of the law. -/
structure ShI (w : World) (p : Nat) (Ls : List (List Sh)) (j : Nat) (a2 : Option Addr) (n2 c2 : Nat) (W : World) : Prop where
  ex : ∃ c es U E vs, TE W c p es U E ∧ TLS (stA (Ls.take j)) es U E ∧ es.length ≤ 16 * j ∧ Row cV 32 1 W w.heap.size (.slice a2 n2 c2) vs ∧ Sls W (fun b _ => b < W.heap.size ∧ c b = 0 ∧ (Value.slice a2 n2 c2).ownBlock ≠ some b) vs (chA (Ls.take j)) ∧ (∀ b, (Value.slice a2 n2 c2).ownBlock = some b → c b = 0) ∧ ∀ b, b < w.heap.size → c b = 0
  kept : Kept Nil w W
  len : (chA (Ls.take j)).length ≤ 16 * j
set_option maxHeartbeats 8000000 in
theorem shares_any (Ls : List (List Sh)) (ok : Nat → Nat → Prop) (vals : List SlV) {w : World} {a : Option Addr} {n cap : Nat} (hr : In cV 1 w a n vals) (hs : Lcs w ok vals Ls) (hok : ∀ b o, ok b o → b < w.heap.size) :
    Calls Try.prog 4 #[.slice a n cap] w fun e w' => e = .returned (.bool true) ∧ Kept Nil w w' := by
  have HR := Lib.hid hr
  have HS := Lib.hid hs
  have HOK := Lib.hid hok
  have HN := Lib.hid (show n = Ls.length by rw [← hr.1, hs.1])
  have HA := Lib.hid awake_any
  clear hr hs hok
  go_enter Try.func4, Try.ntmps4
  go_wp2_with fail
  refine (new_any w).mono ?_
  rintro e w1 ⟨p, c, rfl, te, k1, hc⟩
  have HTE := Lib.hid te
  have K1 := Lib.hid k1
  have HC := Lib.hid hc
  clear te k1 hc
  by_cases hn8 : n ≤ 8
  · have e1 : decide ((8 : Int) < (n : Int)) = false := by simp; omega
    go_wp2_with fail
    go_loopw [4, 6, 7, 23] (fun v _ _ i wr => ∃ (j : Nat) (a2 : Option Addr) (n2 c2 : Nat), j ≤ n ∧ i = .int .i64 j ∧ v = .slice a2 n2 c2 ∧ ShI w p Ls j a2 n2 c2 wr) (fun _ _ _ i _ => n - (intOf i).toNat)
    case atStart =>
      refine ⟨0, none, 0, 0, Nat.zero_le _, rfl, rfl, ⟨c, [], _, _, [], HTE.out, TLS.nil, by simp, Row.nil _ _, ⟨rfl, fun i x hi => by cases hi⟩, (fun b e => by cases e), fun b hb => ?_⟩, K1.out, by simp [chA]⟩
      by_cases e : c b = 0
      · exact e
      · have := HC.out b e; omega
    case round =>
      obtain ⟨j, a2, n2, c2, hj, rfl, rfl, hI⟩ := hrel
      have HI := Lib.hid hI
      have HK := Lib.hid hI.kept
      by_cases hlt : j < n
      · obtain ⟨l, hl⟩ : ∃ l, Ls[j]? = some l := ⟨_, List.getElem?_eq_getElem (by have := HN.out; omega)⟩
        obtain ⟨bx, cx, hvx, hhx⟩ := HS.out.2 j l hl
        obtain ⟨b0, o0, rfl, hb0, hc0⟩ := (HR.out.kept hI.kept).at_ hvx
        have q0 := hc0 0 _ rfl
        rw [Nat.mul_one, Nat.add_zero] at q0
        have htk : Ls.take (j + 1) = Ls.take j ++ [l] := by rw [List.take_add_one, hl]; rfl
        have HTK := Lib.hid htk
        have CF := Lib.hid (fineL_any l ok bx cx wr (hhx.keptN hI.kept) (fun b o hb => Nat.lt_of_lt_of_le (HOK.out b o hb) hI.kept.size))
        have HHX := Lib.hid (hhx.keptN hI.kept)
        have hjj : (j : Int) < (n : Int) := by omega
        obtain ⟨len, hlen⟩ : ∃ len, l.length = len := ⟨_, rfl⟩
        have HL := Lib.hid hlen
        simp only [hlen] at q0 CF HHX
        clear hI hl hvx hhx hc0 htk hlen
        go_wp2_with fail
        refine CF.out.mono ?_
        rintro e w2 ⟨b, rfl, k2, hb⟩
        have K2 := Lib.hid k2
        have HB := Lib.hid hb
        clear k2 hb CF q0
        cases b
        · go_wp2_with fail
          refine (HA.out _).mono ?_
          rintro e w3 ⟨rfl, k3⟩
          go_wp2_with fail
          go_ret
          exact ⟨rfl, (HK.out.trans K2.out (fun _ _ e => e)).trans k3 (fun _ _ e => e)⟩
        · have HG : Hid (GoesT l) := Lib.hid (HB.out rfl)
          clear HB
          have C6 := Lib.hid (refL_any l (by have := HG.out.1; omega) ok bx cx w2 (by rw [HL.out]; exact HHX.out.keptN K2.out))
          unfold ListEnd at C6
          simp only [HL.out] at C6
          go_wp2_with fail
          refine C6.out.mono ?_
          rintro e w3 ⟨a3, c3, rfl, h3, k3⟩
          have CO := Lib.hid (refCompile_of of_all l HG.out _ a3 c3 w3 (by rw [HL.out]; exact h3))
          unfold StsEnd at CO
          simp only [HL.out, stL_length] at CO
          have K3 := Lib.hid (K2.out.trans k3 (fun _ _ e => e))
          clear h3 k3 C6
          go_wp2_with fail
          refine CO.out.mono ?_
          rintro e w4 ⟨a4, c4, rfl, h4, k4⟩
          have HM : Hid (massL (stL l []) ≤ 64) := Lib.hid (by have := st_mass.2 l []; have := HG.out.1; omega)
          have HCn : Hid (cntL (stL l []) ≤ 16) := Lib.hid (by have := st_cnt.2 l []; have := HG.out.1; omega)
          have hRl : Rl (stL l []) := ⟨stL_right HG.out.2 (by have := HG.out.1; simp; omega), HCn.out⟩
          have HSL : Hid ((stL l []).length = len) := Lib.hid (by rw [stL_length]; exact HL.out)
          have CS := Lib.hid (steps_any (stL l []) (by have := HM.out; omega) _ a4 c4 w4 (by rw [HSL.out]; exact h4))
          unfold StsEnd at CS
          simp only [HSL.out] at CS
          have H4 := Lib.hid h4
          have HK34 := Lib.hid k4
          have K4 := Lib.hid (K3.out.trans k4 (fun _ _ e => e))
          clear h4 k4 CO
          go_wp2_with fail
          refine CS.out.mono ?_
          rintro e w5 ⟨a5, c5, rfl, h5, k5⟩
          obtain ⟨cc, es, U, E, vs, te, tls, hes, row, sls, own, zw⟩ := HI.out.ex
          have K5 := Lib.hid (K4.out.trans k5 (fun _ _ e => e))
          have HK45 := Lib.hid k5
          have hlow := te.low
          have hn8' : j ≤ 8 := by omega
          have hlsl : (stA (Ls.take j)).length ≤ 8 := by unfold stA; rw [List.length_map, List.length_take]; omega
          have CA := Lib.hid (add_any (te.keptN K5.out) (stL l []) hRl (by omega) tls.far (fun n => by have := tls.bnd n; omega) (okM w4.heap.size w5) (fun b o hb => ⟨hb.2.1, by
            by_cases e : cc b = 0
            · exact e
            · have h1 := hlow b e
              have h2 := K4.out.size
              have h3 := hb.1
              omega⟩) a5 c5 (by rw [HSL.out]; exact h5))
          simp only [HSL.out] at CA
          have tls6 := tls.add hRl
          rw [← stA_snoc, ← HTK.out] at tls6
          have HC4 : Hid (∀ b o, okM w3.heap.size w4 b o → b < wr.heap.size + 0 ∨ cc b = 0 ∧ wr.heap.size ≤ b) := Lib.hid (fun b o hb => .inr (by
            have h2 := K3.out.size
            have h3 := hb.1
            refine ⟨?_, by omega⟩
            by_cases e : cc b = 0
            · exact e
            · have h1 := hlow b e
              omega))
          clear h5 k5 CS
          go_wp2_with fail
          refine CA.out.mono ?_
          rintro e w6 ⟨a6, cp6, c6, rfl, hI6, ho6, _, t6⟩
          have hcz : ∀ b o, okM w3.heap.size w4 b o → cc b = 0 := fun b o hb => by
            rcases HC4.out b o hb with h | h
            · have h2 := K3.out.size
              have h3 := hb.1
              omega
            · exact h.1
          have h46 : SHolds w6 (okM w3.heap.size w4) (.slice a4 (stL l []).length c4) (stL l []) := by
            rw [HSL.out]
            exact (H4.out.keptN HK45.out).kept t6.kept (fun b o hb e => e.1 (hcz b o hb))
          have CC := Lib.hid (refChainsN (stL l []) (okM w3.heap.size w4) a4 c4 w6 h46 (fun b o hb => by
            have h1 := hb.2.1
            have h2 := t6.kept.size
            have h3 := HK45.out.size
            omega) (by have := HCn.out; omega))
          simp only [HSL.out] at CC
          have hch := hRl.chs
          obtain ⟨m, hmc⟩ : ∃ m, (chSL (stL l []) []).length = m := ⟨_, rfl⟩
          have HMC := Lib.hid hmc
          simp only [hmc] at CC hch
          have row6 := Lib.hid ((row.keptN K5.out).keptF t6.kept (fun b e f => f.1 (own b e)))
          have HROW := Lib.hid row
          have HT6 := Lib.hid t6
          have HTLS := Lib.hid tls6
          have HESL := Lib.hid (Nat.le_trans (addAll_len (chSL (stL l []) []) es) (show es.length + (chSL (stL l []) []).length ≤ 16 * (j + 1) by omega))
          have HSLS := Lib.hid sls
          have HOWN := Lib.hid own
          have HZW := Lib.hid zw
          have HCZ := Lib.hid hcz
          have HLOW := Lib.hid hlow
          have hvl : vs.length ≤ 128 := by have h1 := sls.1; have h2 := HI.out.len; omega
          clear te tls hes row sls own zw hlow hcz t6 tls6 h46 hmc CA hI6 ho6
          go_wp2_with fail
          refine CC.out.mono ?_
          rintro e w7 ⟨a7, c7, vals7, rfl, hI7, hS7, k7⟩
          have K67 := Lib.hid k7
          have hB7 : w.heap.size ≤ w7.heap.size := by
            have h1 := HK.out.size
            have h2 := K5.out.size
            have h3 := HT6.out.kept.size
            have h4 := k7.size
            omega
          obtain ⟨a8, c8, w8, hrun, hR8, k8, ho8⟩ := (row6.out.keptN k7).pushAll2 elsLQ cV_len cV_one (by decide) 47 hB7 (by omega) (c2 := c7) hI7 (by have := hS7.1; have := HMC.out; omega)
          have HS7 := Lib.hid hS7
          have HR8 := Lib.hid hR8
          have HK8 := Lib.hid k8
          have HO8 := Lib.hid ho8
          clear k7 hI7 hS7 hR8 k8 ho8 CC hB7
          go_wp2_with (refine wpList_append_run rfl (.tmp 38) (.tmp 40) 47 rfl _ _ rfl rfl hrun ?_)
          go_roundw
          case rel =>
            have s25 := K5.out.size
            have s56 := HT6.out.kept.size
            have s67 := K67.out.size
            have s78 := HK8.out.size
            have s23 := K3.out.size
            have s34 := HK34.out.size
            have s45 := HK45.out.size
            have s02 := HK.out.size
            have old : ∀ b, (Value.slice a2 n2 c2).ownBlock = some b → w.heap.size ≤ b ∧ b < wr.heap.size ∧ cc b = 0 := fun b e => by
              refine ⟨HROW.out.lowb e, ?_, HOWN.out b e⟩
              obtain ⟨cs, t, e2⟩ := HROW.out.isCb e
              exact (Array.getElem?_eq_some_iff.1 e2).1
            have new0 : ∀ b, w6.heap.size ≤ b → c6 b = 0 := fun b hb => by
              by_cases e : c6 b = 0
              · exact e
              · have := HT6.out.te.low b e; omega
            have z6 : ∀ b, b < w5.heap.size → cc b = 0 → c6 b = 0 := fun b hb hc => HT6.out.zero hb hc
            have S1 := (((HSLS.out.keptN K5.out).keptF HT6.out.kept (fun b o e f => f.1 e.2.1)).keptN K67.out).keptF HK8.out (fun b o e f => e.2.2 f)
            have S2 := HS7.out.keptF HK8.out (fun b o e f => by
              have h1 := old b f
              rcases e with e | e
              · have := e.1; omega
              · omega)
            have T1 := S1.mono (ok' := fun b _ => b < w8.heap.size ∧ c6 b = 0 ∧ (Value.slice a8 (n2 + m) c8).ownBlock ≠ some b) (fun b o e => ⟨by have := e.1; omega, z6 b (by have := e.1; omega) e.2.1, fun f => by
              rcases HO8.out b f with g | g
              · exact e.2.2 g
              · have := e.1; omega⟩)
            have T2 := S2.mono (ok' := fun b _ => b < w8.heap.size ∧ c6 b = 0 ∧ (Value.slice a8 (n2 + m) c8).ownBlock ≠ some b) (fun b o e => by
              rcases e with e | e
              · have h1 := e.1
                have h2 := e.2.1
                refine ⟨by omega, z6 b (by omega) (HCZ.out b o e), fun f => ?_⟩
                rcases HO8.out b f with g | g
                · have := old b g; omega
                · omega
              · refine ⟨by omega, new0 b e.1, fun f => ?_⟩
                rcases HO8.out b f with g | g
                · have := old b g; omega
                · omega)
            refine ⟨j + 1, a8, n2 + m, c8, hlt, by go_num, rfl, ⟨c6, _, _, _, _, (HT6.out.te.keptN K67.out).kept HK8.out (fun b e => z6 b (by have := old b e; omega) (old b e).2.2), HTLS.out, HESL.out, HR8.out, by rw [HTK.out, chA_snoc]; exact T1.append T2, fun b e => ?_, fun b hb => z6 b (by omega) (HZW.out b hb)⟩, ?_, ?_⟩
            · rcases HO8.out b e with g | g
              · exact z6 b (by have := old b g; omega) (old b g).2.2
              · exact new0 b (by omega)
            · exact (((HK.out.trans K5.out (fun _ _ e => e)).trans HT6.out.kept (fun i hi e => e.1 (HZW.out i hi))).trans K67.out (fun _ _ e => e)).trans HK8.out (fun i hi e => by have := old i e; omega)
            · rw [HTK.out, chA_snoc, List.length_append, HMC.out]
              have := HI.out.len
              omega
          case measure => simp [intOf]; omega
      · obtain rfl : j = n := by omega
        obtain ⟨cc, es, U, E, vs, te, tls, hes, row, sls, own, zw⟩ := hI.ex
        have hlenA := hI.len
        have et : Ls.take j = Ls := List.take_of_length_le (by have := HN.out; omega)
        rw [et] at tls sls hlenA
        obtain ⟨dn, dm, dl⟩ := disL_spec _ (chA Ls) rfl
        have CL := Lib.hid (len_any te tls dn (fun x => by rw [dm, chA_mem]))
        have CD := Lib.hid (distinct_any (chA Ls) (fun x hx => by
          have hx2 := (chA_mem Ls x).1 hx
          obtain ⟨l2, hl2, hx3⟩ := (usesL_pos hx2.1).1 hx2.2
          have := ((tls.tl.rl l2 hl2).chain hx3).mass
          omega) (by omega) _ vs (n := n2) (cap := c2) (row.toIn cV_len (by decide)) sls (fun b o hb => hb.1))
        have hdl : (disL (chA Ls)).length ≤ 200 := by omega
        generalize (disL (chA Ls)).length = d at *
        clear hI te tls row sls own zw
        go_wp2_with fail
        refine CL.out.mono ?_
        rintro e w3 ⟨rfl, rfl⟩
        go_wp2_with fail
        refine CD.out.mono ?_
        rintro e w4 ⟨a9, c9, rfl, k4⟩
        have K4 := Lib.hid k4
        clear k4 CD CL
        have e2 := cnt_eq d
        go_wp2_with fail
        refine (HA.out _).mono ?_
        rintro e w5 ⟨rfl, k5⟩
        go_wp2_with fail
        go_ret
        exact ⟨rfl, (HK.out.trans K4.out (fun _ _ e => e)).trans k5 (fun _ _ e => e)⟩
  · have e1 : decide ((8 : Int) < (n : Int)) = true := by simp; omega
    clear hn8
    go_wp2_with fail
    refine (HA.out _).mono ?_
    rintro e w3 ⟨rfl, k3⟩
    go_wp2_with fail
    go_ret
    exact ⟨rfl, K1.out.trans k3 (fun _ _ e => e)⟩
end
section
open Go.RowKit Go.ChangeShapes Go.WideShapes Go.ChangeAt Go.Deep
set_option maxRecDepth 100000

section
variable {H : Type} {enc : TypeId × Value → H}
/-- A slice opened: its elements' cells in a row, each opened by R. -/
theorem open_rowsN {Q : Type} [Inhabited Q] {W : World} {sp : Nat → Bool} {held : Bool} {t e : TypeId} {sz : Nat} (hu : Try.prog.underlying t = some (.slice e)) (hc : Try.prog.cellsOf e = sz) (hz : 0 < sz) (R : List Value → Q → Prop) {fuel : Nat} {c : Value} {x : DataW H × List MemPlace} (h : DataW.trod enc Try.prog W 0 sp held fuel t [c] = some x)
    (el : ∀ n, n < fuel → ∀ cs x, DataW.trod enc Try.prog W 0 sp held n e cs = some x → ∃ q, R cs q) :
    ∃ a len cap, c = .slice a len cap ∧ len ≤ cap ∧ cap ≤ maxLen ∧ (len = 0 ∨ ∃ (b o : Nat) (q : Nat → Q), a = some ⟨b, o, none⟩ ∧ b < W.heap.size ∧ ∀ i, i < len → ∃ cs, R cs (q i) ∧ W.rangeAt b (o + i * sz) cs) := by
  rcases DataW.trod_slice hu h with ⟨e2, _⟩ | ⟨a, len, cap, elems, rest, n', hn', e2, ex, _, hlc, hcm, hel, hat, _⟩
  · simp at e2
    subst e2
    exact ⟨none, 0, 0, rfl, Nat.le_refl _, Nat.zero_le _, .inl rfl⟩
  · simp at e2
    subst e2
    rw [hc] at hat
    have each : ∀ i, i < len → ∃ q : Q × List Value, R q.2 q.1 ∧ q.2.length = sz ∧ ∀ j v, q.2[j]? = some v → W.cell? ((a.add (i * sz)).add j) = some v := by
      intro i hi
      have h1 := hat i hi
      have hel' : elems[i]? = some elems[i] := List.getElem?_eq_getElem (by omega)
      rw [hel'] at h1
      obtain ⟨cs', h2, h3⟩ := Option.bind_eq_some_iff.1 h1
      obtain ⟨q, hq⟩ := el n' (by omega) cs' _ h3
      obtain ⟨_, hl, hcc⟩ := World.cells?_some h2
      refine ⟨⟨q, cs'⟩, hq, hl, fun j v hj => ?_⟩
      have hj' : cs'[j]? = some v := hj
      rw [hcc j (by have := (List.getElem?_eq_some_iff.1 hj').1; omega)]
      exact hj
    obtain ⟨q, hq⟩ := choose_lt each
    rcases Nat.eq_zero_or_pos len with rfl | hpos
    · exact ⟨some a, 0, cap, rfl, hlc, hcm, .inl rfl⟩
    · obtain ⟨b, o, spot⟩ := a
      obtain ⟨_, hl0, hq0⟩ := hq 0 hpos
      have c00 := hq0 0 _ (List.getElem?_eq_getElem (by omega))
      have hspot : spot = none := by simpa [Addr.add] using World.cell?_spot c00
      subst hspot
      refine ⟨some ⟨b, o, none⟩, len, cap, rfl, hlc, hcm, .inr ⟨b, o, fun i => (q i).1, rfl, ?_, fun i hi => ⟨(q i).2, (hq i hi).1, fun j v hj => ?_⟩⟩⟩
      · have := World.block_lt_of_cell? W _ c00
        simpa [Addr.add] using this
      · have := (hq i hi).2.2 j v hj
        rw [Addr.add_mid, Addr.add_mid] at this
        exact this
theorem cellsCl : Try.prog.cellsOf 23 = 1 := by kernel_rfl
theorem open_D {W : World} {base : Nat} {sp : Nat → Bool} {held : Bool} {v : Value} {d : DataW H} {p : List MemPlace} (hv : Value.okWide Try.prog W .any base 22 v) (h : DataW.Trod enc Try.prog W 0 sp held 22 v d p) :
    ∃ Ls vals a n cap, v = .slice a n cap ∧ n ≤ cap ∧ In cV 1 W a n vals ∧ Lcs W (fun b _ => b < W.heap.size) vals Ls := by
  obtain ⟨a0, n0, c0, rfl⟩ := okWide_slice Try.underlying22 hv
  obtain ⟨fuel, hf⟩ := h
  haveI : Inhabited (List Sh × Option Addr × Nat) := ⟨⟨[], none, 0⟩⟩
  obtain ⟨a, len, cap, e, hlc, _, hr⟩ := open_rowsN (Q := List Sh × Option Addr × Nat) Try.underlying22 cellsCl (by decide) (fun cs q => cs = [.slice q.2.1 q.1.length q.2.2] ∧ Holds cA W (fun b _ => b < W.heap.size) (.slice q.2.1 q.1.length q.2.2) q.1) (c := .slice a0 n0 c0) (by simpa [Value.cells] using hf) (fun n _ cs x hx => by
    have hl : cs.length = 1 := by
      rcases DataW.trod_slice Try.underlying23 hx with ⟨e2, _⟩ | ⟨_, _, _, _, _, _, _, e2, _⟩
      · rw [e2]; rfl
      · rw [e2]; rfl
    match cs, hl with
    | [c], _ =>
      obtain ⟨a, cap, l, rfl, _, hh⟩ := open_conds n c x hx
      exact ⟨⟨l, a, cap⟩, rfl, hh⟩)
  cases e
  rcases hr with rfl | ⟨b, o, q, rfl, hlt, hq⟩
  · exact ⟨[], [], a0, 0, c0, rfl, hlc, ⟨rfl, .inl rfl⟩, rfl, fun i l hi => by simp at hi⟩
  · refine ⟨(List.range n0).map fun i => (q i).1, (List.range n0).map fun i => ((q i).2.1, (q i).1.length, (q i).2.2), _, n0, c0, rfl, hlc, ⟨by simp, .inr ⟨b, o, rfl, hlt, fun j x i v hj hi => ?_⟩⟩, by simp, fun i l hi => ?_⟩
    · have hjl : j < n0 := by have := (List.getElem?_eq_some_iff.1 hj).1; simpa using this
      simp [hjl] at hj
      subst hj
      obtain ⟨cs, ⟨rfl, _⟩, hr⟩ := hq j hjl
      exact hr i v hi
    · have hil : i < n0 := by have := (List.getElem?_eq_some_iff.1 hi).1; simpa using this
      simp [hil] at hi
      subst hi
      obtain ⟨cs, ⟨_, hh⟩, _⟩ := hq i hil
      exact ⟨(q i).2.1, (q i).2.2, by simp [hil], hh⟩
end
theorem sharesD_any (Ls : List (List Sh)) (vals : List SlV) (a : Option Addr) (n cap : Nat) (w : World) (_ : n ≤ cap) (hr : In cV 1 w a n vals) (hs : Lcs w (fun b _ => b < w.heap.size) vals Ls) :
    Calls Try.prog 4 #[.slice a n cap] w fun e w' => e = .returned (.bool true) ∧ Kept Nil w w' := shares_any Ls _ vals hr hs (fun _ _ h => h)
end
end Go.Proofs.Ytodghgeghpbdlaa
