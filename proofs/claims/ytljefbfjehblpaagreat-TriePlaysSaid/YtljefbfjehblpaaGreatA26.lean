/- Layer cond: the law's own Small: what it lets through has at most so many conditions in it. – Layer cond: the reference's Check. – Layer scope: the law's own Fine: what it tells of is right, and few. – Layer trie: the law TriePlays, wherever its calls lie. – What comes into the law TriePlays, opened: calls, each with its conditions. -/
import Derived.Test.YtljefbfjehblpaaGreatA1
import Derived.Test.YtljefbfjehblpaaGreatA2
import Derived.Test.YtljefbfjehblpaaGreatA25
import Derived.Test.YtljefbfjehblpaaGreatA22
import Derived.Test.YtljefbfjehblpaaGreatA23
import Derived.Test.YtljefbfjehblpaaGreatA20
namespace Go.Proofs.YtljefbfjehblpaaGreat
section
open Go.RowKit
set_option maxRecDepth 100000

def SmallEnd (M g m : Nat) (s : Sh) (w : World) (e : Ending) (w' : World) : Prop :=
  ∃ (b : Bool) (m' : Nat), e = .returned (.bool b) ∧ Blk w' g 3 #[.int .i64 m'] ∧ Kept (fun k => k = g) w w' ∧ (b = true → m' = m + s.count ∧ m' ≤ M)
abbrev SmallIH (M : Nat) (subs : List Sh) : Prop := ∀ hd sb, Sh.mk hd sb ∈ subs → ∀ ok a cap w (g m : Nat) (deep : Int), Holds cA w ok (.slice a sb.length cap) sb → (∀ b o, ok b o → b ≠ g) → Blk w g 3 #[.int .i64 m] → m ≤ M → -1 ≤ deep → deep ≤ 5 →
  Calls Tryz.prog 54 #[vA hd (.slice a sb.length cap), .int .i64 deep, .int .i64 M, .pointer (some ⟨g, 0, none⟩)] w (SmallEnd M g m (.mk hd sb) w)
set_option maxHeartbeats 1000000 in
theorem small_step (M : Nat) (hM : M ≤ 5000) (k : Int) (x0 x1 x2 : Bool) (n0 n1 n2 : Int) (subs : List Sh) (len : Nat) (HL : Hid (subs.length = len)) (IH : Hid (SmallIH M subs))
    (ok : Nat → Nat → Prop) (a : Option Addr) (cap : Nat) (w : World) (g m : Nat) (deep : Int) (HH : Hid (Holds cA w ok (.slice a len cap) subs)) (HG : Hid (∀ b o, ok b o → b ≠ g)) (HB : Hid (Blk w g 3 #[.int .i64 m])) (hm : m ≤ M) (hd1 : -1 ≤ deep) (hd2 : deep ≤ 5) :
    Calls Tryz.prog 54 #[vA ⟨k, x0, x1, x2, n0, n1, n2⟩ (.slice a len cap), .int .i64 deep, .int .i64 M, .pointer (some ⟨g, 0, none⟩)] w (SmallEnd M g m (.mk ⟨k, x0, x1, x2, n0, n1, n2⟩ subs) w) := by
  have hg : g < w.heap.size := HB.out.lt
  have c0 : w.cell? ⟨g, 0, none⟩ = some (.int .i64 m) := by rw [HB.out.cell 0]; rfl
  have f0 : w.frozen? ⟨g, 0, none⟩ = false := HB.out.frozen 0
  have K0 := Lib.hid (((Kept.refl (fun k => k = g) w).setCell ⟨g, 0, none⟩ (.inl rfl) (.int .i64 ((m + 1 : Nat) : Int))).alloc (.cells #[.int .i64 k, .bool x0, .int .i64 n0, .bool x1, .int .i64 n1, .bool x2, .int .i64 n2, .slice a len cap] 72))
  have B0 := Lib.hid ((HB.out.set_ 0 (.int .i64 ((m + 1 : Nat) : Int))).alloc (.cells #[.int .i64 k, .bool x0, .int .i64 n0, .bool x1, .int .i64 n1, .bool x2, .int .i64 n2, .slice a len cap] 72))
  have hne : g ≠ w.heap.size := by omega
  by_cases h60 : m + 1 > M
  · go_enter Tryz.func54, Tryz.ntmps54
    go_wp2_with fail
    go_ret
    exact ⟨false, m + 1, rfl, by simpa using B0.out, by simpa using K0.out, fun h => by cases h⟩
  · have hs60 : decide ((M : Int) < (m : Int) + 1) = false := decide_eq_false (by omega)
    by_cases hdp : deep < 0
    · go_enter Tryz.func54, Tryz.ntmps54
      go_wp2_with fail
      go_ret
      exact ⟨false, m + 1, rfl, by simpa using B0.out, by simpa using K0.out, fun h => by cases h⟩
    · have hdn : decide (deep < 0) = false := decide_eq_false hdp
      go_enter Tryz.func54, Tryz.ntmps54
      go_wp2_with fail
      go_loopw [28] (fun i wr => ∃ j : Nat, j ≤ len ∧ i = .int .i64 j ∧ Blk wr g 3 #[.int .i64 ((m + 1 + countL (subs.take j) : Nat) : Int)] ∧ m + 1 + countL (subs.take j) ≤ M ∧ Kept (fun k => k = g) w wr) (fun i _ => len - (intOf i).toNat)
      case atStart => exact ⟨0, by omega, rfl, by simpa [countL] using B0.out, by simp [countL]; omega, by simpa using K0.out⟩
      case round =>
        obtain ⟨j, hj, rfl, hB, hle, hK⟩ := hrel
        have HK := Lib.hid hK
        have HB2 := Lib.hid hB
        have hjl : j ≤ M := by
          have h1 := length_countL (subs.take j)
          rw [List.length_take] at h1
          have := HL.out
          omega
        clear hK K0 B0 hB
        by_cases hlt : j < len
        · obtain ⟨⟨⟨k', x0', x1', x2', n0', n1', n2'⟩, sb⟩, hx⟩ : ∃ x, subs[j]? = some x := ⟨_, List.getElem?_eq_getElem (by have := HL.out; omega)⟩
          obtain ⟨b, o, a', cap', rfl, hok, hr, hs⟩ := (HH.out.kept HK.out (fun b o hb e => HG.out b o hb e)).at_ hx
          have HX := Lib.hid (IH.out _ _ (List.mem_of_getElem? hx))
          have HR := Lib.hid hr
          have HS := Lib.hid hs
          have HN := Lib.hid (countL_take_succ hx)
          clear hx hr hs hok
          generalize hcn : m + 1 + countL (subs.take j) = cn at HB2 hle
          have HCN := Lib.hid hcn
          clear hcn
          unfold SmallEnd at HX
          generalize (Sh.mk ⟨k', x0', x1', x2', n0', n1', n2'⟩ sb).count = cx at HX HN
          generalize sb.length = len' at HR HS HX
          go_wp2_with ((with_reducible refine wpList_load_A rfl (.tmp 30) rfl _ _ rfl ⟨k', x0', x1', x2', n0', n1', n2'⟩ (.slice a' len' cap') ?_ ?_)
                       · exact HR.out)
          refine (HX.out _ _ _ _ g cn (deep - 1) (HS.out.keptN ((Kept.refl Nil _).alloc _)) HG.out (HB2.out.alloc _) hle (by omega) (by omega)).mono ?_
          rintro e w2 ⟨r, m', rfl, b2, k2, hr2⟩
          cases r
          · go_wp2_with fail
            go_ret
            exact ⟨false, m', rfl, b2, (HK.out.alloc _).trans k2 (fun _ _ g => g), fun h => by cases h⟩
          · obtain ⟨rfl, hm'⟩ := hr2 rfl
            have HB3 := Lib.hid b2
            have HK2 := Lib.hid k2
            clear b2 k2 hr2
            go_wp2_with fail
            go_roundw
            case rel => exact ⟨j + 1, by omega, by go_num, by rw [HN.out, ← Nat.add_assoc, HCN.out]; exact HB3.out, by rw [HN.out, ← Nat.add_assoc, HCN.out]; exact hm', (HK.out.alloc _).trans HK2.out (fun _ _ g => g)⟩
            case measure => simp [intOf]; omega
        · obtain rfl : j = len := by omega
          have HE : Hid (subs.take j = subs) := Lib.hid (by rw [← HL.out]; simp)
          go_wp2_with fail
          go_ret
          refine ⟨true, _, rfl, HB2.out, HK.out, fun _ => ⟨?_, hle⟩⟩
          rw [HE.out]
          simp only [Sh.count]
          omega
theorem small_any (M : Nat) (hM : M ≤ 5000) : ∀ s : Sh, ∀ ok a cap w (g m : Nat) (deep : Int), Holds cA w ok (.slice a s.subs.length cap) s.subs → (∀ b o, ok b o → b ≠ g) → Blk w g 3 #[.int .i64 m] → m ≤ M → -1 ≤ deep → deep ≤ 5 →
    Calls Tryz.prog 54 #[vA s.hd (.slice a s.subs.length cap), .int .i64 deep, .int .i64 M, .pointer (some ⟨g, 0, none⟩)] w (SmallEnd M g m s w) := by
  refine Sh.ind fun hd subs ih ok a cap w g m deep h hg hb hm h1 h2 => ?_
  exact small_step M hM hd.k hd.x0 hd.x1 hd.x2 hd.n0 hd.n1 hd.n2 subs _ rfl (fun hd' sb hx => ih _ hx) ok a cap w g m deep h hg hb hm h1 h2
theorem smallM_any (M : Nat) (hM : M ≤ 5000) (s : Sh) (ok : Nat → Nat → Prop) (a : Option Addr) (cap : Nat) (w : World) (h : Holds cA w ok (.slice a s.subs.length cap) s.subs) (hok : ∀ b o, ok b o → b < w.heap.size) :
    Calls Tryz.prog 18 #[vA s.hd (.slice a s.subs.length cap), .int .i64 M] w fun e w' => ∃ b : Bool, e = .returned (.bool b) ∧ Kept Nil w w' ∧ (b = true → s.count ≤ M) := by
  have C := Lib.hid (fun w' (k : Kept Nil w w') (g : Nat) (hg : w.heap.size ≤ g) (hb : Blk w' g 3 #[.int .i64 (0 : Nat)]) => small_any M hM s ok a cap w' g 0 5 (h.keptN k) (fun b o hb => by have := hok b o hb; omega) hb (by omega) (by omega) (by omega))
  generalize s.subs.length = len at C ⊢
  generalize s.hd = hd at C ⊢
  obtain ⟨k, x0, x1, x2, n0, n1, n2⟩ := hd
  have K0 := Lib.hid (((Kept.refl Nil w).alloc (.cells #[.int .i64 k, .bool x0, .int .i64 n0, .bool x1, .int .i64 n1, .bool x2, .int .i64 n2, .slice a len cap] 72)).alloc (.cells #[.int .i64 0] 3))
  have B0 := Lib.hid (Blk.new (w.alloc (.cells #[.int .i64 k, .bool x0, .int .i64 n0, .bool x1, .int .i64 n1, .bool x2, .int .i64 n2, .slice a len cap] 72)) 3 #[.int .i64 0])
  clear h hok
  go_enter Tryz.func18, Tryz.ntmps18
  go_wp2_with fail
  refine (C.out _ K0.out (w.heap.size + 1) (by omega) (by simpa using B0.out)).mono ?_
  rintro e w2 ⟨r, m', rfl, b2, k2, hr2⟩
  have HR2 := Lib.hid hr2
  clear hr2
  go_wp2_with fail
  go_ret
  exact ⟨r, rfl, K0.out.trans k2 (fun i hi e => by omega), fun hb => by obtain ⟨e1, e2⟩ := HR2.out hb; omega⟩
theorem small60_any (s : Sh) (ok : Nat → Nat → Prop) (a : Option Addr) (cap : Nat) (w : World) (h : Holds cA w ok (.slice a s.subs.length cap) s.subs) (hok : ∀ b o, ok b o → b < w.heap.size) :
    Calls Tryz.prog 18 #[vA s.hd (.slice a s.subs.length cap), .int .i64 60] w fun e w' => ∃ b : Bool, e = .returned (.bool b) ∧ Kept Nil w w' ∧ (b = true → s.count ≤ 60) := smallM_any 60 (by decide) s ok a cap w h hok
end
section
open Go.RowKit
set_option maxRecDepth 100000

abbrev RefCheckIH (subs : List Sh) : Prop := ∀ hd sb, Sh.mk hd sb ∈ subs → ∀ ok a cap w (d : Int), 1 ≤ d → Holds cR w ok (.slice a sb.length cap) sb →
  Calls Tryz.prog 19 #[vR hd (.slice a sb.length cap), .int .i64 d] w fun e w' => e = .returned (.int .i64 ((Sh.mk hd sb).chk d)) ∧ Kept Nil w w'
theorem sameT_zero (h : Hd) : h.sameT zeroH = (decide (h.x0 = false ∧ h.n0 = 0) && (decide (h.x1 = false ∧ h.n1 = 0) && decide (h.x2 = false ∧ h.n2 = 0))) := by
  unfold Hd.sameT zeroH
  simp
set_option maxHeartbeats 2000000 in
theorem refTerms_part (k : Int) (x0 x1 x2 : Bool) (n0 n1 n2 : Int) (a : Option Addr) (len cap : Nat) (w : World) (d : Int) (hd3 : decide (3 < d) = false) (hk1 : 1 ≤ k) (hk2 : k < 3) :
    Calls Tryz.prog 19 #[vR ⟨k, x0, x1, x2, n0, n1, n2⟩ (.slice a len cap), .int .i64 d] w fun e w' => e = .returned (.int .i64 (termsT ⟨k, x0, x1, x2, n0, n1, n2⟩ len)) ∧ Kept Nil w w' := by
  have R0 := Lib.hid (fun W => refRight_any x0 n0 W)
  have R1 := Lib.hid (fun W => refRight_any x1 n1 W)
  have R2 := Lib.hid (fun W => refRight_any x2 n2 W)
  have HT : Hid (termsT ⟨k, x0, x1, x2, n0, n1, n2⟩ len = if (okTm x0 n0 && okTm x1 n1 && okTm x2 n2) = false then 4 else if 0 < len then 4 else 0) := Lib.hid rfl
  generalize hb0 : okTm x0 n0 = b0 at HT R0
  generalize hb1 : okTm x1 n1 = b1 at HT R1
  generalize hb2 : okTm x2 n2 = b2 at HT R2
  clear hb0 hb1 hb2
  have B0 := Lib.hid (Blk.new w 77 (arrR ⟨k, x0, x1, x2, n0, n1, n2⟩ (.slice a len cap)))
  have K0 := Lib.hid ((Kept.refl Nil w).alloc (.cells (arrR ⟨k, x0, x1, x2, n0, n1, n2⟩ (.slice a len cap)) 77))
  have q1 : decide (k < 1) = false := decide_eq_false (by omega)
  have q3 : decide (3 < k) = false := decide_eq_false (by omega)
  go_enter Tryz.func19, Tryz.ntmps19
  go_wp2_with fail
  go_loopw [5] (fun i wr => ((i = .int .i64 0) ∨ (i = .int .i64 1 ∧ b0 = true) ∨ (i = .int .i64 2 ∧ b0 = true ∧ b1 = true) ∨ (i = .int .i64 3 ∧ b0 = true ∧ b1 = true ∧ b2 = true)) ∧ Blk wr w.heap.size 77 (arrR ⟨k, x0, x1, x2, n0, n1, n2⟩ (.slice a len cap)) ∧ Kept Nil w wr) (fun i _ => (3 - intOf i).toNat)
  case atStart => exact ⟨.inl rfl, B0.out, K0.out⟩
  case round =>
    obtain ⟨hrel, hB, hK⟩ := hrel
    have HB := Lib.hid hB
    have HK := Lib.hid hK
    have c1 := hB.cell 1
    have c2 := hB.cell 2
    have c3 := hB.cell 3
    have c4 := hB.cell 4
    have c5 := hB.cell 5
    have c6 := hB.cell 6
    have c7 := hB.cell 7
    simp at c1 c2 c3 c4 c5 c6 c7
    clear hB hK B0 K0
    rcases hrel with rfl | ⟨rfl, rfl⟩ | ⟨rfl, rfl, rfl⟩ | ⟨rfl, rfl, rfl, rfl⟩
    · go_wp2_with fail
      refine (R0.out _).mono ?_
      rintro e w2 ⟨rfl, k2⟩
      have KB := Lib.hid (HB.out.kept k2 id)
      clear c1 c2 c3 c4 c5 c6 c7
      cases b0
      · go_wp2_with fail
        go_ret
        exact ⟨by rw [HT.out]; rfl, HK.out.trans k2 (fun _ _ g => g)⟩
      · go_wp2_with fail
        go_roundw
        case rel => exact ⟨by simp, KB.out, HK.out.trans k2 (fun _ _ g => g)⟩
        case measure => decide
    · go_wp2_with fail
      refine (R1.out _).mono ?_
      rintro e w2 ⟨rfl, k2⟩
      have KB := Lib.hid (HB.out.kept k2 id)
      clear c1 c2 c3 c4 c5 c6 c7
      cases b1
      · go_wp2_with fail
        go_ret
        exact ⟨by rw [HT.out]; rfl, HK.out.trans k2 (fun _ _ g => g)⟩
      · go_wp2_with fail
        go_roundw
        case rel => exact ⟨by simp, KB.out, HK.out.trans k2 (fun _ _ g => g)⟩
        case measure => decide
    · go_wp2_with fail
      refine (R2.out _).mono ?_
      rintro e w2 ⟨rfl, k2⟩
      have KB := Lib.hid (HB.out.kept k2 id)
      clear c1 c2 c3 c4 c5 c6 c7
      cases b2
      · go_wp2_with fail
        go_ret
        exact ⟨by rw [HT.out]; rfl, HK.out.trans k2 (fun _ _ g => g)⟩
      · go_wp2_with fail
        go_roundw
        case rel => exact ⟨by simp, KB.out, HK.out.trans k2 (fun _ _ g => g)⟩
        case measure => decide
    · by_cases hl : 0 < len
      · go_wp2_with fail
        go_ret
        exact ⟨by rw [HT.out]; simp [hl], HK.out⟩
      · have hd : decide (0 < len) = false := decide_eq_false hl
        go_wp2_with fail
        go_ret
        exact ⟨by rw [HT.out]; simp [hl], HK.out⟩
theorem isV_true : isV true = 1 := rfl
theorem isV_false : isV false = 0 := rfl
set_option maxHeartbeats 2000000 in
theorem refNcc_part (x0 x1 x2 : Bool) (n0 n1 n2 : Int) (subs : List Sh) (len : Nat) (HL : Hid (subs.length = len)) (hLen : len ≤ 5000) (IH : Hid (RefCheckIH subs))
    (ok : Nat → Nat → Prop) (a : Option Addr) (cap : Nat) (w : World) (HH : Hid (Holds cR w ok (.slice a len cap) subs)) (d : Int) (hd1 : 1 ≤ d) (hd2 : d ≤ 3) :
    Calls Tryz.prog 19 #[vR ⟨3, x0, x1, x2, n0, n1, n2⟩ (.slice a len cap), .int .i64 d] w fun e w' => e = .returned (.int .i64 (nccT ⟨3, x0, x1, x2, n0, n1, n2⟩ subs d)) ∧ Kept Nil w w' := by
  have HT : Hid (nccT ⟨3, x0, x1, x2, n0, n1, n2⟩ subs d = if (decide (x0 = false ∧ n0 = 0) && (decide (x1 = false ∧ n1 = 0) && decide (x2 = false ∧ n2 = 0))) = false then 4 else if len = 0 then 2 else chkL subs (d + 1)) := Lib.hid (by rw [← HL.out]; unfold nccT; rw [sameT_zero])
  have B0 := Lib.hid (Blk.new w 77 (arrR ⟨3, x0, x1, x2, n0, n1, n2⟩ (.slice a len cap)))
  have K0 := Lib.hid ((Kept.refl Nil w).alloc (.cells (arrR ⟨3, x0, x1, x2, n0, n1, n2⟩ (.slice a len cap)) 77))
  have hd3 : decide (3 < d) = false := decide_eq_false (by omega)
  have v1 := isV_true
  have v0 := isV_false
  go_enter Tryz.func19, Tryz.ntmps19
  go_wp2_with fail
  go_loopw [6] (fun i wr => ((i = .int .i64 0) ∨ (i = .int .i64 1 ∧ (x0 = false ∧ n0 = 0)) ∨ (i = .int .i64 2 ∧ (x0 = false ∧ n0 = 0) ∧ (x1 = false ∧ n1 = 0)) ∨ (i = .int .i64 3 ∧ (x0 = false ∧ n0 = 0) ∧ (x1 = false ∧ n1 = 0) ∧ (x2 = false ∧ n2 = 0))) ∧ Blk wr w.heap.size 77 (arrR ⟨3, x0, x1, x2, n0, n1, n2⟩ (.slice a len cap)) ∧ Kept Nil w wr) (fun i _ => (3 - intOf i).toNat)
  case atStart => exact ⟨.inl rfl, B0.out, K0.out⟩
  case round =>
    obtain ⟨hrel, hB, hK⟩ := hrel
    have HB := Lib.hid hB
    have HK := Lib.hid hK
    have c1 := hB.cell 1
    have c2 := hB.cell 2
    have c3 := hB.cell 3
    have c4 := hB.cell 4
    have c5 := hB.cell 5
    have c6 := hB.cell 6
    have c7 := hB.cell 7
    simp only [arrR] at c1 c2 c3 c4 c5 c6 c7
    simp at c1 c2 c3 c4 c5 c6 c7
    clear hB hK B0 K0
    rcases hrel with rfl | ⟨rfl, rfl, rfl⟩ | ⟨rfl, ⟨rfl, rfl⟩, rfl, rfl⟩ | ⟨rfl, ⟨rfl, rfl⟩, ⟨rfl, rfl⟩, rfl, rfl⟩
    · cases x0
      · by_cases hn : n0 = 0
        · subst hn
          go_wp2_with fail
          go_roundw
          case rel => exact ⟨by simp, HB.out, HK.out⟩
          case measure => decide
        · have hn' : (n0 == 0) = false := by simpa using hn
          go_wp2_with fail
          go_ret
          exact ⟨by rw [HT.out]; simp [hn], HK.out⟩
      · go_wp2_with fail
        go_ret
        exact ⟨by rw [HT.out]; simp, HK.out⟩
    · cases x1
      · by_cases hn : n1 = 0
        · subst hn
          go_wp2_with fail
          go_roundw
          case rel => exact ⟨by simp, HB.out, HK.out⟩
          case measure => decide
        · have hn' : (n1 == 0) = false := by simpa using hn
          go_wp2_with fail
          go_ret
          exact ⟨by rw [HT.out]; simp [hn], HK.out⟩
      · go_wp2_with fail
        go_ret
        exact ⟨by rw [HT.out]; simp, HK.out⟩
    · cases x2
      · by_cases hn : n2 = 0
        · subst hn
          go_wp2_with fail
          go_roundw
          case rel => exact ⟨by simp, HB.out, HK.out⟩
          case measure => decide
        · have hn' : (n2 == 0) = false := by simpa using hn
          go_wp2_with fail
          go_ret
          exact ⟨by rw [HT.out]; simp [hn], HK.out⟩
      · go_wp2_with fail
        go_ret
        exact ⟨by rw [HT.out]; simp, HK.out⟩
    · clear c1 c2 c3 c4 c5 c6
      rcases Nat.eq_zero_or_pos len with rfl | hpos
      · go_wp2_with fail
        go_ret
        exact ⟨by rw [HT.out]; simp, HK.out⟩
      · have h0 : len ≠ 0 := by omega
        have h0' : ((len : Int) == 0) = false := by simp; omega
        have HT2 : Hid (nccT ⟨3, false, false, false, 0, 0, 0⟩ subs d = chkL subs (d + 1)) := Lib.hid (by rw [HT.out]; simp [h0])
        clear HT
        go_wp2_with fail
        go_loopw [62] (fun i wr => ∃ j : Nat, j ≤ len ∧ i = .int .i64 j ∧ chkL subs (d + 1) = chkL (subs.drop j) (d + 1) ∧ Kept Nil w wr) (fun i _ => len - (intOf i).toNat)
        case atStart => exact ⟨0, by omega, rfl, rfl, HK.out⟩
        case round =>
          obtain ⟨j, hj, rfl, hch, hK⟩ := hrel
          have HK := Lib.hid hK
          have HCh := Lib.hid hch
          clear hK hch c7
          by_cases hlt : j < len
          · obtain ⟨⟨⟨k', x0', x1', x2', n0', n1', n2'⟩, sb⟩, hx⟩ : ∃ x, subs[j]? = some x := ⟨_, List.getElem?_eq_getElem (by have := HL.out; omega)⟩
            obtain ⟨b, o, a', cap', rfl, hok, hr, hs⟩ := (HH.out.keptN HK.out).at_ hx
            have HX := Lib.hid (IH.out _ _ (List.mem_of_getElem? hx))
            have HR := Lib.hid hr
            have HS := Lib.hid hs
            have HN := Lib.hid (chkL_drop hx (d + 1))
            clear hx hr hs hok
            have HX2 : Hid (∀ w, Holds cR w ok (.slice a' sb.length cap') sb → Calls Tryz.prog 19 #[vR ⟨k', x0', x1', x2', n0', n1', n2'⟩ (.slice a' sb.length cap'), .int .i64 (d + 1)] w fun e w' => e = .returned (.int .i64 ((Sh.mk ⟨k', x0', x1', x2', n0', n1', n2'⟩ sb).chk (d + 1))) ∧ Kept Nil w w') := Lib.hid fun w h => HX.out ok a' cap' w (d + 1) (by omega) h
            clear HX
            generalize hv : (Sh.mk ⟨k', x0', x1', x2', n0', n1', n2'⟩ sb).chk (d + 1) = v at HX2 HN
            clear hv
            generalize sb.length = len' at HR HS HX2
            go_wp2_with ((with_reducible refine wpList_load_R rfl (.tmp 64) rfl _ _ rfl ⟨k', x0', x1', x2', n0', n1', n2'⟩ (.slice a' len' cap') ?_ ?_)
                         · exact HR.out)
            refine (HX2.out _ (HS.out.keptN ((Kept.refl Nil _).alloc _))).mono ?_
            rintro e w2 ⟨rfl, k2⟩
            by_cases hv : v = 0
            · subst hv
              go_wp2_with fail
              go_roundw
              case rel => exact ⟨j + 1, by omega, by go_num, by rw [HCh.out, HN.out]; simp, (HK.out.alloc _).trans k2 (fun _ _ g => g)⟩
              case measure => simp [intOf]; omega
            · have hv' : (v == 0) = false := by simpa using hv
              go_wp2_with fail
              go_ret
              exact ⟨by rw [HT2.out, HCh.out, HN.out]; simp [hv], (HK.out.alloc _).trans k2 (fun _ _ g => g)⟩
          · obtain rfl : j = len := by omega
            have HE : Hid (chkL (subs.drop j) (d + 1) = 0) := Lib.hid (by rw [← HL.out, List.drop_length]; rfl)
            go_wp2_with fail
            go_ret
            exact ⟨by rw [HT2.out, HCh.out, HE.out]; rfl, HK.out⟩
theorem refCheck_step (hd : Hd) (subs : List Sh) (hLen : subs.length ≤ 5000) (IH : Hid (RefCheckIH subs))
    (ok : Nat → Nat → Prop) (a : Option Addr) (cap : Nat) (w : World) (h : Holds cR w ok (.slice a subs.length cap) subs) (d : Int) (hd1 : 1 ≤ d) :
    Calls Tryz.prog 19 #[vR hd (.slice a subs.length cap), .int .i64 d] w fun e w' => e = .returned (.int .i64 ((Sh.mk hd subs).chk d)) ∧ Kept Nil w w' := by
  rw [chk_mk]
  obtain ⟨k, x0, x1, x2, n0, n1, n2⟩ := hd
  by_cases h3 : 3 < d
  · rw [if_pos h3]
    clear IH h
    generalize subs.length = len
    have K0 := Lib.hid ((Kept.refl Nil w).alloc (.cells (arrR ⟨k, x0, x1, x2, n0, n1, n2⟩ (.slice a len cap)) 77))
    go_enter Tryz.func19, Tryz.ntmps19
    go_wp2_with fail
    go_ret
    exact ⟨rfl, K0.out⟩
  · rw [if_neg h3]
    by_cases hk : k = 3
    · subst hk
      rw [if_pos rfl]
      exact refNcc_part x0 x1 x2 n0 n1 n2 subs _ rfl hLen IH ok a cap w h d hd1 (by omega)
    · rw [if_neg hk]
      by_cases hk2 : k = 1 ∨ k = 2
      · rw [if_pos hk2]
        exact refTerms_part k x0 x1 x2 n0 n1 n2 a _ cap w d (decide_eq_false h3) (by omega) (by omega)
      · rw [if_neg hk2]
        clear IH h
        generalize subs.length = len
        have K0 := Lib.hid ((Kept.refl Nil w).alloc (.cells (arrR ⟨k, x0, x1, x2, n0, n1, n2⟩ (.slice a len cap)) 77))
        have hd3 : decide (3 < d) = false := decide_eq_false h3
        by_cases hlo : k < 1
        · go_enter Tryz.func19, Tryz.ntmps19
          go_wp2_with fail
          go_ret
          exact ⟨rfl, K0.out⟩
        · have hlo' : decide (k < 1) = false := decide_eq_false hlo
          have hhi : 3 < k := by omega
          go_enter Tryz.func19, Tryz.ntmps19
          go_wp2_with fail
          go_ret
          exact ⟨rfl, K0.out⟩
theorem refCheck_any : ∀ s : Sh, s.count ≤ 5000 → ∀ ok a cap w (d : Int), 1 ≤ d → Holds cR w ok (.slice a s.subs.length cap) s.subs →
    Calls Tryz.prog 19 #[vR s.hd (.slice a s.subs.length cap), .int .i64 d] w fun e w' => e = .returned (.int .i64 (s.chk d)) ∧ Kept Nil w w' := by
  refine Sh.ind fun hd subs ih hc ok a cap w d h1 h => ?_
  have hc' : 1 + countL subs ≤ 5000 := by simpa [Sh.count] using hc
  have hl := length_countL subs
  exact refCheck_step hd subs (by omega) (fun hd' sb hx ok a cap w d' h1 hh => ih _ hx (by have := count_mem hx; omega) ok a cap w d' h1 hh) ok a cap w h d h1
end
section
open Go.RowKit
set_option maxRecDepth 100000

/-- A bool; where it is true, something holds. -/
def YesEnd (T : Prop) (w : World) (e : Ending) (w' : World) : Prop := ∃ b : Bool, e = .returned (.bool b) ∧ Kept Nil w w' ∧ (b = true → T)
set_option maxHeartbeats 2000000 in
theorem fineL_any (l : List Sh) (ok : Nat → Nat → Prop) (a : Option Addr) (cap : Nat) (w : World) (h : Holds cA w ok (.slice a l.length cap) l) (hok : ∀ b o, ok b o → b < w.heap.size) :
    Calls Tryz.prog 6 #[.slice a l.length cap] w (YesEnd (countL l ≤ 16 ∧ chkL l 1 = 0) w) := by
  have CS : Hid (∀ w', Kept Nil w w' → Calls Tryz.prog 18 #[vA zeroH (.slice a l.length cap), .int .i64 18] w' fun e w'' => ∃ b : Bool, e = .returned (.bool b) ∧ Kept Nil w' w'' ∧ (b = true → 1 + countL l ≤ 18)) := Lib.hid fun w' k => by
    have := smallM_any 18 (by omega) (.mk zeroH l) ok a cap w' (h.keptN k) (fun b o hb => Nat.lt_of_lt_of_le (hok b o hb) k.size)
    refine this.mono ?_
    rintro e w'' ⟨b, h1, h2, h3⟩
    exact ⟨b, h1, h2, fun hb => by have := h3 hb; simpa only [Sh.count] using this⟩
  have CR : Hid (∀ w', Kept Nil w w' → countL l ≤ 5000 → Calls Tryz.prog 8 #[.slice a l.length cap] w' (ListEnd l w')) := Lib.hid fun w' k hc => refL_any l hc ok a cap w' (h.keptN k)
  obtain ⟨len, hlen⟩ : ∃ n, l.length = n := ⟨_, rfl⟩
  have HL := Lib.hid hlen
  rw [hlen] at CS CR ⊢
  clear h hok hlen
  go_enter Tryz.func6, Tryz.ntmps6
  go_wp2_with fail
  refine (CS.out _ (Kept.refl _ _)).mono ?_
  rintro e w1 ⟨b, rfl, k1, hb⟩
  have K1 := Lib.hid k1
  have HB := Lib.hid hb
  clear k1 hb CS
  cases b
  · go_wp2_with fail
    go_ret
    exact ⟨false, rfl, K1.out, fun h => by cases h⟩
  · have HCn : Hid (countL l ≤ 17) := Lib.hid (by have := HB.out rfl; omega)
    go_wp2_with fail
    refine (CR.out _ K1.out (by have := HCn.out; omega)).mono ?_
    rintro e w2 ⟨a2, c2, rfl, h2, k2⟩
    have K2 := Lib.hid (K1.out.trans k2 (fun _ _ g => g))
    have H2 := Lib.hid h2
    rw [HL.out] at H2 ⊢
    have hLen : len ≤ 17 := by have := length_countL l; have := HCn.out; have := HL.out; omega
    clear k2 h2 CR HB
    go_wp2_with fail
    go_loopw [3, 13] (fun n i wr => ∃ j m : Nat, j ≤ len ∧ i = .int .i64 j ∧ n = .int .i64 m ∧ m = countL (l.take j) ∧ chkL (l.take j) 1 = 0 ∧ Kept Nil w2 wr) (fun _ i _ => len - (intOf i).toNat)
    case atStart => exact ⟨0, 0, by omega, rfl, rfl, by rw [List.take_zero]; rfl, by rw [List.take_zero]; rfl, Kept.refl _ _⟩
    case round =>
      obtain ⟨j, m, hj, rfl, rfl, hm, hk, hK⟩ := hrel
      have HK := Lib.hid hK
      have HM := Lib.hid hm
      have HCk := Lib.hid hk
      clear hK hm hk
      by_cases hlt : j < len
      · obtain ⟨⟨⟨k', x0', x1', x2', n0', n1', n2'⟩, sb⟩, hx⟩ : ∃ x, l[j]? = some x := ⟨_, List.getElem?_eq_getElem (by have := HL.out; omega)⟩
        obtain ⟨b, o, a', cap', rfl, hok, hr, hs⟩ := (H2.out.keptN HK.out).at_ hx
        have hm5 : (Sh.mk ⟨k', x0', x1', x2', n0', n1', n2'⟩ sb).count ≤ 5000 := mem_count (Nat.le_trans HCn.out (show 17 ≤ 5000 by decide)) (List.mem_of_getElem? hx)
        have hsum := countL_take_succ hx
        have hle := countL_take_le l (j + 1)
        have HX1 : Hid (∀ W, Kept Nil wr W → Calls Tryz.prog 19 #[vR ⟨k', x0', x1', x2', n0', n1', n2'⟩ (.slice a' sb.length cap'), .int .i64 1] W fun e w' => e = .returned (.int .i64 ((Sh.mk ⟨k', x0', x1', x2', n0', n1', n2'⟩ sb).chk 1)) ∧ Kept Nil W w') := Lib.hid fun W kW => refCheck_any _ hm5 _ a' cap' W 1 (by omega) (hs.keptN kW)
        have HX2 : Hid (∀ W, Kept Nil wr W → Calls Tryz.prog 20 #[vR ⟨k', x0', x1', x2', n0', n1', n2'⟩ (.slice a' sb.length cap')] W fun e w' => e = .returned (.int .i64 ((Sh.mk ⟨k', x0', x1', x2', n0', n1', n2'⟩ sb).count : Int)) ∧ Kept Nil W w') := Lib.hid fun W kW => refSize_any _ hm5 _ a' cap' W (hs.keptN kW)
        have HRng := Lib.hid hr
        have h16 : m + (Sh.mk ⟨k', x0', x1', x2', n0', n1', n2'⟩ sb).count ≤ 17 := by have := HCn.out; have := HM.out; omega
        have HS : Hid (m + (Sh.mk ⟨k', x0', x1', x2', n0', n1', n2'⟩ sb).count = countL (l.take (j + 1))) := Lib.hid (by rw [HM.out, hsum])
        have HCk1 : Hid ((Sh.mk ⟨k', x0', x1', x2', n0', n1', n2'⟩ sb).chk 1 = 0 → chkL (l.take (j + 1)) 1 = 0) := Lib.hid fun h0 => chkL_all.2 fun s hs' => by
          rw [List.take_add_one, hx] at hs'
          rcases List.mem_append.1 hs' with hs' | hs'
          · exact chkL_all.1 HCk.out s hs'
          · simp at hs'; subst hs'; exact h0
        generalize (Sh.mk ⟨k', x0', x1', x2', n0', n1', n2'⟩ sb).count = c at HX2 HS h16
        generalize (Sh.mk ⟨k', x0', x1', x2', n0', n1', n2'⟩ sb).chk 1 = q at HX1 HCk1
        generalize sb.length = len' at HX1 HX2 HRng
        clear hx hr hs hok hm5 hsum hle
        have hw : IntKind.i64.wrap ((m : Int) + (c : Int)) = ((m + c : Nat) : Int) := by rw [IntKind.wrap_i64]; omega
        go_wp2_with ((with_reducible refine wpList_load_R rfl (.tmp 15) rfl _ _ rfl ⟨k', x0', x1', x2', n0', n1', n2'⟩ (.slice a' len' cap') ?_ ?_)
                     · exact HRng.out)
        have KA := Lib.hid ((Kept.refl Nil wr).alloc (.cells (arrR ⟨k', x0', x1', x2', n0', n1', n2'⟩ (.slice a' len' cap')) 77))
        refine (HX1.out _ KA.out).mono ?_
        rintro e w3 ⟨rfl, k3⟩
        have K3 := Lib.hid (KA.out.trans k3 (fun _ _ g => g))
        have B3 := Lib.hid ((Blk.new wr 77 (arrR ⟨k', x0', x1', x2', n0', n1', n2'⟩ (.slice a' len' cap'))).kept k3 id)
        clear k3 KA
        by_cases hq : q = 0
        · subst hq
          have HCk2 := Lib.hid (HCk1.out rfl)
          go_wp2_with ((with_reducible refine wpList_load_R rfl (.tmp 5) rfl _ _ rfl ⟨k', x0', x1', x2', n0', n1', n2'⟩ (.slice a' len' cap') ?_ ?_)
                       · exact World.rangeAt_of_block B3.out 0 8)
          refine (HX2.out _ K3.out).mono ?_
          rintro e w4 ⟨rfl, k4⟩
          have K4 := Lib.hid (HK.out.trans (K3.out.trans k4 (fun _ _ g => g)) (fun _ _ g => g))
          clear k4
          go_wp2_with fail
          go_roundw
          case rel => exact ⟨j + 1, m + c, by omega, by go_num, by go_num, HS.out, HCk2.out, K4.out⟩
          case measure => simp [intOf]; omega
        · have hq' : (q != 0) = true := by simpa using hq
          clear hq
          go_wp2_with fail
          go_ret
          exact ⟨false, rfl, K2.out.trans (HK.out.trans K3.out (fun _ _ g => g)) (fun _ _ g => g), fun h => by cases h⟩
      · obtain rfl : j = len := by omega
        have HE : Hid (l.take j = l) := Lib.hid (by rw [← HL.out]; simp)
        go_wp2_with fail
        go_ret
        refine ⟨decide ((m : Int) ≤ 16), rfl, K2.out.trans HK.out (fun _ _ g => g), fun h => ?_⟩
        have h1 := HM.out
        have h2 := HCk.out
        rw [HE.out] at h1 h2
        exact ⟨by have := of_decide_eq_true h; omega, h2⟩
end
section
open Go.RowKit Go.Maps Go.WideMaps
set_option maxRecDepth 1000000

/-- Conditions that the law goes on with. -/
abbrev GoesT (l : List Sh) : Prop := countL l ≤ 16 ∧ chkL l 1 = 0
theorem stL_right' {l : List Sh} (h : GoesT l) : Rl (stL l []) := ⟨stL_right h.2 (by have := h.1; simp; omega), by have := st_cnt.2 l []; have := h.1; omega⟩
/-- A call: whether it takes away; where its conditions lie. -/
abbrev OpV := Bool × Option Addr × Nat × Nat
def cOp (x : OpV) : List Value := [.bool x.1, .slice x.2.1 x.2.2.1 x.2.2.2]
def OpsAt (w : World) (ok : Nat → Nat → Prop) (vs : List OpV) (Ls : List (Bool × List Sh)) : Prop := vs.length = Ls.length ∧ ∀ (j : Nat) g l, Ls[j]? = some (g, l) → ∃ bx cx, vs[j]? = some (g, bx, l.length, cx) ∧ Holds cA w ok (.slice bx l.length cx) l
/-- The document's trie without lists. -/
theorem RT.new {w : World} {q : Nat} (h : Blk w q 30 #[.slice none 0 0, .slice none 0 0, .slice none 0 0]) : RT w (fun b => if b = q then 1 else 0) q [] [] := by
  refine ⟨none, 0, 0, none, 0, 0, none, 0, 0, [], [], [], ⟨fun b e => ?_, by simp, h, Row.nil _ _, Row.nil _ _, Row.nil _ _, fun b e => (by cases e), fun b e => (by cases e), fun b e => (by cases e), ⟨rfl, fun i l hi => by simp at hi⟩, rfl, rfl, fun i x e => ?_, fun i hi => by simp at hi⟩⟩
  · by_cases hb : b = q
    · subst hb; exact h.lt
    · simp [hb] at e
  · have := (ent_two (es := ([] : En)) (by omega)).1 e
    simp at this
/-- Between two rounds. -/
structure PI (w : World) (p q : Nat) (j : Nat) (W : World) : Prop where
  ex : ∃ c cr ls es U E, Both W c p cr q ls es U E ∧ ls.length ≤ j ∧ es.length ≤ 16 * j ∧ (∀ b, c b ≠ 0 → cr b = 0) ∧ ∀ b, b < w.heap.size → c b = 0 ∧ cr b = 0
  kept : Kept Nil w W
theorem apart_next {c cr c' cr' : Nat → Nat} {n0 n1 : Nat} (h : ∀ b, c b ≠ 0 → cr b = 0) (hl : ∀ b, c b ≠ 0 → b < n0) (hr : ∀ b, cr' b ≠ 0 → cr b ≠ 0 ∨ n0 ≤ b) (hrl : ∀ b, cr' b ≠ 0 → b < n1) (hc : ∀ b, c' b ≠ 0 → c b ≠ 0 ∨ n1 ≤ b) : ∀ b, c' b ≠ 0 → cr' b = 0 := fun b hb => by
  by_cases e : cr' b = 0
  · exact e
  · exfalso
    rcases hc b hb with g | g
    · have h1 := h b g
      have h2 := hl b g
      rcases hr b e with f | f
      · exact f h1
      · omega
    · have := hrl b e; omega
section
variable {w : World}
set_option maxHeartbeats 16000000 in
theorem plays_law (Ls : List (Bool × List Sh)) (ok : Nat → Nat → Prop) (vs : List OpV) {a : Option Addr} {n cap : Nat} (hr : In cOp 2 w a n vs) (hs : OpsAt w ok vs Ls) (hok : ∀ b o, ok b o → b < w.heap.size) :
    Calls Tryz.prog 3 #[.slice a n cap] w fun e w' => e = .returned (.bool true) ∧ Kept Nil w w' := by
  have HR := Lib.hid hr
  have HS := Lib.hid hs
  have HOK := Lib.hid hok
  have HN := Lib.hid (show n = Ls.length by rw [← hr.1, hs.1])
  have HA := Lib.hid awake_any
  clear hr hs hok
  go_enter Tryz.func3, Tryz.ntmps3
  go_wp2_with fail
  refine (new_any w).mono ?_
  rintro e w1 ⟨p, c, rfl, te, k1, hc⟩
  by_cases hn16 : n ≤ 16
  · have e1 : decide ((16 : Int) < (n : Int)) = false := by simp; omega
    have kA := (Kept.refl Nil w1).alloc (.cells #[.slice none 0 0, .slice none 0 0, .slice none 0 0] 30)
    have bA := Blk.new w1 30 #[.slice none 0 0, .slice none 0 0, .slice none 0 0]
    have HP0 : Hid (PI w p w1.heap.size 0 (w1.alloc (.cells #[.slice none 0 0, .slice none 0 0, .slice none 0 0] 30))) := Lib.hid ⟨⟨c, _, [], [], _, _, ⟨te.keptN kA, RT.new bA, TLS.nil, by simp, by simp⟩, Nat.le_refl _, by simp, fun b hb => by
      have h1 := te.low b hb
      simp; omega, fun b hb => ⟨by
        by_cases e : c b = 0
        · exact e
        · have := hc b e; omega, by have := k1.size; simp; omega⟩⟩, k1.trans kA (fun _ _ e => e)⟩
    clear te k1 hc kA bA
    go_wp2_with fail
    generalize w1.alloc (.cells #[.slice none 0 0, .slice none 0 0, .slice none 0 0] 30) = W1 at *
    generalize w1.heap.size = q at *
    go_loopw [30] (fun i wr => ∃ j : Nat, j ≤ n ∧ i = .int .i64 j ∧ PI w p q j wr) (fun i _ => n - (intOf i).toNat)
    case atStart => exact ⟨0, Nat.zero_le _, rfl, HP0.out⟩
    case round =>
      obtain ⟨j, hj, rfl, hI⟩ := hrel
      have HI := Lib.hid hI
      have HK := Lib.hid hI.kept
      by_cases hlt : j < n
      · obtain ⟨⟨g, l⟩, hl⟩ : ∃ l, Ls[j]? = some l := ⟨_, List.getElem?_eq_getElem (by have := HN.out; omega)⟩
        obtain ⟨bx, cx, hvx, hhx⟩ := HS.out.2 j g l hl
        obtain ⟨b0, o0, rfl, hb0, hc0⟩ := (HR.out.kept HK.out).at_ hvx
        have q0 := hc0 0 _ rfl
        have q1 := hc0 1 _ rfl
        rw [Nat.add_zero] at q0
        simp only at q0 q1
        have hjj : (j : Int) < (n : Int) := by omega
        obtain ⟨len, hlen⟩ : ∃ len, l.length = len := ⟨_, rfl⟩
        have HL := Lib.hid hlen
        rw [hlen] at q1
        have HHX := Lib.hid (hhx.keptN HK.out)
        clear hI hl hvx hhx hc0 hlen
        obtain ⟨bB, hbB⟩ : ∃ bB, wr.heap.size = bB := ⟨_, rfl⟩
        have HBB := Lib.hid hbB
        have K2 := Lib.hid ((Kept.refl Nil wr).alloc (.cells #[.bool g, .slice bx len cx] 33))
        have B2 : Hid (Blk (wr.alloc (.cells #[.bool g, .slice bx len cx] 33)) bB 33 #[.bool g, .slice bx len cx]) := Lib.hid (by rw [← hbB]; exact Blk.new _ _ _)
        go_upto_region 8 with fail
        generalize wr.alloc (.cells #[.bool g, .slice bx len cx] 33) = W2 at *
        try rw [hbB]
        clear hbB q0 q1
        have CF := Lib.hid (fineL_any l ok bx cx W2 (HHX.out.keptN K2.out) (fun b o hb => Nat.lt_of_lt_of_le (HOK.out b o hb) (Nat.le_trans HK.out.size K2.out.size)))
        unfold YesEnd at CF
        rw [HL.out] at CF
        have x1 := B2.out.cell 1
        simp only [List.getElem?_toArray, List.getElem?_cons_zero, List.getElem?_cons_succ] at x1
        have xl := B2.out.lt
        go_wp2_with fail
        refine CF.out.mono ?_
        rintro e w3 ⟨b, rfl, k3, hb⟩
        have K3 := Lib.hid (K2.out.trans k3 (fun _ _ e => e))
        have B3 := Lib.hid (B2.out.kept k3 id)
        have HB := Lib.hid hb
        clear k3 hb CF x1 xl K2 B2
        cases b
        · go_wp2_with fail
          refine (HA.out _).mono ?_
          rintro e w4 ⟨rfl, k4⟩
          go_wp2_with fail
          go_ret
          exact ⟨rfl, (HK.out.trans K3.out (fun _ _ e => e)).trans k4 (fun _ _ e => e)⟩
        · have HG : Hid (GoesT l) := Lib.hid (HB.out rfl)
          clear HB
          have C6 := Lib.hid (refL_any l (by have := HG.out.1; omega) ok bx cx w3 (HHX.out.keptN K3.out))
          unfold ListEnd at C6
          simp only [HL.out] at C6
          have x1 := B3.out.cell 1
          simp only [List.getElem?_toArray, List.getElem?_cons_zero, List.getElem?_cons_succ] at x1
          have xl := B3.out.lt
          go_wp2_with fail
          refine C6.out.mono ?_
          rintro e w4 ⟨a4, c4, rfl, h4, k4⟩
          have CO := Lib.hid (refCompile_of of_all l HG.out _ a4 c4 w4 (by rw [HL.out]; exact h4))
          unfold StsEnd at CO
          simp only [HL.out, stL_length] at CO
          have K4 := Lib.hid (K3.out.trans k4 (fun _ _ e => e))
          have B4 := Lib.hid (B3.out.kept k4 id)
          clear h4 k4 C6 x1 xl B3
          go_wp2_with fail
          refine CO.out.mono ?_
          rintro e w5 ⟨a5, c5, rfl, h5, k5⟩
          have H5 := Lib.hid h5
          have K5 := Lib.hid (K4.out.trans k5 (fun _ _ e => e))
          have B5 := Lib.hid (B4.out.kept k5 id)
          clear h5 k5 CO B4
          have HSL : Hid ((stL l []).length = len) := Lib.hid (by rw [stL_length]; exact HL.out)
          have HRl := Lib.hid (stL_right' HG.out)
          obtain ⟨s, hs⟩ : ∃ s, stL l [] = s := ⟨_, rfl⟩
          rw [hs] at H5 HSL HRl
          have x0 := B5.out.cell 0
          simp only [List.getElem?_toArray, List.getElem?_cons_zero] at x0
          have xl := B5.out.lt
          clear HG hs HHX HL
          obtain ⟨c, cr, ls, es, U, E, hBo, hls, hes, hap, hlo⟩ := HI.out.ex
          have hlen16 : (chSL s []).length ≤ 16 := HRl.out.chs
          have HBo := Lib.hid hBo
          have HAp := Lib.hid hap
          have HLo := Lib.hid hlo
          have hes2 : es.length ≤ 300 := by omega
          have hls2 : ls.length ≤ 16 := by omega
          have HES := Lib.hid (And.intro hls hes)
          have KR := Lib.hid K5.out
          have Bo5 := Lib.hid (hBo.keptN K5.out)
          have HLow := Lib.hid (fun b (e : c b ≠ 0) => hBo.te.low b e)
          have HLowR := Lib.hid (fun b (e : cr b ≠ 0) => hBo.rt.low b e)
          have HOK5 : Hid (∀ b o, okM w4.heap.size w5 b o → wr.heap.size ≤ b ∧ b < w5.heap.size ∧ c b = 0 ∧ cr b = 0) := Lib.hid fun b o hb => by
            have h1 := K4.out.size
            have h2 := hb.1
            refine ⟨by omega, hb.2.1, ?_, ?_⟩
            · by_cases e : c b = 0
              · exact e
              · have := hBo.te.low b e; omega
            · by_cases e : cr b = 0
              · exact e
              · have := hBo.rt.low b e; omega
          clear hBo hap hlo hls hes
          cases g
          · -- Add
            have CA := Lib.hid (radd_any Bo5.out.rt HBo.out.tl.sm (by omega) (by omega) s HRl.out (okM w4.heap.size w5) (fun b o hb => ⟨(HOK5.out b o hb).2.1, .inl (HOK5.out b o hb).2.2.2⟩) a5 c5 (by rw [HSL.out]; exact H5.out) rfl)
            rw [HSL.out] at CA
            obtain ⟨m, hm⟩ : ∃ m, (chSL s []).length = m := ⟨_, rfl⟩
            have HM := Lib.hid hm
            rw [hm] at CA hlen16
            clear hm
            go_wp2_with fail
            refine CA.out.mono ?_
            rintro e w6 ⟨a6, cp6, cr6, rfl, hI6, ho6, hR6, k6, hold6, hnew6⟩
            have HI6 := Lib.hid (And.intro hI6 (And.intro ho6 hR6))
            have K6 := Lib.hid k6
            have HN6 : Hid (∀ b, cr6 b ≠ 0 → cr b ≠ 0 ∨ wr.heap.size ≤ b) := Lib.hid fun b e => by
              rcases hnew6 b e with f | f | ⟨o, f⟩
              · exact .inl f
              · exact .inr (by have := KR.out.size; omega)
              · exact .inr (HOK5.out b o f).1
            have HSz : Hid (wr.heap.size ≤ w6.heap.size) := Lib.hid (by have := KR.out.size; have := k6.size; omega)
            have HT6 := Lib.hid (Bo5.out.te.kept k6 (fun b e => by
              by_cases f : c b = 0
              · exact f
              · exact absurd (HAp.out b f) e.1))
            have H6 := Lib.hid (H5.out.kept k6 (fun b o hb e => e.1 (HOK5.out b o hb).2.2.2))
            have CS := Lib.hid (steps_any s (by have := HRl.out.mass; omega) _ a5 c5 w6 (by rw [HSL.out]; exact H6.out))
            unfold StsEnd at CS
            simp only [HSL.out] at CS
            clear hI6 ho6 hR6 k6 hold6 hnew6 CA x0 xl
            go_wp2_with fail
            refine CS.out.mono ?_
            rintro e w7 ⟨a7, c7, rfl, h7, k7⟩
            have K7 := Lib.hid k7
            have hl7 : ∀ b, w6.heap.size ≤ b → c b = 0 := fun b hb => by
              by_cases f : c b = 0
              · exact f
              · have := HLow.out b f; have := HSz.out; omega
            have CB := Lib.hid (add_any (HT6.out.keptN k7) s HRl.out (by omega) HBo.out.tl.far (fun n => by have := HBo.out.tl.bnd n; omega) (okM w6.heap.size w7) (fun b o hb => ⟨hb.2.1, hl7 b hb.1⟩) a7 c7 (by rw [HSL.out]; exact h7))
            rw [HSL.out, HM.out] at CB
            clear h7 k7 CS hl7
            go_wp2_with fail
            refine CB.out.mono ?_
            rintro e w8 ⟨a8, cp8, c8, rfl, hI8, ho8, hm8, t8⟩
            have T8 := Lib.hid t8
            have HW : Hid (In cNt 1 w8 a6 m ((chSL s []).map (fnd (addAll es (chSL s []))))) := Lib.hid ((HI6.out.1.kept K7.out).keptF (cap := cp6) t8.kept (fun b hb e => by
              have h1 := (HI6.out.2.1 b hb).2.1
              have h2 := HLow.out b e.1
              have h3 := KR.out.size
              omega))
            have CI := Lib.hid (ints_any (c := cp8) (c' := cp6) hI8 HW.out (by omega) (by omega))
            rw [show decide ((chSL s []).map (fnd (addAll es (chSL s []))) = (chSL s []).map (fnd (addAll es (chSL s [])))) = true from decide_eq_true rfl] at CI
            clear hI8 ho8 hm8 t8 CB HW
            go_wp2_with fail
            refine CI.out.mono ?_
            rintro e w9 ⟨rfl, k9⟩
            have hal := addAll_len (chSL s []) es
            have HB9 : Hid (Both w9 c8 p cr6 q (ls ++ [s]) (addAll es (chSL s [])) (bump U (idsE (addAll es (chSL s [])) s)) (bump E [fnd (addAll es (chSL s [])) s])) := Lib.hid ⟨T8.out.te.keptN k9, ((HI6.out.2.2.keptN K7.out).kept T8.out.kept (fun b e => by
              by_cases f : cr6 b = 0
              · exact f
              · rcases HN6.out b f with g | g
                · exact absurd (HAp.out b e.1) g
                · have := HLow.out b e.1; omega)).keptN k9, HBo.out.tl.add HRl.out, by have := HM.out; omega, by simp; omega⟩
            have K9 := Lib.hid k9
            have CSm := Lib.hid (same_any HB9)
            clear k9 CI hal
            go_wp2_with fail
            refine CSm.out.mono ?_
            rintro e w10 ⟨rfl, k10⟩
            have K10 := Lib.hid k10
            clear k10 CSm
            go_wp2_with fail
            go_roundw
            case rel =>
              refine ⟨j + 1, hlt, by go_num, ⟨⟨c8, cr6, _, _, _, _, HB9.out.keptN K10.out, by have := HES.out.1; simp; omega, ?_, ?_, ?_⟩, ?_⟩⟩
              · have h1 := addAll_len (chSL s []) es
                have h2 := HES.out.2
                have h3 := HM.out
                omega
              · exact apart_next (n0 := wr.heap.size) (n1 := w6.heap.size) HAp.out HLow.out HN6.out (fun b e => HI6.out.2.2.low b e) (fun b e => by
                  rcases T8.out.sub b e with f | f
                  · exact .inl f
                  · exact .inr (Nat.le_trans K7.out.size f))
              · intro b hb
                have h0 := HLo.out b hb
                have h1 := HK.out.size
                have h2 := HSz.out
                have h3 := K7.out.size
                refine ⟨T8.out.zero (by omega) h0.1, ?_⟩
                by_cases f : cr6 b = 0
                · exact f
                · rcases HN6.out b f with g | g
                  · exact absurd h0.2 g
                  · omega
              · exact ((((HK.out.trans KR.out (fun _ _ e => e)).trans K6.out (fun i hi e => e.1 (HLo.out i hi).2)).trans K7.out (fun _ _ e => e)).trans T8.out.kept (fun i hi e => e.1 (HLo.out i hi).1)).trans (K9.out.trans K10.out (fun _ _ e => e)) (fun _ _ e => e)
            case measure => simp [intOf]; omega
          · -- Remove
            have CA := Lib.hid (rremove_any Bo5.out.rt HBo.out.tl (by omega) (by omega) s HRl.out _ a5 c5 (by rw [HSL.out]; exact H5.out))
            rw [HSL.out] at CA
            go_wp2_with fail
            refine CA.out.mono ?_
            rintro e w6 (⟨hnot, rfl, k6⟩ | ⟨hin, a6, n6, cp6, cr6, rfl, hI6, ho6, hR6, k6, hold6, hnew6⟩)
            · have K6 := Lib.hid (KR.out.trans k6 (fun _ _ e => e))
              have H6 := Lib.hid (H5.out.keptN k6)
              have CS := Lib.hid (steps_any s (by have := HRl.out.mass; omega) _ a5 c5 w6 (by rw [HSL.out]; exact H6.out))
              unfold StsEnd at CS
              simp only [HSL.out] at CS
              have HNot := Lib.hid hnot
              clear k6 CA x0 xl hnot
              go_wp2_with fail
              refine CS.out.mono ?_
              rintro e w7 ⟨a7, c7, rfl, h7, k7⟩
              have K7 := Lib.hid (K6.out.trans k7 (fun _ _ e => e))
              have CB := Lib.hid (removeNone_any (HBo.out.keptN K7.out).te HBo.out.tl (by omega) HRl.out HNot.out (okM w6.heap.size w7) (fun b o hb => hb.2.1) a7 c7 (by rw [HSL.out]; exact h7))
              rw [HSL.out] at CB
              clear h7 k7 CS
              go_wp2_with fail
              refine CB.out.mono ?_
              rintro e w8 ⟨rfl, k8⟩
              have K8 := Lib.hid (K7.out.trans k8 (fun _ _ e => e))
              have CI := Lib.hid (ints_any (w := w8) (a := none) (a' := none) (n := 0) (n' := 0) (c := 0) (c' := 0) (xs := []) (ys := []) ⟨rfl, .inl rfl⟩ ⟨rfl, .inl rfl⟩ (by omega) (by omega))
              rw [show decide (([] : List Nat) = []) = true from decide_eq_true rfl] at CI
              clear k8 CB
              go_wp2_with fail
              refine CI.out.mono ?_
              rintro e w9 ⟨rfl, k9⟩
              have HB9 : Hid (Both w9 c p cr q ls es U E) := Lib.hid (HBo.out.keptN (K8.out.trans k9 (fun _ _ e => e)))
              have K9 := Lib.hid (K8.out.trans k9 (fun _ _ e => e))
              have CSm := Lib.hid (same_any HB9)
              clear k9 CI
              go_wp2_with fail
              refine CSm.out.mono ?_
              rintro e w10 ⟨rfl, k10⟩
              have K10 := Lib.hid k10
              clear k10 CSm
              go_wp2_with fail
              go_roundw
              case rel =>
                refine ⟨j + 1, hlt, by go_num, ⟨⟨c, cr, _, _, _, _, HB9.out.keptN K10.out, by have := HES.out.1; omega, by have := HES.out.2; omega, HAp.out, HLo.out⟩, ?_⟩⟩
                exact (HK.out.trans K9.out (fun _ _ e => e)).trans K10.out (fun _ _ e => e)
              case measure => simp [intOf]; omega
            · have HI6 := Lib.hid (And.intro hI6 (And.intro ho6 hR6))
              have K6 := Lib.hid k6
              have HIn := Lib.hid hin
              have HN6 : Hid (∀ b, cr6 b ≠ 0 → cr b ≠ 0 ∨ wr.heap.size ≤ b) := Lib.hid fun b e => by
                rcases hnew6 b e with f | f
                · exact .inl f
                · exact .inr (by have := KR.out.size; omega)
              have HSz : Hid (wr.heap.size ≤ w6.heap.size) := Lib.hid (by have := KR.out.size; have := k6.size; omega)
              have HT6 := Lib.hid (Bo5.out.te.kept k6 (fun b e => by
                by_cases f : c b = 0
                · exact f
                · exact absurd (HAp.out b f) e.1))
              have H6 := Lib.hid (H5.out.kept k6 (fun b o hb e => e.1 (HOK5.out b o hb).2.2.2))
              have CS := Lib.hid (steps_any s (by have := HRl.out.mass; omega) _ a5 c5 w6 (by rw [HSL.out]; exact H6.out))
              unfold StsEnd at CS
              simp only [HSL.out] at CS
              clear hI6 ho6 hR6 k6 hold6 hnew6 hin CA x0 xl
              go_wp2_with fail
              refine CS.out.mono ?_
              rintro e w7 ⟨a7, c7, rfl, h7, k7⟩
              have K7 := Lib.hid k7
              have hl7 : ∀ b, w6.heap.size ≤ b → c b = 0 := fun b hb => by
                by_cases f : c b = 0
                · exact f
                · have := HLow.out b f; have := HSz.out; omega
              have CB := Lib.hid (remove_any (HT6.out.keptN k7) HBo.out.tl (by omega) (by omega) HRl.out HIn.out (okM w6.heap.size w7) (fun b o hb => ⟨hb.2.1, hl7 b hb.1⟩) a7 c7 (by rw [HSL.out]; exact h7))
              unfold RemEnd at CB
              rw [HSL.out] at CB
              clear h7 k7 CS hl7
              go_wp2_with fail
              refine CB.out.mono ?_
              rintro e w8 ⟨a8, n8, cp8, c8, es2, U2, out, rfl, r8, hI8, hc8, ho8, t8⟩
              have T8 := Lib.hid t8
              have R8 := Lib.hid r8
              have hout := rem_out HBo.out.tl HIn.out r8
              have HW : Hid (In cNt 1 w8 a6 n6 out) := Lib.hid (by
                rw [hout]
                exact (HI6.out.1.kept K7.out).keptF (cap := cp6) t8.kept (fun b hb e => by
                  have h1 := (HI6.out.2.1 b hb).2.1
                  have h2 := HLow.out b e.1
                  have h3 := KR.out.size
                  omega))
              have hol : out.length ≤ 1000 := by
                rw [r8.out, List.length_map]
                refine Nat.le_trans (List.length_filter_le _ _) ?_
                simp; omega
              have CI := Lib.hid (ints_any (c := cp8) (c' := cp6) hI8 HW.out (by have := hI8.1; omega) (by have := HW.out.1; omega))
              rw [show decide (out = out) = true from decide_eq_true rfl] at CI
              clear hI8 ho8 hc8 t8 CB HW r8 hout hol
              go_wp2_with fail
              refine CI.out.mono ?_
              rintro e w9 ⟨rfl, k9⟩
              have hels : (ls.erase s).length ≤ ls.length := List.length_erase_le
              have hre := rem_ent HBo.out.tl HIn.out R8.out
              have HB9 : Hid (Both w9 c8 p cr6 q (ls.erase s) es2 U2 (less1 E (fnd es s))) := Lib.hid ⟨T8.out.te.keptN k9, (((HI6.out.2.2 es2 R8.out.len (fun i => hre (i + 2))).keptN K7.out).kept T8.out.kept (fun b e => by
                by_cases f : cr6 b = 0
                · exact f
                · rcases HN6.out b f with g | g
                  · exact absurd (HAp.out b e.1) g
                  · have := HLow.out b e.1; omega)).keptN k9, R8.out.done HBo.out.tl HIn.out, by rw [R8.out.len]; omega, by omega⟩
              have HEL := Lib.hid hels
              have HLR := Lib.hid (fun b (e : cr6 b ≠ 0) => (HI6.out.2.2 es2 R8.out.len (fun i => hre (i + 2))).low b e)
              have K9 := Lib.hid k9
              have CSm := Lib.hid (same_any HB9)
              clear k9 CI hels hre
              go_wp2_with fail
              refine CSm.out.mono ?_
              rintro e w10 ⟨rfl, k10⟩
              have K10 := Lib.hid k10
              clear k10 CSm
              go_wp2_with fail
              go_roundw
              case rel =>
                refine ⟨j + 1, hlt, by go_num, ⟨⟨c8, cr6, _, _, _, _, HB9.out.keptN K10.out, by have := HES.out.1; have := HEL.out; omega, by rw [R8.out.len]; have := HES.out.2; omega, ?_, ?_⟩, ?_⟩⟩
                · exact apart_next (n0 := wr.heap.size) (n1 := w6.heap.size) HAp.out HLow.out HN6.out HLR.out (fun b e => by
                    rcases T8.out.sub b e with f | f
                    · exact .inl f
                    · exact .inr (Nat.le_trans K7.out.size f))
                · intro b hb
                  have h0 := HLo.out b hb
                  have h1 := HK.out.size
                  have h2 := HSz.out
                  have h3 := K7.out.size
                  refine ⟨T8.out.zero (by omega) h0.1, ?_⟩
                  by_cases f : cr6 b = 0
                  · exact f
                  · rcases HN6.out b f with g | g
                    · exact absurd h0.2 g
                    · omega
                · exact ((((HK.out.trans KR.out (fun _ _ e => e)).trans K6.out (fun i hi e => e.1 (HLo.out i hi).2)).trans K7.out (fun _ _ e => e)).trans T8.out.kept (fun i hi e => e.1 (HLo.out i hi).1)).trans (K9.out.trans K10.out (fun _ _ e => e)) (fun _ _ e => e)
              case measure => simp [intOf]; omega
      · obtain rfl : j = n := by omega
        clear hI
        go_wp2_with fail
        refine (HA.out _).mono ?_
        rintro e w2 ⟨rfl, k2⟩
        go_wp2_with fail
        go_ret
        exact ⟨rfl, HK.out.trans k2 (fun _ _ e => e)⟩
  · have e1 : decide ((16 : Int) < (n : Int)) = true := by simp; omega
    have K1 := Lib.hid k1
    clear te hc
    go_wp2_with fail
    refine (HA.out _).mono ?_
    rintro e w2 ⟨rfl, k2⟩
    go_wp2_with fail
    go_ret
    exact ⟨rfl, K1.out.trans k2 (fun _ _ e => e)⟩
end
end
section
open Go.RowKit Go.ChangeShapes Go.WideShapes Go.ChangeAt Go.Deep
set_option maxRecDepth 1000000

section
variable {H : Type} {enc : TypeId × Value → H}
/-- A slice opened: its elements' cells in a row, each opened by R. -/
theorem open_rowsN {Q : Type} [Inhabited Q] {W : World} {sp : Nat → Bool} {held : Bool} {t e : TypeId} {sz : Nat} (hu : Tryz.prog.underlying t = some (.slice e)) (hc : Tryz.prog.cellsOf e = sz) (hz : 0 < sz) (R : List Value → Q → Prop) {fuel : Nat} {c : Value} {x : DataW H × List MemPlace} (h : DataW.trod enc Tryz.prog W 0 sp held fuel t [c] = some x)
    (el : ∀ n, n < fuel → ∀ cs x, DataW.trod enc Tryz.prog W 0 sp held n e cs = some x → ∃ q, R cs q) :
    ∃ a len cap, c = .slice a len cap ∧ len ≤ cap ∧ cap ≤ maxLen ∧ (len = 0 ∨ ∃ (b o : Nat) (q : Nat → Q), a = some ⟨b, o, none⟩ ∧ b < W.heap.size ∧ ∀ i, i < len → ∃ cs, R cs (q i) ∧ W.rangeAt b (o + i * sz) cs) := by
  rcases DataW.trod_slice hu h with ⟨e2, _⟩ | ⟨a, len, cap, elems, rest, n', hn', e2, ex, _, hlc, hcm, hel, hat, _⟩
  · simp at e2
    subst e2
    exact ⟨none, 0, 0, rfl, Nat.le_refl _, Nat.zero_le _, .inl rfl⟩
  · simp at e2
    subst e2
    rw [hc] at hat
    have each : ∀ i, i < len → ∃ q : Q × List Value, R q.2 q.1 ∧ q.2.length = sz ∧ ∀ j v, q.2[j]? = some v → W.cell? ((a.add (i * sz)).add j) = some v := by
      intro i hi
      have h1 := hat i hi
      have hel' : elems[i]? = some elems[i] := List.getElem?_eq_getElem (by omega)
      rw [hel'] at h1
      obtain ⟨cs', h2, h3⟩ := Option.bind_eq_some_iff.1 h1
      obtain ⟨q, hq⟩ := el n' (by omega) cs' _ h3
      obtain ⟨_, hl, hcc⟩ := World.cells?_some h2
      refine ⟨⟨q, cs'⟩, hq, hl, fun j v hj => ?_⟩
      have hj' : cs'[j]? = some v := hj
      rw [hcc j (by have := (List.getElem?_eq_some_iff.1 hj').1; omega)]
      exact hj
    obtain ⟨q, hq⟩ := choose_lt each
    rcases Nat.eq_zero_or_pos len with rfl | hpos
    · exact ⟨some a, 0, cap, rfl, hlc, hcm, .inl rfl⟩
    · obtain ⟨b, o, spot⟩ := a
      obtain ⟨_, hl0, hq0⟩ := hq 0 hpos
      have c00 := hq0 0 _ (List.getElem?_eq_getElem (by omega))
      have hspot : spot = none := by simpa [Addr.add] using World.cell?_spot c00
      subst hspot
      refine ⟨some ⟨b, o, none⟩, len, cap, rfl, hlc, hcm, .inr ⟨b, o, fun i => (q i).1, rfl, ?_, fun i hi => ⟨(q i).2, (hq i hi).1, fun j v hj => ?_⟩⟩⟩
      · have := World.block_lt_of_cell? W _ c00
        simpa [Addr.add] using this
      · have := (hq i hi).2.2 j v hj
        rw [Addr.add_mid, Addr.add_mid] at this
        exact this
theorem cellsCl : Tryz.prog.cellsOf 31 = 1 := by kernel_rfl
theorem cellsOp16 : Tryz.prog.cellsOf 33 = 2 := by kernel_rfl
theorem cellsBool16 : Tryz.prog.cellsOf 4 = 1 := by kernel_rfl
theorem list2' {α : Type} (l : List α) (h : l.length = 2) : ∃ a b, l = [a, b] := by
  match l, h with
  | [a, b], _ => exact ⟨a, b, rfl⟩
theorem open_Op16 {W : World} {base : Nat} {sp : Nat → Bool} {held : Bool} {v : Value} {d : DataW H} {p : List MemPlace} (hv : Value.okWide Tryz.prog W .any base 22 v) (h : DataW.Trod enc Tryz.prog W 0 sp held 22 v d p) :
    ∃ Ls vs a n cap, v = .slice a n cap ∧ In cOp 2 W a n vs ∧ OpsAt W (fun b _ => b < W.heap.size) vs Ls := by
  obtain ⟨a0, n0, c0, rfl⟩ := okWide_slice Tryz.underlying22 hv
  obtain ⟨fuel, hf⟩ := h
  haveI : Inhabited (Bool × List Sh × Option Addr × Nat) := ⟨⟨false, [], none, 0⟩⟩
  obtain ⟨a, len, cap, e, hlc, _, hr⟩ := open_rowsN (Q := Bool × List Sh × Option Addr × Nat) Tryz.underlying22 cellsOp16 (by decide) (fun cs q => cs = [.bool q.1, .slice q.2.2.1 q.2.1.length q.2.2.2] ∧ Holds cA W (fun b _ => b < W.heap.size) (.slice q.2.2.1 q.2.1.length q.2.2.2) q.2.1) (c := .slice a0 n0 c0) (by simpa [Value.cells] using hf) (fun n _ cs x hx => by
    obtain ⟨xs, m, hm, hcl, hlen, hxl, hf⟩ := DataW.trod_struct Tryz.underlying33 hx
    have hl : cs.length = 2 := by have := hlen; rw [cellsOp16] at this; exact this
    obtain ⟨c1, c2, rfl⟩ := list2' cs hl
    have hxl' : xs.length = 2 := hxl
    obtain ⟨y0, y1, rfl⟩ := list2' xs hxl'
    have f0 : DataW.trod enc Tryz.prog W 0 sp held m 4 [c1] = some y0 := by
      have := hf 0 _ rfl
      change DataW.trod enc Tryz.prog W 0 sp held m 4 (List.take (Tryz.prog.cellsOf 4) [c1, c2]) = some y0 at this
      rw [cellsBool16] at this
      exact this
    have f1 : DataW.trod enc Tryz.prog W 0 sp held m 31 [c2] = some y1 := by
      have := hf 1 _ rfl
      change DataW.trod enc Tryz.prog W 0 sp held m 31 (List.take (Tryz.prog.cellsOf 31) [c2]) = some y1 at this
      rw [cellsCl] at this
      exact this
    obtain ⟨g, e0, _⟩ := DataW.trod_bool Tryz.underlying4 f0
    simp at e0
    subst e0
    obtain ⟨a, cap, l, rfl, _, hh⟩ := open_conds m c2 y1 f1
    exact ⟨⟨g, l, a, cap⟩, rfl, hh⟩)
  cases e
  rcases hr with rfl | ⟨b, o, q, rfl, hlt, hq⟩
  · exact ⟨[], [], a0, 0, c0, rfl, ⟨rfl, .inl rfl⟩, rfl, fun i g l hi => by simp at hi⟩
  · refine ⟨(List.range n0).map fun i => ((q i).1, (q i).2.1), (List.range n0).map fun i => ((q i).1, (q i).2.2.1, (q i).2.1.length, (q i).2.2.2), _, n0, c0, rfl, ⟨by simp, .inr ⟨b, o, rfl, hlt, fun j x i v hj hi => ?_⟩⟩, by simp, fun i g l hi => ?_⟩
    · have hjl : j < n0 := by have := (List.getElem?_eq_some_iff.1 hj).1; simpa using this
      simp [hjl] at hj
      subst hj
      obtain ⟨cs, ⟨rfl, _⟩, hr⟩ := hq j hjl
      exact hr i v hi
    · have hil : i < n0 := by have := (List.getElem?_eq_some_iff.1 hi).1; simpa using this
      simp [hil] at hi
      obtain ⟨rfl, rfl⟩ := hi
      obtain ⟨cs, ⟨_, hh⟩, _⟩ := hq i hil
      exact ⟨(q i).2.2.1, (q i).2.2.2, by simp [hil], hh⟩
end
theorem plays16_any (Ls : List (Bool × List Sh)) (vs : List OpV) (a : Option Addr) (n cap : Nat) (w : World) (hr : In cOp 2 w a n vs) (hs : OpsAt w (fun b _ => b < w.heap.size) vs Ls) :
    Calls Tryz.prog 3 #[.slice a n cap] w fun e w' => e = .returned (.bool true) ∧ Kept Nil w w' := plays_law Ls _ vs hr hs (fun _ _ h => h)
end
end Go.Proofs.YtljefbfjehblpaaGreat
