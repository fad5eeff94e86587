/- Layer comp: the law's own few: what it lets through has at most 90 steps and tests in it. -/
import Derived.Test.YtoceogbanlmnoaaGA
namespace Go.Proofs.Ytoceogbanlmnoaa
open Go.RowKit
set_option maxRecDepth 100000

def FewEnd (g m : Nat) (s : St) (w : World) (e : Ending) (w' : World) : Prop :=
  ∃ (b : Bool) (m' : Nat), e = .returned (.bool b) ∧ Blk w' g 3 #[.int .i64 m'] ∧ Kept (fun k => k = g) w w' ∧ (b = true → m' = m + s.mass ∧ m' ≤ 90)
abbrev FewIH (subs : List St) : Prop := ∀ hd sb, St.mk hd sb ∈ subs → ∀ ok ta tc a cap w (g m : Nat) (deep : Int), TsAt w ok (.slice ta hd.ts.length tc) hd.ts → SHolds w ok (.slice a sb.length cap) sb → (∀ b o, ok b o → b ≠ g) → Blk w g 3 #[.int .i64 m] → m ≤ 90 → -1 ≤ deep → deep ≤ 5 →
  Calls Try.prog 22 #[vS hd (.slice ta hd.ts.length tc) (.slice a sb.length cap), .int .i64 deep, .pointer (some ⟨g, 0, none⟩)] w (FewEnd g m (.mk hd sb) w)
set_option maxHeartbeats 2000000 in
theorem few_step (k k0 k1 k2 : Int) (ts : List Tst) (tn : Nat) (HT : Hid (ts.length = tn)) (htn : tn ≤ 140737488355328) (subs : List St) (len : Nat) (HL : Hid (subs.length = len)) (IH : Hid (FewIH subs))
    (ok : Nat → Nat → Prop) (ta : Option Addr) (tc : Nat) (a : Option Addr) (cap : Nat) (w : World) (g m : Nat) (deep : Int) (HH : Hid (SHolds w ok (.slice a len cap) subs)) (HG : Hid (∀ b o, ok b o → b ≠ g)) (HB : Hid (Blk w g 3 #[.int .i64 m])) (hm : m ≤ 90) (hd1 : -1 ≤ deep) (hd2 : deep ≤ 5) :
    Calls Try.prog 22 #[vS ⟨k, k0, k1, k2, ts⟩ (.slice ta tn tc) (.slice a len cap), .int .i64 deep, .pointer (some ⟨g, 0, none⟩)] w (FewEnd g m (.mk ⟨k, k0, k1, k2, ts⟩ subs) w) := by
  have hg : g < w.heap.size := HB.out.lt
  have c0 : w.cell? ⟨g, 0, none⟩ = some (.int .i64 m) := by rw [HB.out.cell 0]; rfl
  have f0 : w.frozen? ⟨g, 0, none⟩ = false := HB.out.frozen 0
  obtain ⟨q, hq⟩ : ∃ q : Nat, m + (1 + tn) = q := ⟨_, rfl⟩
  have hw1 : IntKind.i64.wrap (1 + (tn : Int)) = 1 + (tn : Int) := by rw [IntKind.wrap_i64]; omega
  have hw2 : IntKind.i64.wrap ((m : Int) + (1 + (tn : Int))) = (q : Int) := by rw [IntKind.wrap_i64]; omega
  have hq2 : (m : Int) + (1 + (tn : Int)) = (q : Int) := by omega
  have hne : g ≠ w.heap.size := by omega
  have hQ : Hid (m + (St.mk ⟨k, k0, k1, k2, ts⟩ subs).mass = q + massL subs) := Lib.hid (by rw [St.mass]; have := HT.out; show m + (1 + ts.length + massL subs) = _; omega)
  have K0 := Lib.hid ((((Kept.refl (fun k => k = g) w).setCell ⟨g, 0, none⟩ (.inl rfl) (.int .i64 (q : Int))).alloc (.cells #[.int .i64 k, .int .i64 k0, .int .i64 k1, .int .i64 k2, .slice ta tn tc, .slice a len cap] 42)).drew)
  have B0 := Lib.hid (((HB.out.set_ 0 (.int .i64 (q : Int))).alloc (.cells #[.int .i64 k, .int .i64 k0, .int .i64 k1, .int .i64 k2, .slice ta tn tc, .slice a len cap] 42)).drew)
  by_cases h60 : q > 90
  · have hs60 : decide ((90 : Int) < (q : Int)) = true := decide_eq_true (by omega)
    go_enter Try.func22, Try.ntmps22
    go_wp2_with fail
    go_region
    go_wp2_with fail
    go_ret
    exact ⟨false, q, rfl, by simpa using B0.out, K0.out, fun h => by cases h⟩
  · have hs60 : decide ((90 : Int) < (q : Int)) = false := decide_eq_false (by omega)
    by_cases hdp : deep < 0
    · go_enter Try.func22, Try.ntmps22
      go_wp2_with fail
      go_region
      go_wp2_with fail
      go_ret
      exact ⟨false, q, rfl, by simpa using B0.out, K0.out, fun h => by cases h⟩
    · have hdn : decide (deep < 0) = false := decide_eq_false hdp
      go_enter Try.func22, Try.ntmps22
      go_wp2_with fail
      go_region
      go_wp2_with fail
      go_loopw [29] (fun i wr => ∃ j : Nat, j ≤ len ∧ i = .int .i64 j ∧ Blk wr g 3 #[.int .i64 ((q + massL (subs.take j) : Nat) : Int)] ∧ q + massL (subs.take j) ≤ 90 ∧ Kept (fun k => k = g) w wr) (fun i _ => len - (intOf i).toNat)
      case atStart => exact ⟨0, by omega, rfl, by simpa [massL] using B0.out, by simp [massL]; omega, K0.out⟩
      case round =>
        obtain ⟨j, hj, rfl, hB, hle, hK⟩ := hrel
        have HK := Lib.hid hK
        have HB2 := Lib.hid hB
        have hjl : j ≤ 90 := by
          have h1 := length_massL (subs.take j)
          rw [List.length_take] at h1
          have := HL.out
          omega
        clear hK K0 B0 hB
        by_cases hlt : j < len
        · obtain ⟨⟨⟨k', k0', k1', k2', ts'⟩, sb⟩, hx⟩ : ∃ x, subs[j]? = some x := ⟨_, List.getElem?_eq_getElem (by have := HL.out; omega)⟩
          obtain ⟨b, o, ta', tc', a', cap', rfl, hok, hr, ht, hs⟩ := (HH.out.kept HK.out (fun b o hb e => HG.out b o hb e)).at_ hx
          have HX := Lib.hid (IH.out _ _ (List.mem_of_getElem? hx))
          have HR := Lib.hid hr
          have HS := Lib.hid hs
          have HTs := Lib.hid ht
          have HN := Lib.hid (massL_take_succ hx)
          clear hx hr hs ht hok
          generalize hcn : q + massL (subs.take j) = cn at HB2 hle
          have HCN := Lib.hid hcn
          clear hcn
          unfold FewEnd at HX
          generalize (St.mk ⟨k', k0', k1', k2', ts'⟩ sb).mass = cx at HX HN
          replace HTs : Hid (TsAt wr ok (.slice ta' ts'.length tc') ts') := HTs
          replace HR : Hid (wr.rangeAt b (o + j * 6) (cS ⟨k', k0', k1', k2', ts'⟩ (.slice ta' ts'.length tc') (.slice a' sb.length cap'))) := HR
          replace HX : Hid (∀ ok ta tc a cap w (g m : Nat) (deep : Int), TsAt w ok (.slice ta ts'.length tc) ts' → SHolds w ok (.slice a sb.length cap) sb → (∀ b o, ok b o → b ≠ g) → Blk w g 3 #[.int .i64 m] → m ≤ 90 → -1 ≤ deep → deep ≤ 5 →
              Calls Try.prog 22 #[vS ⟨k', k0', k1', k2', ts'⟩ (.slice ta ts'.length tc) (.slice a sb.length cap), .int .i64 deep, .pointer (some ⟨g, 0, none⟩)] w fun e w' => ∃ (b : Bool) (m' : Nat), e = .returned (.bool b) ∧ Blk w' g 3 #[.int .i64 m'] ∧ Kept (fun k => k = g) w w' ∧ (b = true → m' = m + cx ∧ m' ≤ 90)) := HX
          generalize sb.length = len' at HR HS HX
          generalize ts'.length = tn' at HR HTs HX
          go_wp2_with ((with_reducible refine wpList_load_S rfl (.tmp 31) rfl _ _ rfl ⟨k', k0', k1', k2', ts'⟩ (.slice ta' tn' tc') (.slice a' len' cap') ?_ ?_)
                       · exact HR.out)
          refine (HX.out _ _ _ _ _ _ g cn (deep - 1) (HTs.out.keptN ((Kept.refl Nil _).alloc _)) (HS.out.keptN ((Kept.refl Nil _).alloc _)) HG.out (HB2.out.alloc _) hle (by omega) (by omega)).mono ?_
          rintro e w2 ⟨r, m', rfl, b2, k2, hr2⟩
          cases r
          · go_wp2_with fail
            go_ret
            exact ⟨false, m', rfl, b2, (HK.out.alloc _).trans k2 (fun _ _ g => g), fun h => by cases h⟩
          · obtain ⟨rfl, hm'⟩ := hr2 rfl
            have HB3 := Lib.hid b2
            have HK2 := Lib.hid k2
            clear b2 k2 hr2
            go_wp2_with fail
            go_roundw
            case rel => exact ⟨j + 1, by omega, by go_num, by rw [HN.out, ← Nat.add_assoc, HCN.out]; exact HB3.out, by rw [HN.out, ← Nat.add_assoc, HCN.out]; exact hm', (HK.out.alloc _).trans HK2.out (fun _ _ g => g)⟩
            case measure => simp [intOf]; omega
        · obtain rfl : j = len := by omega
          have HE : Hid (subs.take j = subs) := Lib.hid (by rw [← HL.out]; simp)
          go_wp2_with fail
          go_ret
          refine ⟨true, _, rfl, HB2.out, HK.out, fun _ => ⟨?_, hle⟩⟩
          rw [HE.out]
          exact hQ.out.symm
theorem few_any : ∀ s : St, s.wide → ∀ ok ta tc a cap w (g m : Nat) (deep : Int), TsAt w ok (.slice ta s.hd.ts.length tc) s.hd.ts → SHolds w ok (.slice a s.subs.length cap) s.subs → (∀ b o, ok b o → b ≠ g) → Blk w g 3 #[.int .i64 m] → m ≤ 90 → -1 ≤ deep → deep ≤ 5 →
    Calls Try.prog 22 #[vS s.hd (.slice ta s.hd.ts.length tc) (.slice a s.subs.length cap), .int .i64 deep, .pointer (some ⟨g, 0, none⟩)] w (FewEnd g m s w) := by
  refine St.ind fun hd subs ih hwd ok ta tc a cap w g m deep ht h hg hb hm h1 h2 => ?_
  rw [St.wide] at hwd
  exact few_step hd.k hd.k0 hd.k1 hd.k2 hd.ts _ rfl hwd.1 subs _ rfl (fun hd' sb hx => ih _ hx (wideL_mem hwd.2 hx)) ok ta tc a cap w g m deep h hg hb hm h1 h2
end Go.Proofs.Ytoceogbanlmnoaa
