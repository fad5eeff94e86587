/- Layer cond: the law's own Small: what it lets through has at most so many conditions in it. -/
import Derived.Test.YtefojaeinhgeiaaCTree
namespace Go.Proofs.Ytefojaeinhgeiaa
open Go.RowKit
set_option maxRecDepth 100000

def SmallEnd (M g m : Nat) (s : Sh) (w : World) (e : Ending) (w' : World) : Prop :=
  ∃ (b : Bool) (m' : Nat), e = .returned (.bool b) ∧ Blk w' g 3 #[.int .i64 m'] ∧ Kept (fun k => k = g) w w' ∧ (b = true → m' = m + s.count ∧ m' ≤ M)
abbrev SmallIH (M : Nat) (subs : List Sh) : Prop := ∀ hd sb, Sh.mk hd sb ∈ subs → ∀ ok a cap w (g m : Nat) (deep : Int), Holds cA w ok (.slice a sb.length cap) sb → (∀ b o, ok b o → b ≠ g) → Blk w g 3 #[.int .i64 m] → m ≤ M → -1 ≤ deep → deep ≤ 5 →
  Calls Try.prog 28 #[vA hd (.slice a sb.length cap), .int .i64 deep, .int .i64 M, .pointer (some ⟨g, 0, none⟩)] w (SmallEnd M g m (.mk hd sb) w)
set_option maxHeartbeats 1000000 in
theorem small_step (M : Nat) (hM : M ≤ 5000) (k : Int) (x0 x1 x2 : Bool) (n0 n1 n2 : Int) (subs : List Sh) (len : Nat) (HL : Hid (subs.length = len)) (IH : Hid (SmallIH M subs))
    (ok : Nat → Nat → Prop) (a : Option Addr) (cap : Nat) (w : World) (g m : Nat) (deep : Int) (HH : Hid (Holds cA w ok (.slice a len cap) subs)) (HG : Hid (∀ b o, ok b o → b ≠ g)) (HB : Hid (Blk w g 3 #[.int .i64 m])) (hm : m ≤ M) (hd1 : -1 ≤ deep) (hd2 : deep ≤ 5) :
    Calls Try.prog 28 #[vA ⟨k, x0, x1, x2, n0, n1, n2⟩ (.slice a len cap), .int .i64 deep, .int .i64 M, .pointer (some ⟨g, 0, none⟩)] w (SmallEnd M g m (.mk ⟨k, x0, x1, x2, n0, n1, n2⟩ subs) w) := by
  have hg : g < w.heap.size := HB.out.lt
  have c0 : w.cell? ⟨g, 0, none⟩ = some (.int .i64 m) := by rw [HB.out.cell 0]; rfl
  have f0 : w.frozen? ⟨g, 0, none⟩ = false := HB.out.frozen 0
  have K0 := Lib.hid (((Kept.refl (fun k => k = g) w).setCell ⟨g, 0, none⟩ (.inl rfl) (.int .i64 ((m + 1 : Nat) : Int))).alloc (.cells #[.int .i64 k, .bool x0, .int .i64 n0, .bool x1, .int .i64 n1, .bool x2, .int .i64 n2, .slice a len cap] 38))
  have B0 := Lib.hid ((HB.out.set_ 0 (.int .i64 ((m + 1 : Nat) : Int))).alloc (.cells #[.int .i64 k, .bool x0, .int .i64 n0, .bool x1, .int .i64 n1, .bool x2, .int .i64 n2, .slice a len cap] 38))
  have hne : g ≠ w.heap.size := by omega
  by_cases h60 : m + 1 > M
  · go_enter Try.func28, Try.ntmps28
    go_wp2_with fail
    go_ret
    exact ⟨false, m + 1, rfl, by simpa using B0.out, by simpa using K0.out, fun h => by cases h⟩
  · have hs60 : decide ((M : Int) < (m : Int) + 1) = false := decide_eq_false (by omega)
    by_cases hdp : deep < 0
    · go_enter Try.func28, Try.ntmps28
      go_wp2_with fail
      go_ret
      exact ⟨false, m + 1, rfl, by simpa using B0.out, by simpa using K0.out, fun h => by cases h⟩
    · have hdn : decide (deep < 0) = false := decide_eq_false hdp
      go_enter Try.func28, Try.ntmps28
      go_wp2_with fail
      go_loopw [28] (fun i wr => ∃ j : Nat, j ≤ len ∧ i = .int .i64 j ∧ Blk wr g 3 #[.int .i64 ((m + 1 + countL (subs.take j) : Nat) : Int)] ∧ m + 1 + countL (subs.take j) ≤ M ∧ Kept (fun k => k = g) w wr) (fun i _ => len - (intOf i).toNat)
      case atStart => exact ⟨0, by omega, rfl, by simpa [countL] using B0.out, by simp [countL]; omega, by simpa using K0.out⟩
      case round =>
        obtain ⟨j, hj, rfl, hB, hle, hK⟩ := hrel
        have HK := Lib.hid hK
        have HB2 := Lib.hid hB
        have hjl : j ≤ M := by
          have h1 := length_countL (subs.take j)
          rw [List.length_take] at h1
          have := HL.out
          omega
        clear hK K0 B0 hB
        by_cases hlt : j < len
        · obtain ⟨⟨⟨k', x0', x1', x2', n0', n1', n2'⟩, sb⟩, hx⟩ : ∃ x, subs[j]? = some x := ⟨_, List.getElem?_eq_getElem (by have := HL.out; omega)⟩
          obtain ⟨b, o, a', cap', rfl, hok, hr, hs⟩ := (HH.out.kept HK.out (fun b o hb e => HG.out b o hb e)).at_ hx
          have HX := Lib.hid (IH.out _ _ (List.mem_of_getElem? hx))
          have HR := Lib.hid hr
          have HS := Lib.hid hs
          have HN := Lib.hid (countL_take_succ hx)
          clear hx hr hs hok
          generalize hcn : m + 1 + countL (subs.take j) = cn at HB2 hle
          have HCN := Lib.hid hcn
          clear hcn
          unfold SmallEnd at HX
          generalize (Sh.mk ⟨k', x0', x1', x2', n0', n1', n2'⟩ sb).count = cx at HX HN
          generalize sb.length = len' at HR HS HX
          go_wp2_with ((with_reducible refine wpList_load_A rfl (.tmp 30) rfl _ _ rfl ⟨k', x0', x1', x2', n0', n1', n2'⟩ (.slice a' len' cap') ?_ ?_)
                       · exact HR.out)
          refine (HX.out _ _ _ _ g cn (deep - 1) (HS.out.keptN ((Kept.refl Nil _).alloc _)) HG.out (HB2.out.alloc _) hle (by omega) (by omega)).mono ?_
          rintro e w2 ⟨r, m', rfl, b2, k2, hr2⟩
          cases r
          · go_wp2_with fail
            go_ret
            exact ⟨false, m', rfl, b2, (HK.out.alloc _).trans k2 (fun _ _ g => g), fun h => by cases h⟩
          · obtain ⟨rfl, hm'⟩ := hr2 rfl
            have HB3 := Lib.hid b2
            have HK2 := Lib.hid k2
            clear b2 k2 hr2
            go_wp2_with fail
            go_roundw
            case rel => exact ⟨j + 1, by omega, by go_num, by rw [HN.out, ← Nat.add_assoc, HCN.out]; exact HB3.out, by rw [HN.out, ← Nat.add_assoc, HCN.out]; exact hm', (HK.out.alloc _).trans HK2.out (fun _ _ g => g)⟩
            case measure => simp [intOf]; omega
        · obtain rfl : j = len := by omega
          have HE : Hid (subs.take j = subs) := Lib.hid (by rw [← HL.out]; simp)
          go_wp2_with fail
          go_ret
          refine ⟨true, _, rfl, HB2.out, HK.out, fun _ => ⟨?_, hle⟩⟩
          rw [HE.out]
          simp only [Sh.count]
          omega
theorem small_any (M : Nat) (hM : M ≤ 5000) : ∀ s : Sh, ∀ ok a cap w (g m : Nat) (deep : Int), Holds cA w ok (.slice a s.subs.length cap) s.subs → (∀ b o, ok b o → b ≠ g) → Blk w g 3 #[.int .i64 m] → m ≤ M → -1 ≤ deep → deep ≤ 5 →
    Calls Try.prog 28 #[vA s.hd (.slice a s.subs.length cap), .int .i64 deep, .int .i64 M, .pointer (some ⟨g, 0, none⟩)] w (SmallEnd M g m s w) := by
  refine Sh.ind fun hd subs ih ok a cap w g m deep h hg hb hm h1 h2 => ?_
  exact small_step M hM hd.k hd.x0 hd.x1 hd.x2 hd.n0 hd.n1 hd.n2 subs _ rfl (fun hd' sb hx => ih _ hx) ok a cap w g m deep h hg hb hm h1 h2
theorem smallM_any (M : Nat) (hM : M ≤ 5000) (s : Sh) (ok : Nat → Nat → Prop) (a : Option Addr) (cap : Nat) (w : World) (h : Holds cA w ok (.slice a s.subs.length cap) s.subs) (hok : ∀ b o, ok b o → b < w.heap.size) :
    Calls Try.prog 18 #[vA s.hd (.slice a s.subs.length cap), .int .i64 M] w fun e w' => ∃ b : Bool, e = .returned (.bool b) ∧ Kept Nil w w' ∧ (b = true → s.count ≤ M) := by
  have C := Lib.hid (fun w' (k : Kept Nil w w') (g : Nat) (hg : w.heap.size ≤ g) (hb : Blk w' g 3 #[.int .i64 (0 : Nat)]) => small_any M hM s ok a cap w' g 0 5 (h.keptN k) (fun b o hb => by have := hok b o hb; omega) hb (by omega) (by omega) (by omega))
  generalize s.subs.length = len at C ⊢
  generalize s.hd = hd at C ⊢
  obtain ⟨k, x0, x1, x2, n0, n1, n2⟩ := hd
  have K0 := Lib.hid (((Kept.refl Nil w).alloc (.cells #[.int .i64 k, .bool x0, .int .i64 n0, .bool x1, .int .i64 n1, .bool x2, .int .i64 n2, .slice a len cap] 38)).alloc (.cells #[.int .i64 0] 3))
  have B0 := Lib.hid (Blk.new (w.alloc (.cells #[.int .i64 k, .bool x0, .int .i64 n0, .bool x1, .int .i64 n1, .bool x2, .int .i64 n2, .slice a len cap] 38)) 3 #[.int .i64 0])
  clear h hok
  go_enter Try.func18, Try.ntmps18
  go_wp2_with fail
  refine (C.out _ K0.out (w.heap.size + 1) (by omega) (by simpa using B0.out)).mono ?_
  rintro e w2 ⟨r, m', rfl, b2, k2, hr2⟩
  have HR2 := Lib.hid hr2
  clear hr2
  go_wp2_with fail
  go_ret
  exact ⟨r, rfl, K0.out.trans k2 (fun i hi e => by omega), fun hb => by obtain ⟨e1, e2⟩ := HR2.out hb; omega⟩
theorem small60_any (s : Sh) (ok : Nat → Nat → Prop) (a : Option Addr) (cap : Nat) (w : World) (h : Holds cA w ok (.slice a s.subs.length cap) s.subs) (hok : ∀ b o, ok b o → b < w.heap.size) :
    Calls Try.prog 18 #[vA s.hd (.slice a s.subs.length cap), .int .i64 60] w fun e w' => ∃ b : Bool, e = .returned (.bool b) ∧ Kept Nil w w' ∧ (b = true → s.count ≤ 60) := smallM_any 60 (by decide) s ok a cap w h hok
end Go.Proofs.Ytefojaeinhgeiaa
