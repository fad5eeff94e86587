/- RulePlaces, given that the program's Check, Ids and Places tell what the document says. -/
import Derived.Test.YtpdofapbbpihlaaDLawFewer
import Derived.Test.YtpdofapbbpihlaaDPlaces
namespace Go.Proofs.Ytpdofapbbpihlaa
open Go.RowKit

/-- A way as a text. -/
def encW (way : List Nat) : ByteArray := way.foldl (fun t i => t ++ sgn i) ⟨#[]⟩
theorem encW_snoc (a : List Nat) (i : Nat) : encW (a ++ [i]) = encW a ++ sgn i := by unfold encW; rw [List.foldl_append]; rfl
theorem encW_size (way : List Nat) : (encW way).size = way.length := by
  have key : ∀ (l : List Nat) (t : ByteArray), (l.foldl (fun t i => t ++ sgn i) t).size = t.size + l.length := by
    intro l
    induction l with
    | nil => intro t; simp
    | cons a r ih => intro t; rw [List.foldl_cons, ih, ByteArray.size_append, sgn_size, List.length_cons]; omega
  have := key way ⟨#[]⟩
  unfold encW
  rw [this]
  show 0 + way.length = _
  omega
theorem plc_size : (∀ s : Sh, ∀ v way, ∀ t ∈ s.plc v way, t.size ≤ way.size + countL s.subs) ∧ ∀ l : List Sh, ∀ i v way, ∀ t ∈ plcL l i v way, t.size ≤ way.size + countL l := by
  refine Sh.ind2 (fun hd subs ih v way t ht => ?_) (fun i v way t ht => by simp [plcL] at ht) (fun a l ha hl i v way t ht => ?_)
  · rw [plc_mk] at ht; exact ih 0 v way t ht
  · rw [plcL, List.mem_append, List.mem_append] at ht
    have h3 : a.count = 1 + countL a.subs := by cases a; simp [Sh.count, Sh.subs]
    simp only [countL]
    rcases ht with ht | ht | ht
    · split at ht
      · rw [List.mem_singleton] at ht
        subst ht
        rw [ByteArray.size_append, sgn_size]; omega
      · cases ht
    · have := ha v (way ++ sgn i) t ht
      rw [ByteArray.size_append, sgn_size] at this; omega
    · have := hl (i + 1) v way t ht; omega
/-- Ways in memory: a slice of slices of numbers. -/
def Ways (W : World) (a : Option Addr) (ways : List (List Nat)) : Prop :=
  ways = [] ∨ ∃ g o, a = some ⟨g, o, none⟩ ∧ ∀ i way, ways[i]? = some way → ∃ ai ci, W.cell? ⟨g, o + i, none⟩ = some (.slice ai way.length ci) ∧ (way = [] ∨ ∃ gi oi, ai = some ⟨gi, oi, none⟩ ∧ ∀ j (x : Nat), way[j]? = some x → W.cell? ⟨gi, oi + j, none⟩ = some (.int .i64 (x : Int)))
theorem Ways.kept {W W' : World} {a : Option Addr} {ways : List (List Nat)} (h : Ways W a ways) (k : Kept Nil W W') : Ways W' a ways := by
  rcases h with h | ⟨g, o, e, h⟩
  · exact .inl h
  · refine .inr ⟨g, o, e, fun i way hi => ?_⟩
    obtain ⟨ai, ci, hc, hw⟩ := h i way hi
    refine ⟨ai, ci, k.cellOf hc, ?_⟩
    rcases hw with hw | ⟨gi, oi, e2, hw⟩
    · exact .inl hw
    · exact .inr ⟨gi, oi, e2, fun j x hx => k.cellOf (hw j x hx)⟩
/-- The program's Places tells what the document says, of a right rule. -/
def PlacesOK : Prop := ∀ (nm : ByteArray) (l : List Sh) (ok : Nat → Nat → Prop) (a : Option Addr) (cap : Nat) (v : Int) (w : World), nm.size ≤ 200 → countL l ≤ 20 → chkRule (okName nm) l = 0 → Holds cA w ok (.slice a l.length cap) l →
  Calls Try.prog 13 #[vRule nm (.slice a l.length cap), .int .i64 v] w fun e w' => ∃ a' cap' ways, e = .returned (.slice a' (List.length ways) cap') ∧ Kept Nil w w' ∧ Ways w' a' ways ∧ (∀ way ∈ ways, ∀ x ∈ way, x ≤ 20) ∧ ways.map encW = plcL l 0 v ⟨#[]⟩
theorem SRow.shape {w : World} {B : Nat} {v : Value} {l : List ByteArray} (h : SRow w B v l) : ∃ a cap, v = .slice a l.length cap ∧ (l = [] ∨ ∃ g, a = some ⟨g, 0, none⟩ ∧ ∀ i s, l[i]? = some s → w.cell? ⟨g, i, none⟩ = some (.string s)) := by
  rcases h.2 with ⟨e, e0⟩ | ⟨g, cap, cur, e, _⟩
  · exact ⟨none, 0, by rw [e, e0], .inl (List.length_eq_zero_iff.1 e0)⟩
  · refine ⟨_, cap, e, .inr ⟨g, rfl, fun i s hs => ?_⟩⟩
    subst e
    have := h.cells (g := g) rfl i (.string s) (by rw [List.getElem?_map, hs]; rfl)
    rwa [Addr.add_mid, Nat.zero_add] at this
theorem idsL_take_succ {x : Sh} (l : List Sh) (j : Nat) (h : l[j]? = some x) : idsL (l.take (j + 1)) = idsL (l.take j) + (if x.hd.k = 1 then 1 else 0) := by
  unfold idsL
  rw [List.take_add_one, h, List.filter_append, List.length_append]
  congr 1
  by_cases hk : x.hd.k = 1 <;> simp [hk]
theorem idsL_le (l : List Sh) : idsL l ≤ countL l := Nat.le_trans (List.length_filter_le _ _) (length_countL l)
theorem fieldRule (nm : ByteArray) (s : Option Addr) (n c : Nat) (W : World) : (Instr.field 32 (.agg #[.string nm, .slice s n c]) 1).run Try.prog W = .ok (.slice s n c) W := by
  simp [Instr.field, run_underlying Try.underlying32, part, isAgg, run_underlying Try.underlying30, asAgg]
set_option maxHeartbeats 8000000 in
theorem placesRule_any (hCheck : CheckOK) (hIds : IdsOK) (hPlaces : PlacesOK) (nm : ByteArray) (hnm : nm.size ≤ maxLen) (l : List Sh) (a : Option Addr) (cap : Nat) (_hcap : l.length ≤ cap ∧ cap ≤ maxLen) (v : Int) (w : World) (h : Holds cA w (fun b _ => b < w.heap.size) (.slice a l.length cap) l) :
    Calls Try.prog 4 #[vRule nm (.slice a l.length cap), .int .i64 v] w fun e w' => e = .returned (.bool true) ∧ Kept Nil w w' := by
  have HA := Lib.hid (fun W => awakeRule_any hCheck hIds W)
  have CF := Lib.hid (fun w' (kk : Kept Nil w w') => fine_any nm hnm l _ a cap w' (h.keptN kk) (fun b o hb => Nat.lt_of_lt_of_le hb kk.size))
  unfold BoolEnd at CF
  have CI : Hid (∀ w', Kept Nil w w' → (countL l ≤ 20 ∧ nm.size ≤ 200 ∧ chkRule (okName nm) l = 0) → Calls Try.prog 15 #[vRule nm (.slice a l.length cap)] w' fun e w'' => e = .returned (.int .i64 (idsL l : Int)) ∧ Kept Nil w' w'') := Lib.hid fun w' kk hc => hIds nm l _ a cap w' hc.2.1 (by omega) hc.2.2 (h.keptN kk)
  have CP : Hid (∀ w', Kept Nil w w' → (countL l ≤ 20 ∧ nm.size ≤ 200 ∧ chkRule (okName nm) l = 0) → Calls Try.prog 13 #[vRule nm (.slice a l.length cap), .int .i64 v] w' fun e w'' => ∃ a' cap' ways, e = .returned (.slice a' (List.length ways) cap') ∧ Kept Nil w' w'' ∧ Ways w'' a' ways ∧ (∀ way ∈ ways, ∀ x ∈ way, x ≤ 20) ∧ ways.map encW = plcL l 0 v ⟨#[]⟩) := Lib.hid fun w' kk hc => hPlaces nm l _ a cap v w' hc.2.1 hc.1 hc.2.2 (h.keptN kk)
  have CR : Hid (∀ w', Kept Nil w w' → countL l ≤ 20 → Calls Try.prog 11 #[vRule nm (.slice a l.length cap)] w' fun e w'' => ∃ a' cap', e = .returned (vRule nm (.slice a' l.length cap')) ∧ Holds cR w'' (okM w'.heap.size w'') (.slice a' l.length cap') l ∧ Kept Nil w' w'') := Lib.hid fun w' k hc => refRuleOf_any nm l (by omega) _ a cap w' (h.keptN k)
  have CQ : Hid (∀ w' ok' a' cap', countL l ≤ 20 → Holds cR w' ok' (.slice a' l.length cap') l → Calls Try.prog 14 #[.slice a' l.length cap', .int .i64 v, .string ⟨#[]⟩] w' fun e w'' => ∃ r, e = .returned r ∧ SRow w'' w'.heap.size r (plcL l 0 v ⟨#[]⟩) ∧ Kept Nil w' w'') := Lib.hid fun w' ok' a' cap' hc hh => refPlaces_tree v (.mk zeroH l) (by simp only [Sh.count]; omega) ok' a' cap' ⟨#[]⟩ w' (by show 0 + countL l ≤ 2000; omega) hh
  have HSz := Lib.hid (fun t (ht : t ∈ plcL l 0 v ⟨#[]⟩) => plc_size.2 l 0 v ⟨#[]⟩ t ht)
  have HLn := Lib.hid (plc_len.2 l 0 v ⟨#[]⟩)
  have HH := Lib.hid h
  clear hCheck hIds hPlaces h hnm _hcap
  generalize plcL l 0 v ⟨#[]⟩ = want at CP CQ HSz HLn
  obtain ⟨len, hlen⟩ : ∃ len, l.length = len := ⟨_, rfl⟩
  rw [hlen] at CF CI CP CR CQ HH ⊢
  have HL := Lib.hid hlen
  clear hlen
  have K0 := Lib.hid ((Kept.refl Nil w).alloc (.cells #[.string nm, .slice a len cap] 24))
  have B0 := Lib.hid (Blk.new w 24 #[.string nm, .slice a len cap])
  go_enter Try.func4, Try.ntmps4
  go_wp2_with fail
  refine (CF.out _ K0.out).mono ?_
  rintro e w1 ⟨b, rfl, k1, hb⟩
  have K1 := Lib.hid (K0.out.trans k1 (fun _ _ g => g))
  have B1 := Lib.hid (B0.out.kept k1 id)
  have HB := Lib.hid hb
  clear k1 hb K0 B0 CF
  cases b
  · go_wp2_with fail
    refine (HA.out _).mono ?_
    rintro e w3 ⟨rfl, k3⟩
    go_wp2_with fail
    go_ret
    exact ⟨rfl, K1.out.trans k3 (fun _ _ g => g)⟩
  have HT := HB.out rfl
  have CI2 := Lib.hid (fun w' k => CI.out w' k HT)
  have CP2 := Lib.hid (fun w' k => CP.out w' k HT)
  have CR2 := Lib.hid (fun w' k => CR.out w' k HT.1)
  have CQ2 := Lib.hid (fun w' ok' a' cap' hh => CQ.out w' ok' a' cap' HT.1 hh)
  have HC20 := Lib.hid HT.1
  clear CI CP CR CQ HB HT
  have c0 := B1.out.cell 0
  have c1 := B1.out.cell 1
  simp at c0 c1
  go_wp2_with fail
  refine (CP2.out _ K1.out).mono ?_
  rintro e w2 ⟨a2, cap2, ways, rfl, k2, hw2, h20, hmap⟩
  have K2 := Lib.hid (K1.out.trans k2 (fun _ _ g => g))
  have B2 := Lib.hid (B1.out.kept k2 id)
  have W2 := Lib.hid hw2
  have H20 := Lib.hid h20
  have HMap := Lib.hid hmap
  clear k2 hw2 h20 hmap K1 B1 CP2 c0 c1
  obtain ⟨nW, hnW⟩ : ∃ nW, ways.length = nW := ⟨_, rfl⟩
  have hnW20 : nW ≤ 20 := by
    have h1 := congrArg List.length HMap.out
    rw [List.length_map, hnW] at h1
    have := HLn.out
    have := HC20.out
    omega
  have HNW := Lib.hid hnW
  rw [hnW]
  clear hnW
  go_wp2_with fail
  go_loopw [5, 24] (fun r i wr => ∃ j : Nat, j ≤ nW ∧ i = .int .i64 j ∧ SRow wr w2.heap.size r ((ways.take j).map encW) ∧ Kept Nil w2 wr) (fun _ i _ => nW - (intOf i).toNat)
  case atStart => exact ⟨0, by omega, rfl, World.ownsRow_nil _ _ _ _, Kept.refl _ _⟩
  case round =>
    obtain ⟨j, hj, rfl, hR, hK⟩ := hrel
    have HR := Lib.hid hR
    have HK := Lib.hid hK
    have HWs := Lib.hid (W2.out.kept hK)
    clear hR hK
    by_cases hlt : j < nW
    · obtain ⟨way, hx⟩ : ∃ x, ways[j]? = some x := ⟨_, List.getElem?_eq_getElem (by have := HNW.out; omega)⟩
      rcases HWs.out with h0 | ⟨g, o, rfl, hat⟩
      · rw [h0] at hx; cases hx
      · obtain ⟨ai, ci, cway, hcells⟩ := hat j way hx
        have HX20 : Hid (∀ x ∈ way, x ≤ 20) := Lib.hid (H20.out way (List.mem_of_getElem? hx))
        have HN : Hid ((ways.take (j + 1)).map encW = (ways.take j).map encW ++ [encW way]) := Lib.hid (by rw [List.take_add_one, hx, List.map_append]; rfl)
        have hwl : way.length ≤ 20 := by
          have h1 : encW way ∈ want := by rw [← HMap.out]; exact List.mem_map.2 ⟨way, List.mem_of_getElem? hx, rfl⟩
          have h2 := HSz.out _ h1
          rw [encW_size] at h2
          have h3 := HC20.out
          have h4 : (⟨#[]⟩ : ByteArray).size = 0 := rfl
          omega
        have HCl := Lib.hid hcells
        have HOL : Hid (((ways.take j).map encW).length ≤ 20) := Lib.hid (by rw [List.length_map, List.length_take]; have := HNW.out; omega)
        clear hx hat hcells
        obtain ⟨wl, hwlen⟩ : ∃ wl, way.length = wl := ⟨_, rfl⟩
        rw [hwlen] at cway hwl
        have HWL := Lib.hid hwlen
        clear hwlen
        have hj0 : (0 : Int) ≤ (j : Int) := by omega
        obtain ⟨wo, rfl⟩ : ∃ wo : World, wo = wr := ⟨_, rfl⟩
        go_wp2_with fail
        go_loopw [8, 30] (fun t i wi => ∃ m : Nat, m ≤ wl ∧ i = .int .i64 m ∧ t = .string (encW (way.take m)) ∧ Kept Nil wo wi) (fun _ i _ => wl - (intOf i).toNat)
        case atStart => exact ⟨0, by omega, rfl, rfl, Kept.refl _ _⟩
        case round =>
          obtain ⟨m, hm, rfl, rfl, hKi⟩ := hrel
          have HKi := Lib.hid hKi
          clear hKi
          by_cases hmt : m < wl
          · obtain ⟨x, hmx⟩ : ∃ x, way[m]? = some x := ⟨_, List.getElem?_eq_getElem (by have := HWL.out; omega)⟩
            have hx20 : x ≤ 20 := HX20.out x (List.mem_of_getElem? hmx)
            rcases HCl.out with h0 | ⟨gi, oi, rfl, hcx⟩
            · rw [h0] at hmx; cases hmx
            · have cx := HKi.out.cellOf (hcx m x hmx)
              have HNx : Hid (encW (way.take (m + 1)) = encW (way.take m) ++ sgn x) := Lib.hid (by rw [List.take_add_one, hmx]; exact encW_snoc _ _)
              have hsz : (encW (way.take m)).size ≤ 20 := by rw [encW_size, List.length_take]; omega
              clear hmx hcx
              generalize encW (way.take m) = tt at HNx hsz
              have hlt0 : decide ((x : Int) < 0) = false := decide_eq_false (by omega)
              have hgt20 : decide ((20 : Int) < (x : Int)) = false := decide_eq_false (by omega)
              have hu8 : IntKind.u8.wrap (97 + (x : Int)) = 97 + (x : Int) := by
                show (97 + (x : Int)) % 256 = _
                omega
              have hcv : ∀ W : World, W.cell? ⟨wr.heap.size, 0, none⟩ = some (.int .u8 (97 + (x : Int))) → (convert 39 9 (.slice (some ⟨wr.heap.size, 0, none⟩) 1 1)).run Try.prog W = .ok (.string (sgn x)) W := fun W hW => by
                refine run_convert_bytes_back (P := Try.prog) W 39 9 5 ⟨wr.heap.size, 0, none⟩ 1 [UInt8.ofNat (97 + x)] Try.underlying39 Try.underlying5 Try.underlying9 (fun i hi => ?_)
                have hi0 : i = 0 := by simpa using hi
                subst hi0
                show W.cell? ⟨wr.heap.size, 0, none⟩ = _
                rw [hW]
                have ht : (UInt8.ofNat (97 + x)).toNat = 97 + x := by rw [UInt8.toNat_ofNat']; omega
                show some (Value.int .u8 (97 + (x : Int))) = some (.int .u8 (((UInt8.ofNat (97 + x)).toNat : Nat) : Int))
                rw [ht, Int.natCast_add]
                rfl
              have hcv2 := hcv (wr.alloc (.cells #[.int .u8 (97 + (x : Int))] 5)) (by simp)
              have hadd : ∀ W : World, (Op.stringOp .add tt (sgn x)).run Try.prog W = .ok (.string (tt ++ sgn x)) W := fun W => run_string_add_sum W _ _ (by rw [sgn_size]; omega)
              clear hcv
              go_wp2_with fail
              go_roundw
              case rel => exact ⟨m + 1, by omega, by go_num, by rw [HNx.out], HKi.out.alloc _⟩
              case measure => simp [intOf]; omega
          · obtain rfl : m = wl := by omega
            have HE : Hid (way.take m = way) := Lib.hid (by rw [← HWL.out]; simp)
            rw [HE.out]
            obtain ⟨v1, w3, r1, o1, g1⟩ := appendS_one wr (HR.out.kept HKi.out) (by have := HK.out.size; have := HKi.out.size; omega) (by have := HOL.out; omega) (encW way)
            have RR1 := Lib.hid r1
            have O1 := Lib.hid o1
            have HO := Lib.hid HR.out.own
            have kg : Kept (fun k => u5.ownBlock = some k) wr w3 := (((Kept.refl _ wr).alloc _).grown g1 (fun k hk => .inl hk))
            have K4 := Lib.hid ((HK.out.trans HKi.out (fun _ _ g => g)).trans kg (fun i hi e => by have := HO.out i e; omega))
            clear r1 o1 g1 kg
            go_wp2_with (at_builtin; refine wpList_append_run rfl (.tmp 48) (.tmp 50) 35 rfl _ _ rfl rfl RR1.out ?_)
            go_roundw
            case rel => exact ⟨j + 1, by omega, by go_num, by rw [HN.out]; exact O1.out, K4.out⟩
            case measure => simp [intOf]; omega
    · obtain rfl : j = nW := by omega
      have HE : Hid ((ways.take j).map encW = want) := Lib.hid (by rw [← HNW.out, List.take_length]; exact HMap.out)
      have HRw := Lib.hid (show SRow wr w2.heap.size u5 want by have := HR.out; rwa [HE.out] at this)
      have K3 := Lib.hid (K2.out.trans HK.out (fun _ _ g => g))
      have B3 := Lib.hid (B2.out.kept HK.out id)
      clear HR HK HE K2 B2 W2 HWs
      have c0 := B3.out.cell 0
      have c1 := B3.out.cell 1
      simp at c0 c1
      go_wp2_with fail
      refine (CR2.out _ K3.out).mono ?_
      rintro e w3 ⟨a3, cap3, rfl, h3, k3⟩
      have H3 := Lib.hid h3
      have R3 := Lib.hid (HRw.out.kept k3)
      have K4 := Lib.hid (K3.out.trans k3 (fun _ _ g => g))
      have B4 := Lib.hid (B3.out.kept k3 id)
      clear h3 k3 c0 c1 HRw K3 B3
      unfold vRule
      have hfld := fieldRule nm a3 len cap3
      go_wp2_with fail
      refine (CQ2.out _ _ _ _ H3.out).mono ?_
      rintro e w4 ⟨rv, rfl, h4, k4⟩
      obtain ⟨al, capl, rfl, hal⟩ := (R3.out.kept k4).shape
      obtain ⟨aw, capw, rfl, haw⟩ := h4.shape
      have HAl := Lib.hid hal
      have HAw := Lib.hid haw
      have K5 := Lib.hid (K4.out.trans k4 (fun _ _ g => g))
      have B5 := Lib.hid (B4.out.kept k4 id)
      clear h4 k4 hal haw H3 R3 K4 B4 CR2 CQ2
      obtain ⟨n, hn⟩ : ∃ n, want.length = n := ⟨_, rfl⟩
      have hn20 : n ≤ 20 := by have := HLn.out; have := HC20.out; omega
      have HNn := Lib.hid hn
      rw [hn]
      clear hn
      go_wp2_with fail
      go_loopw [65] (fun i wr => ∃ m : Nat, m ≤ n ∧ i = .int .i64 m ∧ Kept Nil w4 wr) (fun i _ => n - (intOf i).toNat)
      case atStart => exact ⟨0, by omega, rfl, Kept.refl _ _⟩
      case round =>
        obtain ⟨m, hm, rfl, hK⟩ := hrel
        have HK := Lib.hid hK
        clear hK
        by_cases hmt : m < n
        · obtain ⟨s, hs⟩ : ∃ x, want[m]? = some x := ⟨_, List.getElem?_eq_getElem (by have := HNn.out; omega)⟩
          rcases HAl.out with h0 | ⟨gl, rfl, hcl⟩
          · rw [h0] at hs; cases hs
          rcases HAw.out with h0 | ⟨gw, rfl, hcw⟩
          · rw [h0] at hs; cases hs
          have cl := HK.out.cellOf (hcl m s hs)
          have cw := HK.out.cellOf (hcw m s hs)
          clear hs hcl hcw
          go_wp2_with fail
          go_region
          go_wp2_with fail
          go_roundw
          case rel => exact ⟨m + 1, by omega, by go_num, HK.out.drew⟩
          case measure => simp [intOf]; omega
        · obtain rfl : m = n := by omega
          have K6 := Lib.hid (K5.out.trans HK.out (fun _ _ g => g))
          have B6 := Lib.hid (B5.out.kept HK.out id)
          clear HK K5 B5 HAl HAw
          obtain ⟨wp, rfl⟩ : ∃ wp : World, wp = wr := ⟨_, rfl⟩
          have c0 := B6.out.cell 0
          have c1 := B6.out.cell 1
          simp at c0 c1
          go_wp2_with fail
          go_loopw [13, 81] (fun ids i wr => ∃ q : Nat, q ≤ len ∧ i = .int .i64 q ∧ ids = .int .i64 (idsL (l.take q) : Int) ∧ Kept Nil wp wr) (fun _ i _ => len - (intOf i).toNat)
          case atStart => exact ⟨0, by omega, rfl, rfl, Kept.refl _ _⟩
          case round =>
            obtain ⟨q, hq, rfl, rfl, hK⟩ := hrel
            have HK := Lib.hid hK
            clear hK
            by_cases hqt : q < len
            · obtain ⟨⟨⟨k', x0', x1', x2', n0', n1', n2'⟩, sb⟩, hx⟩ : ∃ x, l[q]? = some x := ⟨_, List.getElem?_eq_getElem (by have := HL.out; omega)⟩
              obtain ⟨b, o, a', cap', rfl, hok, hr0, hs⟩ := HH.out.at_ hx
              have HRow := Lib.hid (rangeAt_kept (K6.out.trans HK.out (fun _ _ g => g)) id hr0)
              have HN : Hid (idsL (l.take (q + 1)) = idsL (l.take q) + (if k' = 1 then 1 else 0)) := Lib.hid (idsL_take_succ l q hx)
              have hlen20 : len ≤ 20 := by have h1 := length_countL l; have h2 := HL.out; have h3 := HC20.out; omega
              have hb : idsL (l.take q) ≤ 20 := by have h1 := idsL_take l q; have h2 := idsL_le l; have := HC20.out; omega
              clear hx hr0 hs hok
              generalize idsL (l.take q) = ids at HN hb
              by_cases hk : k' = 1
              · subst hk
                go_wp2_with ((with_reducible refine wpList_load_A rfl (.tmp 83) rfl _ _ rfl ⟨1, x0', x1', x2', n0', n1', n2'⟩ (.slice a' sb.length cap') ?_ ?_)
                             · exact HRow.out)
                go_roundw
                case rel => exact ⟨q + 1, by omega, by go_num, by rw [HN.out]; rfl, HK.out.alloc _⟩
                case measure => simp [intOf]; omega
              · have hkd : decide (k' = 1) = false := decide_eq_false hk
                go_wp2_with ((with_reducible refine wpList_load_A rfl (.tmp 83) rfl _ _ rfl ⟨k', x0', x1', x2', n0', n1', n2'⟩ (.slice a' sb.length cap') ?_ ?_)
                             · exact HRow.out)
                go_roundw
                case rel => exact ⟨q + 1, by omega, by go_num, by rw [HN.out, if_neg hk]; rfl, HK.out.alloc _⟩
                case measure => simp [intOf]; omega
            · obtain rfl : q = len := by omega
              have HE : Hid (l.take q = l) := Lib.hid (by rw [← HL.out]; simp)
              rw [HE.out]
              have K7 := Lib.hid (K6.out.trans HK.out (fun _ _ g => g))
              have B7 := Lib.hid (B6.out.kept HK.out id)
              clear HK K6 B6
              have c0 := B7.out.cell 0
              have c1 := B7.out.cell 1
              simp at c0 c1
              go_wp2_with fail
              refine (CI2.out _ K7.out).mono ?_
              rintro e w8 ⟨rfl, k8⟩
              have K8 := Lib.hid (K7.out.trans k8 (fun _ _ g => g))
              clear k8 K7
              go_wp2_with fail
              refine (HA.out _).mono ?_
              rintro e w9 ⟨rfl, k9⟩
              have K9 := Lib.hid (K8.out.trans k9 (fun _ _ g => g))
              clear k9 K8
              go_wp2_with fail
              go_ret
              exact ⟨rfl, K9.out⟩
end Go.Proofs.Ytpdofapbbpihlaa
