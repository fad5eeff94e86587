/- Layer trie: the law TrieOrder, wherever its lists lie. -/
import Derived.Test.YtodghgeghpbdlaaCZOrdM
namespace Go.Proofs.Ytodghgeghpbdlaa
open Go.RowKit Go.Maps Go.WideMaps
set_option maxRecDepth 100000

/-- Between two rounds that compile the lists. -/
structure OrA (w2 : World) (Ls : List (List Sh)) (j : Nat) (a2 : Option Addr) (n2 c2 : Nat) (W : World) : Prop where
  ex : ∃ vs, Row cV 30 1 W w2.heap.size (.slice a2 n2 c2) vs ∧ Sls W (fun b _ => w2.heap.size ≤ b ∧ b < W.heap.size ∧ (Value.slice a2 n2 c2).ownBlock ≠ some b) vs (stA (Ls.take j))
  kept : Kept Nil w2 W
  len : n2 = j
  good : ∀ l ∈ Ls.take j, GoesT l
/-- Between two rounds that add them to both. -/
structure OrB (w3 : World) (Z : Nat → Prop) (p q : Nat) (L1 L2 : List (List St)) (m : Nat) (W : World) : Prop where
  ex : ∃ c1 c2, TO W c1 p L1 m ∧ TO W c2 q L2 m ∧ (∀ b, c1 b ≠ 0 → c2 b = 0) ∧ ∀ b, Z b → c1 b = 0 ∧ c2 b = 0
  kept : Kept (fun b => ¬ Z b) w3 W
section
variable {w3 W W' : World} {Z : Nat → Prop} {p q m : Nat} {L1 L2 : List (List St)} {l : List St}
theorem OrB.keptN (h : OrB w3 Z p q L1 L2 m W) (k : Kept Nil W W') : OrB w3 Z p q L1 L2 m W' := by
  obtain ⟨c1, c2, h1, h2, h3, h4⟩ := h.ex
  exact ⟨⟨c1, c2, h1.keptN k, h2.keptN k, h3, h4⟩, h.kept.trans k (fun _ _ e => e.elim)⟩
theorem OrB.swap (h : OrB w3 Z p q L1 L2 m W) : OrB w3 Z q p L2 L1 m W := by
  obtain ⟨c1, c2, h1, h2, h3, h4⟩ := h.ex
  exact ⟨⟨c2, c1, h2, h1, fun b e => by
    by_cases e2 : c1 b = 0
    · exact e2
    · exact absurd (h3 b e2) e, fun b hz => (h4 b hz).symm⟩, h.kept⟩
theorem OrB.add (h : OrB w3 Z p q L1 L2 m W) (hZ : ∀ b, Z b → b < w3.heap.size) (hl : Rl l) (hm : m ≤ 1000) (hL : L1.length ≤ 100) (ok : Nat → Nat → Prop) (hok : ∀ b o, ok b o → Z b) (a : Option Addr) (cap : Nat) (hH : SHolds w3 ok (.slice a l.length cap) l) :
    Calls Try.prog 12 #[.pointer (some ⟨p, 0, none⟩), .slice a l.length cap] W fun e W' => ∃ v, e = .returned v ∧ OrB w3 Z p q (L1 ++ [l]) L2 (m + 16) W' := by
  obtain ⟨c1, c2, h1, h2, h3, h4⟩ := h.ex
  have HH := Lib.hid h
  refine (h1.add hl hm hL ok (fun b o hb => ⟨Nat.lt_of_lt_of_le (hZ b (hok b o hb)) h.kept.size, (h4 b (hok b o hb)).1⟩) a cap (hH.kept h.kept (fun b o hb e => e (hok b o hb)))).mono ?_
  rintro e W' ⟨v, c', rfl, t1, k, hs⟩
  have h2' := h2.kept k (fun b e => h3 b e)
  obtain ⟨es, U, E, q1, q2, q3⟩ := h2'
  refine ⟨v, rfl, ⟨c', c2, t1, ⟨es, U, E, q1, q2, by omega⟩, fun b e => ?_, fun b hz => ⟨?_, (h4 b hz).2⟩⟩, HH.out.kept.trans k (fun b _ e hz => e (h4 b hz).1)⟩
  · rcases hs b e with e | e
    · exact h3 b e
    · by_cases e2 : c2 b = 0
      · exact e2
      · have := h2.low b e2; omega
  · by_cases e : c' b = 0
    · exact e
    · rcases hs b e with e | e
      · exact absurd (h4 b hz).1 e
      · have := hZ b hz; have := HH.out.kept.size; omega
end
theorem take_rev {α : Type} (l : List α) (i : Nat) (x : α) (h : l[l.length - 1 - i]? = some x) (hi : i < l.length) : l.reverse.take (i + 1) = l.reverse.take i ++ [x] := by
  rw [List.take_add_one, List.getElem?_reverse hi, h]; rfl
set_option maxHeartbeats 16000000 in
theorem order_any (Ls : List (List Sh)) (ok : Nat → Nat → Prop) (vals : List SlV) {w : World} {a : Option Addr} {n cap : Nat} (hr : In cV 1 w a n vals) (hs : Lcs w ok vals Ls) (hok : ∀ b o, ok b o → b < w.heap.size) :
    Calls Try.prog 5 #[.slice a n cap] w fun e w' => e = .returned (.bool true) ∧ Kept Nil w w' := by
  have HR := Lib.hid hr
  have HS := Lib.hid hs
  have HOK := Lib.hid hok
  have HN := Lib.hid (show n = Ls.length by rw [← hr.1, hs.1])
  have HA := Lib.hid awake_any
  clear hr hs hok
  go_enter Try.func5, Try.ntmps5
  go_wp2_with fail
  refine (new_any w).mono ?_
  rintro e w1 ⟨p, c, rfl, te, k1, hc⟩
  have HTE := Lib.hid te
  have K1 := Lib.hid k1
  have HC := Lib.hid hc
  clear te k1 hc
  go_wp2_with fail
  refine (new_any w1).mono ?_
  rintro e w2 ⟨q, c2, rfl, te2, k2, hc2⟩
  have HTE2 := Lib.hid te2
  have HK2 := Lib.hid k2
  have HC2 := Lib.hid hc2
  have K2 := Lib.hid (K1.out.trans k2 (fun _ _ e => e))
  clear te2 k2 hc2
  by_cases hn8 : n ≤ 8
  · have e1 : decide ((8 : Int) < (n : Int)) = false := by simp; omega
    go_wp2_with fail
    go_loopw [5, 39] (fun v i wr => ∃ (j : Nat) (a2 : Option Addr) (n2 c2 : Nat), j ≤ n ∧ i = .int .i64 j ∧ v = .slice a2 n2 c2 ∧ OrA w2 Ls j a2 n2 c2 wr) (fun _ i _ => n - (intOf i).toNat)
    case atStart => exact ⟨0, none, 0, 0, Nat.zero_le _, rfl, rfl, ⟨[], Row.nil _ _, rfl, fun i x hi => by cases hi⟩, Kept.refl _ _, rfl, by simp⟩
    case round =>
      obtain ⟨j, a2, n2, cc2, hj, rfl, rfl, hI⟩ := hrel
      have HI := Lib.hid hI
      have HK := Lib.hid (K2.out.trans hI.kept (fun _ _ e => e))
      by_cases hlt : j < n
      · obtain ⟨l, hl⟩ : ∃ l, Ls[j]? = some l := ⟨_, List.getElem?_eq_getElem (by have := HN.out; omega)⟩
        obtain ⟨bx, cx, hvx, hhx⟩ := HS.out.2 j l hl
        obtain ⟨b0, o0, rfl, hb0, hc0⟩ := (HR.out.kept HK.out).at_ hvx
        have q0 := hc0 0 _ rfl
        rw [Nat.mul_one, Nat.add_zero] at q0
        have HTK := Lib.hid (show Ls.take (j + 1) = Ls.take j ++ [l] by rw [List.take_add_one, hl]; rfl)
        have CF := Lib.hid (fineL_any l ok bx cx wr (hhx.keptN HK.out) (fun b o hb => Nat.lt_of_lt_of_le (HOK.out b o hb) HK.out.size))
        have HHX := Lib.hid (hhx.keptN HK.out)
        have hjj : (j : Int) < (n : Int) := by omega
        obtain ⟨len, hlen⟩ : ∃ len, l.length = len := ⟨_, rfl⟩
        have HL := Lib.hid hlen
        simp only [hlen] at q0 CF HHX
        clear hI hl hvx hhx hc0 hlen
        go_wp2_with fail
        refine CF.out.mono ?_
        rintro e w3 ⟨b, rfl, k3, hb⟩
        have K3 := Lib.hid k3
        have HB := Lib.hid hb
        clear k3 hb CF q0
        cases b
        · go_wp2_with fail
          refine (HA.out _).mono ?_
          rintro e w4 ⟨rfl, k4⟩
          go_wp2_with fail
          go_ret
          exact ⟨rfl, (HK.out.trans K3.out (fun _ _ e => e)).trans k4 (fun _ _ e => e)⟩
        · have HG : Hid (GoesT l) := Lib.hid (HB.out rfl)
          clear HB
          have C6 := Lib.hid (refL_any l (by have := HG.out.1; omega) ok bx cx w3 (by rw [HL.out]; exact HHX.out.keptN K3.out))
          unfold ListEnd at C6
          simp only [HL.out] at C6
          go_wp2_with fail
          refine C6.out.mono ?_
          rintro e w4 ⟨a4, c4, rfl, h4, k4⟩
          have CO := Lib.hid (refCompile_of of_all l HG.out _ a4 c4 w4 (by rw [HL.out]; exact h4))
          unfold StsEnd at CO
          simp only [HL.out, stL_length] at CO
          have K4 := Lib.hid (K3.out.trans k4 (fun _ _ e => e))
          clear h4 k4 C6
          go_wp2_with fail
          refine CO.out.mono ?_
          rintro e w5 ⟨a5, c5, rfl, h5, k5⟩
          have HM : Hid (massL (stL l []) ≤ 64) := Lib.hid (by have := st_mass.2 l []; have := HG.out.1; omega)
          have HSL : Hid ((stL l []).length = len) := Lib.hid (by rw [stL_length]; exact HL.out)
          have CS := Lib.hid (steps_any (stL l []) (by have := HM.out; omega) _ a5 c5 w5 (by rw [HSL.out]; exact h5))
          unfold StsEnd at CS
          simp only [HSL.out] at CS
          have K5 := Lib.hid (K4.out.trans k5 (fun _ _ e => e))
          clear h5 k5 CO
          go_wp2_with fail
          refine CS.out.mono ?_
          rintro e w6 ⟨a6, c6, rfl, h6, k6⟩
          have K6 := Lib.hid (K5.out.trans k6 (fun _ _ e => e))
          have H6 := Lib.hid h6
          have HK56 := Lib.hid k6
          clear h6 k6 CS
          obtain ⟨vs, row, sls⟩ := HI.out.ex
          have hvl : vs.length ≤ 8 := by
            have h1 := sls.1
            unfold stA at h1
            rw [List.length_map, List.length_take] at h1
            omega
          have hB6 : w2.heap.size ≤ w6.heap.size := Nat.le_trans HI.out.kept.size K6.out.size
          obtain ⟨a9, c9, w9, hrun, hR9, k9, ho9⟩ := (row.keptN K6.out).push2 elsLP cV_len cV_one 55 hB6 (by omega) (a6, len, c6) #[.slice a6 len c6] rfl
          have HR9 := Lib.hid hR9
          have HK9 := Lib.hid k9
          have HO9 := Lib.hid ho9
          have HROW := Lib.hid row
          have HSLS := Lib.hid sls
          clear row sls hR9 k9 ho9 hB6
          go_wp2_with (refine wpList_append_run rfl (.tmp 47) (.tmp 52) 55 rfl (.slice a2 n2 cc2) (.slice (some ⟨w6.heap.size, 0, none⟩) 1 1) rfl rfl (v' := .slice a9 (n2 + 1) c9) (w' := w9) (by with_reducible exact hrun) ?_)
          go_roundw
          case rel =>
            have s6 := K6.out.size
            have s56 := HK56.out.size
            have s5 := K5.out.size
            have s9 := HK9.out.size
            have s2 := HI.out.kept.size
            have old : ∀ b, (Value.slice a2 n2 cc2).ownBlock = some b → w2.heap.size ≤ b ∧ b < wr.heap.size := fun b e => by
              obtain ⟨cs, e2⟩ := HROW.out.block e
              exact ⟨HROW.out.lowb e, (Array.getElem?_eq_some_iff.1 e2).1⟩
            have S1 := (HSLS.out.keptN K6.out).keptF HK9.out (fun b o e f => e.2.2 f)
            have T1 := S1.mono (ok' := fun b _ => w2.heap.size ≤ b ∧ b < w9.heap.size ∧ (Value.slice a9 (n2 + 1) c9).ownBlock ≠ some b) (fun b o e => ⟨e.1, by have := e.2.1; omega, fun f => by
              rcases HO9.out b f with g | g
              · exact e.2.2 g
              · have := e.2.1; omega⟩)
            have H9 : SHolds w9 (okM w5.heap.size w6) (.slice a6 len c6) (stL l []) := H6.out.kept HK9.out (fun b o e f => by have := (old b f).2; have := e.1; omega)
            have H9' : SHolds w9 (fun b _ => w2.heap.size ≤ b ∧ b < w9.heap.size ∧ (Value.slice a9 (n2 + 1) c9).ownBlock ≠ some b) (.slice a6 (stL l []).length c6) (stL l []) := by
              rw [HSL.out]
              exact H9.mono (fun b o e => ⟨by have := e.1; omega, by have := e.2.1; omega, fun f => by
                rcases HO9.out b f with g | g
                · have := (old b g).2; have := e.1; omega
                · have := e.2.1; omega⟩)
            have hT2 := T1.snoc H9'
            rw [← stA_snoc, ← HTK.out, HSL.out] at hT2
            refine ⟨j + 1, a9, n2 + 1, c9, hlt, by go_num, rfl, ⟨_, HR9.out, hT2⟩, (HI.out.kept.trans K6.out (fun _ _ e => e)).trans HK9.out (fun i hi e => by have := (old i e).1; omega), by rw [HI.out.len], fun x hx => ?_⟩
            rw [HTK.out] at hx
            rcases List.mem_append.1 hx with hx | hx
            · exact HI.out.good x hx
            · rw [List.mem_singleton.1 hx]; exact HG.out
          case measure => simp [intOf]; omega
      · obtain rfl : j = n := by omega
        obtain ⟨vs, row, sls⟩ := HI.out.ex
        have hn2 := HI.out.len.symm
        subst hn2
        have htk : Ls.take j = Ls := List.take_of_length_le (by have := HN.out; omega)
        rw [htk] at sls
        have hgood := HI.out.good
        rw [htk] at hgood
        obtain ⟨L, hL⟩ : ∃ L, stA Ls = L := ⟨_, rfl⟩
        have hLn : L.length = j := by rw [← hL]; unfold stA; rw [List.length_map]; exact HN.out.symm
        have hRl : ∀ x ∈ L, Rl x := fun x hx => by
          rw [← hL] at hx
          obtain ⟨l, hl, rfl⟩ := List.mem_map.1 hx
          exact rl_of (hgood l hl)
        rw [hL] at sls
        have HLn := Lib.hid hLn
        have HRl := Lib.hid hRl
        have HSl := Lib.hid sls
        have HIn := Lib.hid (row.toIn cV_len (by decide))
        have hlow1 := HTE.out.low
        have hlow2 := HTE2.out.low
        have hs12 := HK2.out.size
        have hs01 := K1.out.size
        have hs23 := HI.out.kept.size
        have HOwn := Lib.hid (show ∀ b, (Value.slice a2 j cc2).ownBlock = some b → w2.heap.size ≤ b ∧ b < wr.heap.size from fun b e => by
          obtain ⟨cs, e2⟩ := row.block e
          exact ⟨row.lowb e, (Array.getElem?_eq_some_iff.1 e2).1⟩)
        obtain ⟨Z, hZ⟩ : ∃ Z : Nat → Prop, Z = fun b => b < w.heap.size ∨ (w2.heap.size ≤ b ∧ b < wr.heap.size) := ⟨_, rfl⟩
        have HZ1 : Hid (∀ b, Z b → b < wr.heap.size) := Lib.hid (fun b hb => by rw [hZ] at hb; rcases hb with hb | hb <;> omega)
        have HZ2 : Hid (∀ b, w2.heap.size ≤ b ∧ b < wr.heap.size → Z b) := Lib.hid (fun b hb => by rw [hZ]; exact .inr hb)
        have HZ3 : Hid (∀ b, b < w.heap.size → Z b) := Lib.hid (fun b hb => by rw [hZ]; exact .inl hb)
        have HB0 : Hid (OrB wr Z p q [] [] 0 wr) := Lib.hid ⟨⟨c, c2, ⟨[], _, _, (HTE.out.keptN HK2.out).keptN HI.out.kept, TLS.nil, Nat.le_refl _⟩, ⟨[], _, _, HTE2.out.keptN HI.out.kept, TLS.nil, Nat.le_refl _⟩, fun b e => by
          by_cases e2 : c2 b = 0
          · exact e2
          · have h1 := hlow1 b e; have h2 := HC2.out b e2; omega, fun b hb => by
          rw [hZ] at hb
          constructor
          · by_cases e : c b = 0
            · exact e
            · have h1 := hlow1 b e; have h2 := HC.out b e; omega
          · by_cases e : c2 b = 0
            · exact e
            · have h1 := hlow2 b e; have h2 := HC2.out b e; omega⟩, Kept.refl _ _⟩
        have HLs := Lib.hid hL
        have HK3 := Lib.hid HI.out.kept
        clear hZ hI row sls hgood hRl hL hLn htk hlow1 hlow2 hs12 hs01 hs23 HTE HTE2 HC HC2 HI hlt
        rename World => w3
        go_wp2_with fail
        go_loopw [57] (fun i wr => ∃ i2 : Nat, i2 ≤ j ∧ i = .int .i64 i2 ∧ OrB w3 Z p q (L.take i2) (L.reverse.take i2) (32 * i2) wr) (fun i _ => j - (intOf i).toNat)
        case atStart => exact ⟨0, Nat.zero_le _, rfl, HB0.out⟩
        case round =>
          obtain ⟨i2, hi2, rfl, hB⟩ := hrel
          have HB := Lib.hid hB
          clear hB
          by_cases hlt : i2 < j
          · obtain ⟨x, hx⟩ : ∃ x, L[i2]? = some x := ⟨_, List.getElem?_eq_getElem (by have := HLn.out; omega)⟩
            obtain ⟨k, hk⟩ : ∃ k, j - 1 - i2 = k := ⟨_, rfl⟩
            have hkI : (j : Int) - 1 - (i2 : Int) = (k : Int) := by omega
            have hk1 : (k : Int) < (j : Int) := by omega
            have hk0 : (0 : Int) ≤ (k : Int) := by omega
            obtain ⟨y, hy⟩ : ∃ y, L[k]? = some y := ⟨_, List.getElem?_eq_getElem (by have := HLn.out; omega)⟩
            obtain ⟨bx, cx, hvx, hhx⟩ := HSl.out.2 i2 x hx
            obtain ⟨by_, cy, hvy, hhy⟩ := HSl.out.2 k y hy
            have hinW := HIn.out.keptF (cap := cc2) HB.out.kept (fun b e f => f (HZ2.out b (HOwn.out b e)))
            obtain ⟨b0, o0, ha2, hb0, hc0⟩ := hinW.at_ hvx
            obtain ⟨b0', o0', ha2', _, hc1⟩ := hinW.at_ hvy
            subst ha2
            cases ha2'
            have q0 := hc0 0 _ rfl
            have q1 := hc1 0 _ rfl
            rw [Nat.mul_one, Nat.add_zero] at q0 q1
            have HT1 := Lib.hid (show L.take (i2 + 1) = L.take i2 ++ [x] by rw [List.take_add_one, hx]; rfl)
            have HT2 := Lib.hid (take_rev L i2 y (by rw [HLn.out, hk]; exact hy) (by have := HLn.out; omega))
            have CA := Lib.hid (HB.out.add HZ1.out (HRl.out x (List.mem_of_getElem? hx)) (by omega) (by rw [List.length_take]; omega) _ (fun b o e => HZ2.out b ⟨e.1, e.2.1⟩) bx cx hhx)
            have CB := Lib.hid (fun W (h : OrB w3 Z p q (L.take i2 ++ [x]) (L.reverse.take i2) (32 * i2 + 16) W) => h.swap.add HZ1.out (HRl.out y (List.mem_of_getElem? hy)) (by omega) (by rw [List.length_take]; omega) _ (fun b o e => HZ2.out b ⟨e.1, e.2.1⟩) by_ cy hhy)
            have HIn2 := Lib.hid (fun W (k : OrB w3 Z p q (L.take i2 ++ [x]) (L.reverse.take i2) (32 * i2 + 16) W) => ((HIn.out.keptF (cap := cc2) k.kept (fun b e f => f (HZ2.out b (HOwn.out b e)))).at_ hvy))
            obtain ⟨lx, hlx⟩ : ∃ lx, x.length = lx := ⟨_, rfl⟩
            obtain ⟨ly, hly⟩ : ∃ ly, y.length = ly := ⟨_, rfl⟩
            simp only [hlx] at CA q0
            simp only [hly] at CB q1 HIn2
            clear hx hy hvx hvy hhx hhy hinW hc0 hc1 hlx hly hk q1
            go_wp2_with fail
            refine CA.out.mono ?_
            rintro e w4 ⟨v4, rfl, hB4⟩
            obtain ⟨b0', o0', ha2', hb4, hc1⟩ := HIn2.out _ hB4
            cases ha2'
            have q1 := hc1 0 _ rfl
            rw [Nat.mul_one, Nat.add_zero] at q1
            have HB4 := Lib.hid hB4
            clear hB4 hc1 CA q0
            go_wp2_with fail
            refine (CB.out _ HB4.out).mono ?_
            rintro e w5 ⟨v5, rfl, hB5⟩
            have HB5 := Lib.hid hB5.swap
            clear hB5 CB q1
            go_wp2_with fail
            go_roundw
            case rel => exact ⟨i2 + 1, by omega, by go_num, by rw [HT1.out, HT2.out]; have := HB5.out; rwa [Nat.add_assoc] at this⟩
            case measure => simp [intOf]; omega
          · obtain rfl : i2 = j := by omega
            have hB := HB.out
            rw [List.take_of_length_le (by have := HLn.out; omega), List.take_of_length_le (by rw [List.length_reverse]; have := HLn.out; omega)] at hB
            have HB1 := Lib.hid hB
            clear hB HB hlt
            rename World => w4
            go_wp2_with fail
            go_loopw [79] (fun i wr => ∃ i3 : Nat, i3 ≤ i2 ∧ i = .int .i64 i3 ∧ Kept Nil w4 wr) (fun i _ => i2 - (intOf i).toNat)
            case atStart => exact ⟨0, Nat.zero_le _, rfl, Kept.refl _ _⟩
            case round =>
              obtain ⟨i3, hi3, rfl, hK4⟩ := hrel
              have HK4 := Lib.hid hK4
              clear hK4
              by_cases hlt : i3 < i2
              · obtain ⟨x, hx⟩ : ∃ x, L[i3]? = some x := ⟨_, List.getElem?_eq_getElem (by have := HLn.out; omega)⟩
                obtain ⟨bx, cx, hvx, hhx⟩ := HSl.out.2 i3 x hx
                have hBr := HB1.out.keptN HK4.out
                obtain ⟨b0, o0, ha2, hb0, hc0⟩ := (HIn.out.keptF (cap := cc2) hBr.kept (fun b e f => f (HZ2.out b (HOwn.out b e)))).at_ hvx
                subst ha2
                have q0 := hc0 0 _ rfl
                rw [Nat.mul_one, Nat.add_zero] at q0
                have hxm := List.mem_of_getElem? hx
                have hRx := HRl.out x hxm
                have hH := hhx.kept hBr.kept (fun b o e f => f (HZ2.out b ⟨e.1, e.2.1⟩))
                have CR := Lib.hid (refs_any x (by have := hRx.mass; omega) _ bx cx wr hH)
                unfold StsEnd at CR
                have HXM := Lib.hid hxm
                have HRX := Lib.hid hRx
                obtain ⟨lx, hlx⟩ : ∃ lx, x.length = lx := ⟨_, rfl⟩
                have HLX := Lib.hid hlx
                simp only [hlx] at CR q0
                clear hx hvx hhx hBr hc0 hxm hRx hH hlx
                go_wp2_with fail
                refine CR.out.mono ?_
                rintro e w5 ⟨a5, c5, rfl, h5, k5⟩
                have CC := Lib.hid (refChainsN x (okM wr.heap.size w5) a5 c5 w5 (by rw [HLX.out]; exact h5) (fun b o e => e.2.1) (by have := HRX.out.cnt; omega))
                simp only [HLX.out] at CC
                have K5 := Lib.hid (HK4.out.trans k5 (fun _ _ e => e))
                obtain ⟨m, hm⟩ : ∃ m, (chSL x []).length = m := ⟨_, rfl⟩
                have HM := Lib.hid hm
                have hm16 : m ≤ 16 := by have := HRX.out.chs; omega
                simp only [hm] at CC
                clear h5 k5 CR q0 hm
                go_wp2_with fail
                refine CC.out.mono ?_
                rintro e w6 ⟨a6, c6, vals6, rfl, hI6, hS6, k6⟩
                have K6 := Lib.hid (K5.out.trans k6 (fun _ _ e => e))
                have HI6 := Lib.hid hI6
                have HS6 := Lib.hid hS6
                clear hI6 hS6 k6 CC
                go_wp2_with fail
                go_loopw [87] (fun i wr => ∃ i4 : Nat, i4 ≤ m ∧ i = .int .i64 i4 ∧ Kept Nil w6 wr) (fun i _ => m - (intOf i).toNat)
                case atStart => exact ⟨0, Nat.zero_le _, rfl, Kept.refl _ _⟩
                case round =>
                  obtain ⟨i4, hi4, rfl, hK7⟩ := hrel
                  have HK7 := Lib.hid hK7
                  clear hK7
                  by_cases hlt4 : i4 < m
                  · obtain ⟨y, hy⟩ : ∃ y, (chSL x [])[i4]? = some y := ⟨_, List.getElem?_eq_getElem (by have := HM.out; omega)⟩
                    obtain ⟨by_, cy, hvy, hhy⟩ := HS6.out.2 i4 y hy
                    obtain ⟨b0, o0, ha6, hb0', hc0⟩ := (HI6.out.kept HK7.out).at_ hvy
                    subst ha6
                    have q0 := hc0 0 _ rfl
                    rw [Nat.mul_one, Nat.add_zero] at q0
                    have hym := List.mem_of_getElem? hy
                    have hyr := HRX.out.chain hym
                    have hyn := chain_ne hym
                    have hu : 0 < usesL L y := (usesL_pos hyn).2 ⟨x, HXM.out, hym⟩
                    have HU2 : Hid (usesL L.reverse y = usesL L y) := Lib.hid (usesL_rev L y)
                    have hule : usesL L y ≤ 100 := Nat.le_trans (usesL_le L y) (by have := HLn.out; omega)
                    have hylen : y.length ≤ 5000 := by have := hyr.len; omega
                    have CS := Lib.hid (fun W (kW : Kept Nil w6 W) => steps_any y (by have := hyr.mass; omega) _ by_ cy W (hhy.keptN kW))
                    unfold StsEnd at CS
                    have HF1 := Lib.hid (fun W (kW : Kept Nil w6 W) (a : Option Addr) (cap : Nat) (ok : Nat → Nat → Prop) (hok : ∀ b o, ok b o → b < W.heap.size) (hH : SHolds W ok (.slice a y.length cap) y) => by
                      obtain ⟨c1, c3, t1, t2, _, _⟩ := (HB1.out.keptN (K6.out.trans kW (fun _ _ e => e))).ex
                      exact t1.find hyn hu (by omega) ok hok a cap hH)
                    have HF2 := Lib.hid (fun W (kW : Kept Nil w6 W) (a : Option Addr) (cap : Nat) (ok : Nat → Nat → Prop) (hok : ∀ b o, ok b o → b < W.heap.size) (hH : SHolds W ok (.slice a y.length cap) y) => by
                      obtain ⟨c1, c3, t1, t2, _, _⟩ := (HB1.out.keptN (K6.out.trans kW (fun _ _ e => e))).ex
                      have := t2.find hyn (by rw [HU2.out]; exact hu) (by omega) ok hok a cap hH
                      rw [HU2.out] at this
                      exact this)
                    obtain ⟨ly, hly⟩ : ∃ ly, y.length = ly := ⟨_, rfl⟩
                    obtain ⟨uy, huy⟩ : ∃ uy, usesL L y = uy := ⟨_, rfl⟩
                    simp only [hly, huy] at CS HF1 HF2 hylen hule q0
                    clear hy hvy hhy hc0 hym hyr hyn hu hly huy HU2
                    go_wp2_with fail
                    refine (CS.out _ HK7.out).mono ?_
                    rintro e w8 ⟨a8, c8, rfl, h8, k8⟩
                    have K8 := Lib.hid (HK7.out.trans k8 (fun _ _ e => e))
                    obtain ⟨f1, hf1, C1, CU1, CD1⟩ := HF1.out w8 K8.out a8 c8 (okM wr.heap.size w8) (fun b o e => e.2.1) h8
                    have HCU1 := Lib.hid (And.intro CU1 CD1)
                    have C1' := Lib.hid C1
                    clear h8 k8 C1 CU1 CD1 HF1 q0
                    go_wp2_with fail
                    refine C1'.out.mono ?_
                    rintro e w9 ⟨rfl, k9⟩
                    have K9 := Lib.hid (K8.out.trans k9 (fun _ _ e => e))
                    have HK9 := Lib.hid k9
                    clear k9 C1'
                    go_wp2_with fail
                    refine (CS.out _ K9.out).mono ?_
                    rintro e w10 ⟨a10, c10, rfl, h10, k10⟩
                    have K10 := Lib.hid (K9.out.trans k10 (fun _ _ e => e))
                    obtain ⟨f2, hf2, C2, CU2, CD2⟩ := HF2.out w10 K10.out a10 c10 (okM w9.heap.size w10) (fun b o e => e.2.1) h10
                    have HCU2 := Lib.hid (And.intro CU2 CD2)
                    have C2' := Lib.hid C2
                    have HK10 := Lib.hid (HK9.out.trans k10 (fun _ _ e => e))
                    clear h10 k10 C2 CU2 CD2 HF2 CS
                    go_wp2_with fail
                    refine C2'.out.mono ?_
                    rintro e w11 ⟨rfl, k11⟩
                    have K11 := Lib.hid (K10.out.trans k11 (fun _ _ e => e))
                    have HK11 := Lib.hid (HK10.out.trans k11 (fun _ _ e => e))
                    have HKK := Lib.hid k11
                    have hz1 : ((f1 : Int) == 0) = false := by simp; exact hf1
                    have hz2 : ((f2 : Int) == 0) = false := by simp; exact hf2
                    clear k11 C2' hf1 hf2
                    go_wp2_with fail
                    refine (HCU1.out.1 _ HK11.out).mono ?_
                    rintro e w12 ⟨rfl, rfl⟩
                    go_wp2_with fail
                    refine (HCU2.out.1 _ HKK.out).mono ?_
                    rintro e w12 ⟨rfl, rfl⟩
                    go_wp2_with fail
                    refine (HCU1.out.2 _ HK11.out).mono ?_
                    rintro e w12 ⟨rfl, rfl⟩
                    go_wp2_with fail
                    refine (HCU2.out.2 _ HKK.out).mono ?_
                    rintro e w12 ⟨rfl, rfl⟩
                    go_wp2_with fail
                    go_roundw
                    case rel => exact ⟨i4 + 1, by omega, by go_num, K11.out⟩
                    case measure => simp [intOf]; omega
                  · obtain rfl : i4 = m := by omega
                    have K7 := Lib.hid (K6.out.trans HK7.out (fun _ _ e => e))
                    go_wp2_with fail
                    go_roundw
                    case rel => exact ⟨i3 + 1, by omega, by go_num, K7.out⟩
                    case measure => simp [intOf]; omega
              · obtain rfl : i3 = i2 := by omega
                have hBr := HB1.out.keptN HK4.out
                obtain ⟨c1, c3, t1, t2, _, _⟩ := hBr.ex
                obtain ⟨dn, dm, dl⟩ := disL_spec _ (chA Ls) rfl
                have hmem : ∀ y, y ∈ disL (chA Ls) ↔ y ≠ [] ∧ 0 < usesL L y := fun y => by rw [dm, chA_mem, HLs.out]
                have CL1 := Lib.hid (t1.len dn hmem)
                have CL2 := Lib.hid (t2.len dn (fun y => by rw [usesL_rev]; exact hmem y))
                have CU1 := Lib.hid t1.uses1
                have CU2 := Lib.hid t2.uses1
                rw [usesL_rev] at CU2
                have hul : usesL L [] ≤ 100 := Nat.le_trans (usesL_le L []) (by have := HLn.out; omega)
                have hKz := Lib.hid (show Kept Nil w wr from (K2.out.trans HK3.out (fun _ _ e => e)).trans hBr.kept (fun i hi e => e (HZ3.out i hi)))
                generalize usesL L [] = u1 at *
                generalize (disL (chA Ls)).length = d at *
                clear hBr t1 t2 dn dm dl hmem
                have hd1 : ((d + 1 : Nat) : Int) = (d : Int) + 1 := by push_cast; rfl
                go_wp2_with fail
                refine CL1.out.mono ?_
                rintro e w5 ⟨rfl, rfl⟩
                go_wp2_with fail
                refine CL2.out.mono ?_
                rintro e w5 ⟨rfl, rfl⟩
                go_wp2_with fail
                refine CU1.out.mono ?_
                rintro e w5 ⟨rfl, rfl⟩
                go_wp2_with fail
                refine CU2.out.mono ?_
                rintro e w5 ⟨rfl, rfl⟩
                go_wp2_with fail
                refine (HA.out _).mono ?_
                rintro e w6 ⟨rfl, k6⟩
                go_wp2_with fail
                go_ret
                exact ⟨rfl, hKz.out.trans k6 (fun _ _ e => e)⟩
  · have e1 : decide ((8 : Int) < (n : Int)) = true := by simp; omega
    clear hn8
    go_wp2_with fail
    refine (HA.out _).mono ?_
    rintro e w3 ⟨rfl, k3⟩
    go_wp2_with fail
    go_ret
    exact ⟨rfl, K2.out.trans k3 (fun _ _ e => e)⟩
theorem orderD_any (Ls : List (List Sh)) (vals : List SlV) (a : Option Addr) (n cap : Nat) (w : World) (_ : n ≤ cap) (hr : In cV 1 w a n vals) (hs : Lcs w (fun b _ => b < w.heap.size) vals Ls) :
    Calls Try.prog 5 #[.slice a n cap] w fun e w' => e = .returned (.bool true) ∧ Kept Nil w w' := order_any Ls _ vals hr hs (fun _ _ h => h)
end Go.Proofs.Ytodghgeghpbdlaa
