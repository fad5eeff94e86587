/- What comes into layer scope's laws, opened: conditions. – PlainNone: the walk, given the program's Partial. – A uint8 that comes in, opened. – What comes into layer rule's laws, opened: a rule. – What comes into layer test's laws, opened: slices of triples, a triple. -/
import Derived.Test.YtmpoeibkndcnnaaA15
import Derived.Test.YtmpoeibkndcnnaaA13
import Derived.Test.YtmpoeibkndcnnaaA7
import Derived.Laws.IdiomArrays
namespace Go.Proofs.Ytmpoeibkndcnnaa
section
open Go.RowKit Go.ChangeShapes Go.WideShapes Go.ChangeAt Go.Deep
set_option maxRecDepth 100000

section
variable {H : Type} {enc : TypeId × Value → H}
theorem open_conds {W : World} {sp : Nat → Bool} {held : Bool} (fuel : Nat) (c : Value) (x : DataW H × List MemPlace) (h : DataW.trod enc Try.prog W 0 sp held fuel 22 [c] = some x) :
    ∃ a cap l, c = .slice a (List.length l) cap ∧ (l.length ≤ cap ∧ cap ≤ maxLen) ∧ Holds cA W (fun b _ => b < W.heap.size) (.slice a l.length cap) l := by
  rcases DataW.trod_slice Try.underlying22 h with ⟨e2, _⟩ | ⟨a, len, cap, elems, rest, n', _, e2, _, _, hlc, hcm, hel, hat, _⟩
  · simp at e2
    subst e2
    exact ⟨none, 0, [], rfl, ⟨Nat.le_refl _, Nat.zero_le _⟩, .nil none 0⟩
  · simp at e2
    subst e2
    rw [cellsCd] at hat
    have each : ∀ i, i < len → ∃ q : Hd × List Sh × Option Addr × Nat, (∀ j v, (cA q.1 (.slice q.2.2.1 q.2.1.length q.2.2.2))[j]? = some v → W.cell? ((a.add (i * 8)).add j) = some v) ∧ Holds cA W (fun b _ => b < W.heap.size) (.slice q.2.2.1 q.2.1.length q.2.2.2) q.2.1 := by
      intro i hi
      have h1 := hat i hi
      rw [List.getElem?_eq_getElem (by omega)] at h1
      obtain ⟨cs', h2, h3⟩ := Option.bind_eq_some_iff.1 h1
      obtain ⟨hd, a', cap', subs, rfl, hs⟩ := open_cond n' cs' _ h3
      obtain ⟨_, _, hc⟩ := World.cells?_some h2
      refine ⟨⟨hd, subs, a', cap'⟩, fun j v hj => ?_, hs⟩
      rw [hc j (by have := (List.getElem?_eq_some_iff.1 hj).1; simpa using this)]
      exact hj
    haveI : Inhabited (Hd × List Sh × Option Addr × Nat) := ⟨⟨⟨0, false, false, false, 0, 0, 0⟩, [], none, 0⟩⟩
    obtain ⟨q, hq⟩ := choose_lt each
    rcases Nat.eq_zero_or_pos len with rfl | hpos
    · exact ⟨some a, cap, [], rfl, ⟨Nat.zero_le _, hcm⟩, .nil _ _⟩
    · obtain ⟨b, o, spot⟩ := a
      have c00 := (hq 0 hpos).1 0 _ rfl
      have hspot : spot = none := by simpa [Addr.add] using World.cell?_spot c00
      subst hspot
      have hb : b < W.heap.size := by
        have := World.block_lt_of_cell? W _ c00
        simpa [Addr.add] using this
      have hl : ((List.range len).map fun i => Sh.mk (q i).1 (q i).2.1).length = len := by simp
      refine ⟨some ⟨b, o, none⟩, cap, (List.range len).map fun i => Sh.mk (q i).1 (q i).2.1, by rw [hl], ⟨by rw [hl]; exact hlc, hcm⟩, ?_⟩
      refine .row b o cap _ (fun i => .slice (q i).2.2.1 (q i).2.1.length (q i).2.2.2) (by rw [hl]; exact hlc) hb (fun i x hi => ?_) (fun i x hi => ?_)
      · have hil : i < len := by have := (List.getElem?_eq_some_iff.1 hi).1; rwa [hl] at this
        simp [hil] at hi
        subst hi
        intro j v hj
        have := (hq i hil).1 j v hj
        rw [Addr.add_mid, Addr.add_mid] at this
        exact this
      · have hil : i < len := by have := (List.getElem?_eq_some_iff.1 hi).1; rwa [hl] at this
        simp [hil] at hi
        subst hi
        exact (hq i hil).2
theorem open_S {W : World} {base : Nat} {sp : Nat → Bool} {held : Bool} {v : Value} {d : DataW H} {p : List MemPlace} (hv : Value.okWide Try.prog W .any base 22 v) (h : DataW.Trod enc Try.prog W 0 sp held 22 v d p) :
    ∃ l a cap, v = .slice a (List.length l) cap ∧ Holds cA W (fun b _ => b < W.heap.size) (.slice a l.length cap) l := by
  obtain ⟨a0, n0, c0, rfl⟩ := okWide_slice Try.underlying22 hv
  obtain ⟨fuel, hf⟩ := h
  obtain ⟨a, cap, l, e, _, hh⟩ := open_conds fuel (.slice a0 n0 c0) _ (by simpa [Value.cells] using hf)
  exact ⟨l, a, cap, e, hh⟩
end
end
section
open Go.RowKit
set_option maxRecDepth 100000

theorem sm_none (c : St) (K : List F4 → List (List Int)) (ch : List F4) : (c.hd.k = 1 → c.sm [] K ch = []) ∧ (c.hd.k = 2 → c.sm [] K ch = K ch) ∧ (c.sm [] K ch = [] ∨ c.sm [] K ch = K ch) := by
  obtain ⟨h, subs⟩ := c
  rw [sm_mk]
  refine ⟨fun h1 => ?_, fun h2 => ?_, ?_⟩
  · rw [if_pos (show h.k = 1 from h1)]; rfl
  · have h2' : h.k = 2 := h2
    rw [if_neg (by omega), if_neg (by simp), if_neg (by omega)]
  · by_cases h1 : h.k = 1
    · rw [if_pos h1]; exact .inl rfl
    · rw [if_neg h1, if_neg (by simp)]
      split
      · exact .inl rfl
      · exact .inr rfl
theorem smL_none : ∀ (l : List St) ch, ((∃ c ∈ l, c.hd.k = 1) → smL [] l ch = []) ∧ ((∀ c ∈ l, c.hd.k = 2) → smL [] l ch = [ch.map Prod.fst]) ∧ (smL [] l ch = [] ∨ smL [] l ch = [ch.map Prod.fst])
  | [], ch => by rw [smL_nil]; exact ⟨fun ⟨c, hc, _⟩ => (by cases hc), fun _ => rfl, Or.inr rfl⟩
  | c :: r, ch => by
    obtain ⟨i1, i2, i3⟩ := smL_none r ch
    obtain ⟨j1, j2, j3⟩ := sm_none c (smL [] r) ch
    rw [smL_cons]
    refine ⟨fun ⟨d, hd, h1⟩ => ?_, fun h => ?_, ?_⟩
    · rcases List.mem_cons.1 hd with rfl | hd
      · exact j1 h1
      · rcases j3 with e | e
        · exact e
        · rw [e]; exact i1 ⟨d, hd, h1⟩
    · rw [j2 (h c List.mem_cons_self)]
      exact i2 fun d hd => h d (List.mem_cons_of_mem _ hd)
    · rcases j3 with e | e
      · exact .inl e
      · rw [e]; exact i3
theorem st_k (c : Sh) (ch : List Sh) : (c.st ch).hd.k = c.hd.k := by
  obtain ⟨h, subs⟩ := c
  rw [st_mk]
  split <;> rfl
theorem beqd (k n : Int) : (k == n) = decide (k = n) := by by_cases h : k = n <;> simp [h]
set_option maxHeartbeats 8000000 in
theorem plainNone_of (hP : PartialOK) (hA : AwakeOK) (l : List Sh) (a : Option Addr) (cap : Nat) (w : World) (h : Holds cA w (fun b _ => b < w.heap.size) (.slice a l.length cap) l) :
    Calls Try.prog 8 #[.slice a l.length cap] w fun e w' => e = .returned (.bool true) ∧ Kept Nil w w' := by
  have HA := Lib.hid hA
  have HP := Lib.hid hP
  have CF := Lib.hid (fineL_any l _ a cap w h (fun _ _ h => h))
  unfold YesEnd at CF
  have CR : Hid (∀ w', Kept Nil w w' → countL l ≤ 16 → Calls Try.prog 27 #[.slice a l.length cap] w' (ListEnd l w')) := Lib.hid fun w' k hc => refL_any l (by omega) _ a cap w' (h.keptN k)
  unfold ListEnd at CR
  have HO := Lib.hid h
  obtain ⟨len, hlen⟩ : ∃ len, l.length = len := ⟨_, rfl⟩
  rw [hlen] at CF CR HO ⊢
  have HL := Lib.hid hlen
  clear h hP hA hlen
  go_enter Try.func8, Try.ntmps8
  go_wp2_with fail
  refine CF.out.mono ?_
  rintro e w1 ⟨b, rfl, k1, hb⟩
  have K1 := Lib.hid k1
  have HB := Lib.hid hb
  clear k1 hb CF
  cases b
  · go_wp2_with fail
    refine (HA.out _).mono ?_
    rintro e w3 ⟨rfl, k3⟩
    go_wp2_with fail
    go_ret
    exact ⟨rfl, K1.out.trans k3 (fun _ _ g => g)⟩
  have HG := Lib.hid (HB.out rfl)
  clear HB
  have hl16 : len ≤ 16 := by have := length_countL l; have := HG.out.1; have := HL.out; omega
  go_wp2_with fail
  go_loopw [3, 4, 14] (fun p n i wr => ∃ j : Nat, j ≤ len ∧ i = .int .i64 j ∧ p = .bool ((l.take j).any fun c => decide (c.hd.k = 1)) ∧ n = .bool ((l.take j).all fun c => decide (c.hd.k = 2)) ∧ Kept Nil w wr) (fun _ _ i _ => len - (intOf i).toNat)
  case atStart => exact ⟨0, by omega, rfl, rfl, rfl, K1.out⟩
  case round =>
    obtain ⟨j, hj, rfl, rfl, rfl, hK⟩ := hrel
    have HK := Lib.hid hK
    clear hK
    by_cases hlt : j < len
    · obtain ⟨⟨⟨k, x0, x1, x2, n0, n1, n2⟩, sb⟩, hx⟩ : ∃ x, l[j]? = some x := ⟨_, List.getElem?_eq_getElem (by have := HL.out; omega)⟩
      obtain ⟨b, o, a', cap', rfl, hb, hr, _⟩ := (HO.out.keptN HK.out).at_ hx
      have p0 := hr 0 _ rfl
      have p1 := hr 1 _ rfl
      have p2 := hr 2 _ rfl
      have p3 := hr 3 _ rfl
      have p4 := hr 4 _ rfl
      have p5 := hr 5 _ rfl
      have p6 := hr 6 _ rfl
      have p7 := hr 7 _ rfl
      simp only [Nat.add_zero] at p0 p1 p2 p3 p4 p5 p6 p7
      have HT : Hid (l.take (j + 1) = l.take j ++ [.mk ⟨k, x0, x1, x2, n0, n1, n2⟩ sb]) := Lib.hid (by rw [List.take_add_one, hx]; rfl)
      have hbr : b < wr.heap.size := Nat.lt_of_lt_of_le hb HK.out.size
      have KA := Lib.hid (HK.out.trans ((Kept.refl Nil wr).alloc (.cells #[.int .i64 k, .bool x0, .int .i64 n0, .bool x1, .int .i64 n1, .bool x2, .int .i64 n2, .slice a' sb.length cap'] 72)) (fun _ _ e => e))
      have BA := Lib.hid (Blk.new wr 72 #[.int .i64 k, .bool x0, .int .i64 n0, .bool x1, .int .i64 n1, .bool x2, .int .i64 n2, .slice a' sb.length cap'])
      have HP1 : Hid ((l.take (j + 1)).any (fun c => decide (c.hd.k = 1)) = ((l.take j).any (fun c => decide (c.hd.k = 1)) || decide (k = 1))) := Lib.hid (by rw [HT.out, List.any_append]; simp only [List.any_cons, List.any_nil, Bool.or_false]; rfl)
      have HN1 : Hid ((l.take (j + 1)).all (fun c => decide (c.hd.k = 2)) = ((l.take j).all (fun c => decide (c.hd.k = 2)) && decide (k = 2))) := Lib.hid (by rw [HT.out, List.all_append]; simp only [List.all_cons, List.all_nil, Bool.and_true]; rfl)
      generalize (l.take j).any (fun c => decide (c.hd.k = 1)) = pp at *
      generalize (l.take j).all (fun c => decide (c.hd.k = 2)) = nn at *
      generalize sb.length = sn at *
      clear hx hr HT
      cases pp
      · cases nn
        · go_wp2_with fail
          go_roundw
          case rel => exact ⟨j + 1, by omega, by go_num, by rw [HP1.out, Bool.false_or, beqd], by rw [HN1.out, Bool.false_and], KA.out⟩
          case measure => simp [intOf]; omega
        · go_wp2_with fail
          go_roundw
          case rel => exact ⟨j + 1, by omega, by go_num, by rw [HP1.out, Bool.false_or, beqd], by rw [HN1.out, Bool.true_and, beqd], KA.out⟩
          case measure => simp [intOf]; omega
      · cases nn
        · go_wp2_with fail
          go_roundw
          case rel => exact ⟨j + 1, by omega, by go_num, by rw [HP1.out, Bool.true_or], by rw [HN1.out, Bool.false_and], KA.out⟩
          case measure => simp [intOf]; omega
        · go_wp2_with fail
          go_roundw
          case rel => exact ⟨j + 1, by omega, by go_num, by rw [HP1.out, Bool.true_or], by rw [HN1.out, Bool.true_and, beqd], KA.out⟩
          case measure => simp [intOf]; omega
    · obtain rfl : j = len := by omega
      have HTk : Hid (l.take j = l) := Lib.hid (by rw [← HL.out]; exact List.take_length)
      rw [HTk.out]
      have HGood : Hid (∀ x ∈ l, x.good) := Lib.hid fun x hx => chk_good x 1 (chkL_all.1 HG.out.2 x hx)
      have HSt := Lib.hid ((st_good.2 l HGood.out []))
      have CO : Hid (∀ W ok a cap, Holds cR W ok (.slice a j cap) l → Calls Try.prog 15 #[.slice a j cap] W fun e w' => ∃ a cap, e = .returned (.slice a j cap) ∧ SHolds w' (okM W.heap.size w') (.slice a j cap) (stL l []) ∧ Kept Nil W w') := Lib.hid fun W ok a cap hh => by
        have := refCompile_of of_all l ⟨HG.out.1, HG.out.2⟩ ok a cap W (by rw [HL.out]; exact hh)
        unfold StsEnd at this
        rw [stL_length, HL.out] at this
        exact this
      have HSL : Hid ((stL l []).length = j) := Lib.hid (by rw [stL_length]; exact HL.out)
      have CS : Hid (∀ W ok a cap, SHolds W ok (.slice a j cap) (stL l []) → Calls Try.prog 14 #[.slice a j cap] W fun e w' => ∃ a cap, e = .returned (.slice a j cap) ∧ SHolds w' (okM W.heap.size w') (.slice a j cap) (stL l []) ∧ Kept Nil W w') := Lib.hid fun W ok a cap hh => by
        have := steps_any (stL l []) (by have := st_mass.2 l []; have := HG.out.1; omega) ok a cap W (by rw [HSL.out]; exact hh)
        unfold StsEnd at this
        rw [HSL.out] at this
        exact this
      have CP : Hid (∀ W a cap, SHolds W Any2 (.slice a j cap) (stL l []) → Calls Try.prog 13 #[.slice none 0 0, .slice a j cap] W fun e w' => ∃ a' n' c', e = .returned (.slice a' n' c') ∧ LNew w' W.heap.size a' n' (smL [] (stL l []) []) ∧ Kept Nil W w') := Lib.hid fun W a cap hh => by
        have := HP.out [] (fun f hf => by cases hf) (by decide) (stL l []) (stL_okS HG.out.1 HG.out.2) (by rw [HSL.out]; exact hl16) (by simp) none 0 0 a cap W ⟨rfl, .inl rfl⟩ (by rw [HSL.out]; exact hh)
        rw [HSL.out] at this
        exact this
      obtain ⟨m1, m2, m3⟩ := smL_none (stL l []) []
      have HM1 : Hid ((l.any fun c => decide (c.hd.k = 1)) = true → smL [] (stL l []) [] = [] ∧ (l.all fun c => decide (c.hd.k = 2)) = false) := Lib.hid fun h => by
        obtain ⟨c, hc, hk⟩ := List.any_eq_true.1 h
        have hk := of_decide_eq_true hk
        obtain ⟨i, hi, e⟩ := List.mem_iff_getElem.1 hc
        have := stL_get l [] i c (by rw [List.getElem?_eq_getElem hi, e])
        refine ⟨m1 ⟨_, List.mem_of_getElem? this, by rw [st_k]; exact hk⟩, ?_⟩
        rw [List.all_eq_false]
        exact ⟨c, hc, by simp; omega⟩
      have HM2 : Hid ((l.all fun c => decide (c.hd.k = 2)) = true → smL [] (stL l []) [] = [[]]) := Lib.hid fun h => m2 fun c hc => by
        obtain ⟨i, hi, e⟩ := List.mem_iff_getElem.1 hc
        have hi' := hi
        rw [stL_length] at hi'
        have := stL_get l [] i l[i] (List.getElem?_eq_getElem hi')
        rw [List.getElem?_eq_getElem hi, e] at this
        rw [Option.some.inj this, st_k]
        exact of_decide_eq_true (List.all_eq_true.1 h _ (List.getElem_mem hi'))
      have HM3 : Hid (smL [] (stL l []) [] = [] ∨ smL [] (stL l []) [] = [[]]) := Lib.hid m3
      clear m1 m2 m3 HSt HGood HTk HO
      generalize (l.any fun c => decide (c.hd.k = 1)) = pp at *
      generalize (l.all fun c => decide (c.hd.k = 2)) = nn at *
      generalize hM : smL [] (stL l []) [] = M at *
      clear hM
      go_wp2_with fail
      refine (CR.out _ HK.out HG.out.1).mono ?_
      rintro e w3 ⟨a3, c3, rfl, h3, k3⟩
      have K3 := Lib.hid (HK.out.trans k3 (fun _ _ g => g))
      have H3 := Lib.hid h3
      clear k3 h3 CR HK
      go_wp2_with fail
      refine (CO.out _ _ _ _ H3.out).mono ?_
      rintro e w4 ⟨a4, c4, rfl, h4, k4⟩
      have K4 := Lib.hid (K3.out.trans k4 (fun _ _ g => g))
      have H4 := Lib.hid h4
      clear k4 h4 CO H3 K3
      go_wp2_with fail
      refine (CS.out _ _ _ _ H4.out).mono ?_
      rintro e w5 ⟨a5, c5, rfl, h5, k5⟩
      have K5 := Lib.hid (K4.out.trans k5 (fun _ _ g => g))
      have H5 := Lib.hid (h5.mono (ok' := Any2) (fun _ _ _ => trivial))
      clear k5 h5 CS H4 K4
      go_wp2_with fail
      refine (CP.out _ _ _ H5.out).mono ?_
      rintro e w6 ⟨a6, n6, c6, rfl, h6, k6⟩
      have K6 := Lib.hid (K5.out.trans k6 (fun _ _ g => g))
      have H6 := Lib.hid h6.toLIn
      clear k6 h6 CP H5 K5
      cases pp
      · cases nn
        · rcases HM3.out with rfl | rfl
          · obtain rfl : 0 = n6 := H6.out.1
            go_wp2_with fail
            refine (HA.out _).mono ?_
            rintro e w7 ⟨rfl, k7⟩
            go_wp2_with fail
            go_ret
            exact ⟨rfl, K6.out.trans k7 (fun _ _ g => g)⟩
          · obtain rfl : 1 = n6 := H6.out.1
            go_wp2_with fail
            refine (HA.out _).mono ?_
            rintro e w7 ⟨rfl, k7⟩
            go_wp2_with fail
            go_ret
            exact ⟨rfl, K6.out.trans k7 (fun _ _ g => g)⟩
        · obtain rfl := HM2.out rfl
          obtain rfl : 1 = n6 := H6.out.1
          obtain ⟨b, o, a', n', c', rfl, hb, hc, hi⟩ := H6.out.at_ (j := 0) (l := []) rfl
          obtain rfl : 0 = n' := hi.1
          rw [Nat.add_zero] at hc
          clear hi
          go_wp2_with fail
          refine (HA.out _).mono ?_
          rintro e w7 ⟨rfl, k7⟩
          go_wp2_with fail
          go_ret
          exact ⟨rfl, K6.out.trans k7 (fun _ _ g => g)⟩
      · obtain ⟨rfl, rfl⟩ := HM1.out rfl
        obtain rfl : 0 = n6 := H6.out.1
        go_wp2_with fail
        refine (HA.out _).mono ?_
        rintro e w7 ⟨rfl, k7⟩
        go_wp2_with fail
        go_ret
        exact ⟨rfl, K6.out.trans k7 (fun _ _ g => g)⟩
end
section
open Go.RowKit Go.ChangeShapes Go.WideShapes Go.ChangeAt Go.Deep

theorem okWide_u8 {P : Program} {w : World} {r : Reach} {base : Nat} {t : TypeId} {v : Value} (ht : P.underlying t = some (.int .u8)) (h : Value.okWide P w r base t v) : ∃ n, v = .int .u8 n ∧ 0 ≤ n ∧ n < 256 := by
  obtain ⟨n, rfl⟩ := okWide_int ht h
  refine ⟨n, rfl, ?_⟩
  simp only [Value.okWide, ht, Cell.okWide, Cell.ok, IntKind.has] at h
  obtain ⟨h1, h2⟩ : IntKind.u8.min ≤ n ∧ n ≤ IntKind.u8.max := by simpa using h
  have e1 : (0 : Int) ≤ n := h1
  have e2 : n ≤ (255 : Int) := h2
  omega
end
section
open Go.RowKit Go.ChangeShapes Go.WideShapes Go.ChangeAt Go.Deep
set_option maxRecDepth 100000

section
variable {H : Type} {enc : TypeId × Value → H}
theorem cellsRl : Try.prog.cellsOf 24 = 2 := by kernel_rfl
theorem cellsStr : Try.prog.cellsOf 9 = 1 := by kernel_rfl
theorem open_R {W : World} {base : Nat} {sp : Nat → Bool} {held : Bool} {v : Value} {d : DataW H} {p : List MemPlace} (hv : Value.okWide Try.prog W .any base 24 v) (h : DataW.Trod enc Try.prog W 0 sp held 24 v d p) :
    ∃ nm l a cap, v = vRule nm (.slice a (List.length l) cap) ∧ nm.size ≤ maxLen ∧ (l.length ≤ cap ∧ cap ≤ maxLen) ∧ Holds cA W (fun b _ => b < W.heap.size) (.slice a l.length cap) l := by
  obtain ⟨cs, rfl, _⟩ := okWide_struct Try.underlying24 hv
  obtain ⟨fuel, hf⟩ := h
  obtain ⟨y0, y1, n, _, hlen, f0, f1⟩ := trod_struct2 Try.underlying24 hf
  rw [cellsRl] at hlen
  obtain ⟨l⟩ := cs
  match l, hlen with
  | [c0, c1], _ =>
    have f0' : DataW.trod enc Try.prog W 0 sp held n 9 [c0] = some y0 := by
      have := f0
      change DataW.trod enc Try.prog W 0 sp held n 9 (List.take (Try.prog.cellsOf 9) [c0, c1]) = some y0 at this
      rw [cellsStr] at this
      exact this
    have f1' : DataW.trod enc Try.prog W 0 sp held n 22 [c1] = some y1 := by
      have := f1
      change DataW.trod enc Try.prog W 0 sp held n 22 (List.take (Try.prog.cellsOf 22) [c1]) = some y1 at this
      rw [cellsSl] at this
      exact this
    obtain ⟨nm, e0, hs⟩ := DataW.trod_string Try.underlying9 f0'
    obtain ⟨a, cap, l, e1, hlc, hh⟩ := open_conds n c1 _ f1'
    simp at e0
    subst e0 e1
    exact ⟨nm, l, a, cap, rfl, hs.2, hlc, hh⟩
end
end
section
open Go.RowKit Go.ChangeShapes Go.WideShapes Go.ChangeAt Go.Deep
set_option maxRecDepth 100000

section
variable {H : Type} {enc : TypeId × Value → H} {P : Program}
theorem open_in {α : Type} [Inhabited α] {t e : TypeId} {size : Nat} {W : World} {sp : Nat → Bool} {held : Bool} (ht : P.underlying t = some (.slice e)) (hc : P.cellsOf e = size) (hs : 0 < size) (cells : α → List Value) (good : α → Prop) (hsz : ∀ x, (cells x).length = size)
    (hel : ∀ n cs y, DataW.trod enc P W 0 sp held n e cs = some y → ∃ x, cs = cells x ∧ good x) {a : Option Addr} {len cap : Nat} {d : DataW H} {p : List MemPlace} (h : DataW.Trod enc P W 0 sp held t (.slice a len cap) d p) :
    ∃ xs : List α, In cells size W a len xs ∧ (∀ x ∈ xs, good x) ∧ len ≤ maxLen := by
  obtain ⟨fuel, hf⟩ := h
  rcases DataW.trod_slice ht hf with ⟨e2, _⟩ | ⟨a', len', cap', elems, rest, n', _, e2, _, _, hlc, hcm, hl, hat, _⟩
  · simp [Value.cells] at e2
    obtain ⟨rfl, rfl, rfl⟩ := e2
    exact ⟨[], ⟨rfl, .inl rfl⟩, by simp, Nat.zero_le _⟩
  · simp [Value.cells] at e2
    obtain ⟨rfl, rfl, rfl⟩ := e2
    rw [hc] at hat
    have each : ∀ i, i < len → ∃ q : α, (∀ j v, (cells q)[j]? = some v → W.cell? ((a'.add (i * size)).add j) = some v) ∧ good q := by
      intro i hi
      have h1 := hat i hi
      rw [List.getElem?_eq_getElem (by omega)] at h1
      obtain ⟨cs', h2, h3⟩ := Option.bind_eq_some_iff.1 h1
      obtain ⟨x, rfl, hx⟩ := hel n' cs' _ h3
      obtain ⟨_, _, hcc⟩ := World.cells?_some h2
      refine ⟨x, fun j v hj => ?_, hx⟩
      rw [hcc j (by have := (List.getElem?_eq_some_iff.1 hj).1; rwa [hsz] at this)]
      exact hj
    obtain ⟨q, hq⟩ := choose_lt each
    refine ⟨(List.range len).map q, ⟨by simp, ?_⟩, fun x hx => ?_, Nat.le_trans hlc hcm⟩
    · rcases Nat.eq_zero_or_pos len with rfl | hpos
      · exact .inl rfl
      · right
        obtain ⟨b, o, spot⟩ := a'
        obtain ⟨v0, hv0⟩ : ∃ v0, (cells (q 0))[0]? = some v0 := ⟨(cells (q 0))[0]'(by rw [hsz]; exact hs), by simp⟩
        have c00 := (hq 0 hpos).1 0 _ hv0
        have hspot : spot = none := by simpa [Addr.add] using World.cell?_spot c00
        subst hspot
        refine ⟨b, o, rfl, ?_, fun j x i v hj hi => ?_⟩
        · have := World.block_lt_of_cell? W _ c00
          simpa [Addr.add] using this
        · have hjl : j < len := by have := (List.getElem?_eq_some_iff.1 hj).1; simpa using this
          simp [hjl] at hj
          subst hj
          have := (hq j hjl).1 i v hi
          rw [Addr.add_mid, Addr.add_mid] at this
          exact this
    · obtain ⟨i, hi, rfl⟩ := List.mem_map.1 hx
      exact (hq i (List.mem_range.1 hi)).2
end
section
variable {H : Type} {enc : TypeId × Value → H}
theorem cells3t : Try.prog.cellsOf 56 = 3 := by kernel_rfl
theorem cells1i : Try.prog.cellsOf 3 = 1 := by kernel_rfl
theorem open_cells3 {W : World} {sp : Nat → Bool} {held : Bool} (n : Nat) (cs : List Value) (x : DataW H × List MemPlace) (h : DataW.trod enc Try.prog W 0 sp held n 56 cs = some x) : ∃ k, cs = cT3 k ∧ True := by
  obtain ⟨_, _, _, _, hcs, _, _⟩ := DataW.trod_array Try.underlying56 h
  rw [cells3t] at hcs
  match cs, hcs with
  | [c0, c1, c2], _ =>
    obtain ⟨y0, y1, y2, m, _, h0, h1, h2⟩ := trod_array3 Try.underlying56 cells1i h
    obtain ⟨x0, e0, _⟩ := DataW.trod_int Try.underlying3 h0
    obtain ⟨x1, e1, _⟩ := DataW.trod_int Try.underlying3 h1
    obtain ⟨x2, e2, _⟩ := DataW.trod_int Try.underlying3 h2
    simp at e0 e1 e2
    subst e0 e1 e2
    exact ⟨(x0, x1, x2), rfl, trivial⟩
theorem open_Ts {W : World} {base : Nat} {sp : Nat → Bool} {held : Bool} {v : Value} {d : DataW H} {p : List MemPlace} (hv : Value.okWide Try.prog W .any base 25 v) (h : DataW.Trod enc Try.prog W 0 sp held 25 v d p) :
    ∃ l a len cap, v = .slice a len cap ∧ In cT3 3 W a len l ∧ (∀ x ∈ l, True) ∧ len ≤ maxLen := by
  obtain ⟨a, n, c, rfl⟩ := okWide_slice Try.underlying25 hv
  obtain ⟨xs, h1, h2, h3⟩ := open_in Try.underlying25 cells3t (by decide) cT3 (fun _ => True) (fun _ => rfl) open_cells3 h
  exact ⟨xs, a, n, c, rfl, h1, h2, h3⟩
theorem open_T1 {W : World} {base : Nat} {sp : Nat → Bool} {held : Bool} {v : Value} {d : DataW H} {p : List MemPlace} (hv : Value.okWide Try.prog W .any base 56 v) (h : DataW.Trod enc Try.prog W 0 sp held 56 v d p) :
    ∃ t : T3, v = av t := by
  obtain ⟨cs, rfl, _, _⟩ : ∃ cs, v = .agg cs ∧ cs.size = Try.prog.cellsOf 56 ∧ Row.okWide Try.prog W .any base 56 cs := by
    have := hv
    simpa [Value.okWide, Try.underlying56] using this
  obtain ⟨fuel, hf⟩ := h
  obtain ⟨k, e, _⟩ := open_cells3 _ _ _ hf
  obtain ⟨l⟩ := cs
  have e' : l = cT3 k := e
  refine ⟨k, ?_⟩
  rw [e']
end
end
end Go.Proofs.Ytmpoeibkndcnnaa
