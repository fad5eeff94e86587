/- Layer trie: the reference's Remove. – Layer trie: what the law gathers of kids and outer nodes is what the program keeps. – Layer trie: the program's step of a shape without an inner node. – Layer trie: the program's step of a shape with an inner node. – Layer trie: between: the steps on the way from a node down to another, given what each step is and slices.Reverse. -/
import Derived.Test.YtljefbfjehblpaaGreatA19
namespace Go.Proofs.YtljefbfjehblpaaGreat
section
open Go.RowKit Go.Maps Go.WideMaps
set_option maxRecDepth 100000

section
variable {w : World} {c : Nat → Nat} {q : Nat} {ls : List (List St)} {es : En} {U E : Nat → Int}
theorem erase_snoc_mem {l : List St} {A : List (List St)} {x : List St} (h : l ∈ A) : (A ++ [x]).erase l = A.erase l ++ [x] := by rw [List.erase_append, if_pos h]
theorem erase_snoc_ne {l : List St} {A : List (List St)} {x : List St} (h : l ∉ A) (hx : x ≠ l) : (A ++ [x]).erase l = A.erase l ++ [x] := by
  rw [List.erase_append, if_neg h, List.erase_of_not_mem h, List.erase_of_not_mem (by simpa using fun e => hx e.symm)]
theorem erase_snoc_eq {l : List St} {A : List (List St)} (h : l ∉ A) : (A ++ [l]).erase l = A.erase l := by
  rw [List.erase_append, if_neg h, List.erase_of_not_mem h]; simp
set_option maxHeartbeats 16000000 in
theorem rremove_any (h : RT w c q ls es) (ht : TLS ls es U E) (hes : es.length ≤ 2000) (hls : ls.length ≤ 1000) (l : List St) (hl : Rl l) (ok : Nat → Nat → Prop) (a : Option Addr) (cap : Nat) (hH : SHolds w ok (.slice a l.length cap) l) :
    Calls Tryz.prog 9 #[.pointer (some ⟨q, 0, none⟩), .slice a l.length cap] w fun e w' =>
      (l ∉ ls ∧ e = .returned (.tuple #[.slice none 0 0, .bool false]) ∧ Kept Nil w w') ∨
      (l ∈ ls ∧ ∃ a6 n6 cp6 c', e = .returned (.tuple #[.slice a6 n6 cp6, .bool true]) ∧ In cNt 1 w' a6 n6 (gonL (gonE ls l es) es.length es.length) ∧ (∀ b, (Value.slice a6 n6 cp6).ownBlock = some b → c' b = 0 ∧ w.heap.size ≤ b ∧ b < w'.heap.size) ∧ (∀ es2 : En, es2.length = es.length → (∀ i, ent es2 (i + 2) = if gonE ls l es (i + 2) = true then none else ent es (i + 2)) → RT w' c' q (ls.erase l) es2) ∧ Kept (RF c) w w' ∧ (∀ b, b < w.heap.size → c b ≠ 0 → c' b = c b) ∧ ∀ b, c' b ≠ 0 → c b ≠ 0 ∨ w.heap.size ≤ b) := by
  obtain ⟨aL, nL, cL, aC, nC, cC, aO, nO, cO, vL, vC, vO, h⟩ := h
  have HX := Lib.hid h
  have HT := Lib.hid ht
  have HRL := Lib.hid hl
  have hnL : nL = ls.length := by have := h.rL.caps.1; rw [this, h.sL.1]
  have HNL := Lib.hid hnL
  have hnb : nL ≤ 1000 := by omega
  have hp := h.blk.lt
  have hcL := h.rL.caps.2
  have hml : massL l ≤ 5000 := by have := hl.mass; omega
  have CA := Lib.hid (fun W (kW : Kept Nil w W) (y : List St) (hy : Rl y) (b : Option Addr) (cp : Nat) (hh : SHolds W (fun b _ => c b = 9) (.slice b y.length cp) y) => all_any y l (by have := hy.mass; omega) hml (fun b _ => c b = 9) ok b a cp cap W hh (hH.keptN kW))
  obtain ⟨len, hlen⟩ : ∃ len, l.length = len := ⟨_, rfl⟩
  simp only [hlen] at CA ⊢
  have d0 := h.blk.cell 0
  simp only [List.getElem?_toArray, List.getElem?_cons_zero] at d0
  have HES := Lib.hid hes
  clear h ht hl hnL hlen hH hml hes hls
  go_enter Tryz.func9, Tryz.ntmps9
  go_wp2_with fail
  go_loopw [6, 7, 9, 17] (fun v f _ i wr => ∃ (j : Nat) (a2 : Option Addr) (n2 c2 : Nat) (vl : List SlV), j ≤ nL ∧ i = .int .i64 j ∧ v = .slice a2 n2 c2 ∧ f = .bool (decide (l ∈ ls.take j)) ∧ Row cV 35 1 wr w.heap.size (.slice a2 n2 c2) vl ∧ Sls wr (fun b _ => c b = 9) vl ((ls.take j).erase l) ∧ Kept Nil w wr) (fun _ _ _ i _ => nL - (intOf i).toNat)
  case atStart => exact ⟨0, none, 0, 0, [], Nat.zero_le _, rfl, rfl, by simp, Row.nil _ _, ⟨rfl, fun i x hi => by cases hi⟩, Kept.refl _ _⟩
  case round =>
    obtain ⟨j, a2, n2, c2, vl, hj, rfl, rfl, rfl, hrow, hsl, hK⟩ := hrel
    have HK := Lib.hid hK
    have HROW := Lib.hid hrow
    have HSL := Lib.hid hsl
    have hvl : vl.length ≤ 1000 := by
      have h1 := hsl.1
      have h2 := List.length_erase_le (a := l) (l := ls.take j)
      rw [List.length_take] at h2
      omega
    clear d0 hrow hsl
    by_cases hlt : j < nL
    · obtain ⟨x, hx⟩ : ∃ x, ls[j]? = some x := ⟨_, List.getElem?_eq_getElem (by have := HNL.out; omega)⟩
      have HXw := Lib.hid (HX.out.kept hK (fun _ e => e.elim))
      obtain ⟨bx, cx, hv, hh⟩ := HXw.out.sL.2 j x hx
      obtain ⟨b, rfl, hb, _, qv⟩ := HXw.out.rL.get cV_len (by decide) hv
      have qv := qv 0 _ rfl
      rw [Nat.mul_one, Nat.add_zero] at qv
      have HTK := Lib.hid (show ls.take (j + 1) = ls.take j ++ [x] by rw [List.take_add_one, hx]; rfl)
      have CB := Lib.hid (CA.out wr hK x (HT.out.tl.rl x (List.mem_of_getElem? hx)) bx cx hh)
      rw [sameSL_decide] at CB
      have hjj : (j : Int) < (nL : Int) := by omega
      have HHX := Lib.hid hh
      obtain ⟨xl, hxl⟩ : ∃ xl, x.length = xl := ⟨_, rfl⟩
      have HXL := Lib.hid hxl
      simp only [hxl] at CB qv
      clear hK hv hh hx hxl
      by_cases hf : l ∈ ls.take j
      · have e1 : decide (l ∈ ls.take j) = true := decide_eq_true hf
        have HF2 := Lib.hid (show decide (l ∈ ls.take (j + 1)) = true from decide_eq_true (by rw [HTK.out]; exact List.mem_append_left _ hf))
        have HER := Lib.hid (show (ls.take (j + 1)).erase l = (ls.take j).erase l ++ [x] by rw [HTK.out, erase_snoc_mem hf])
        rw [e1]
        obtain ⟨a9, c9, w9, hrun, hR9, k9, ho9⟩ := (HROW.out).push2 elsLQ cV_len cV_one 27 (HK.out.size) (by omega) (bx, xl, cx) #[.slice bx xl cx] rfl
        have HR9 := Lib.hid hR9
        have HK9 := Lib.hid ((HK.out).trans k9 (fun i hi e => by have := HROW.out.lowb e; omega))
        have HS9 := Lib.hid (((show Sls wr (fun b _ => c b = 9) (vl ++ [(bx, xl, cx)]) ((ls.take j).erase l ++ [x]) by
          have hsn := (HSL.out).snoc (b := bx) (cp := cx) (x := x) (HHX.out)
          rw [HXL.out] at hsn
          exact hsn)).keptF k9 (fun b o e f => by have := HROW.out.lowb f; have := HX.out.low b (by omega); omega))
        clear hf e1 hR9 k9 ho9
        go_wp2_with (refine wpList_append_run rfl (.tmp 28) (.tmp 30) 27 rfl (.slice a2 n2 c2) (.slice (some ⟨wr.heap.size, 0, none⟩) 1 1) rfl rfl (v' := .slice a9 (n2 + 1) c9) (w' := w9) (by with_reducible exact hrun) ?_)
        go_roundw
        case rel => exact ⟨j + 1, a9, n2 + 1, c9, _, hlt, by go_num, rfl, by rw [HF2.out], HR9.out, by rw [HER.out]; exact HS9.out, HK9.out⟩
        case measure => simp [intOf]; omega
      · have e1 : decide (l ∈ ls.take j) = false := decide_eq_false hf
        rw [e1]
        have HNF := Lib.hid hf
        clear hf e1
        go_wp2_with fail
        refine CB.out.mono ?_
        rintro e w5 ⟨rfl, k5⟩
        have K5 := Lib.hid k5
        clear k5 CB
        by_cases hxl2 : x = l
        · have e2 : decide (x = l) = true := decide_eq_true hxl2
          rw [e2]
          have HF2 := Lib.hid (show decide (l ∈ ls.take (j + 1)) = true from decide_eq_true (by rw [HTK.out, hxl2]; simp))
          have HER := Lib.hid (show (ls.take (j + 1)).erase l = (ls.take j).erase l by rw [HTK.out, hxl2, erase_snoc_eq HNF.out])
          clear e2 hxl2
          go_wp2_with fail
          go_roundw
          case rel => exact ⟨j + 1, a2, n2, c2, vl, hlt, by go_num, rfl, by rw [HF2.out], HROW.out.keptN K5.out, by rw [HER.out]; exact HSL.out.keptN K5.out, HK.out.trans K5.out (fun _ _ e => e)⟩
          case measure => simp [intOf]; omega
        · have e1 : decide (x = l) = false := decide_eq_false hxl2
          rw [e1]
          have HF2 := Lib.hid (show decide (l ∈ ls.take (j + 1)) = false from decide_eq_false (by
            rw [HTK.out, List.mem_append, List.mem_singleton]
            exact fun e => e.elim HNF.out (fun e => hxl2 e.symm)))
          have HER := Lib.hid (show (ls.take (j + 1)).erase l = (ls.take j).erase l ++ [x] by rw [HTK.out, erase_snoc_ne HNF.out hxl2])
          have hf := hxl2
          clear hxl2
          obtain ⟨a9, c9, w9, hrun, hR9, k9, ho9⟩ := (HROW.out.keptN K5.out).push2 elsLQ cV_len cV_one 27 (Nat.le_trans HK.out.size K5.out.size) (by omega) (bx, xl, cx) #[.slice bx xl cx] rfl
          have HR9 := Lib.hid hR9
          have HK9 := Lib.hid ((HK.out.trans K5.out (fun _ _ e => e)).trans k9 (fun i hi e => by have := HROW.out.lowb e; omega))
          have HS9 := Lib.hid (((show Sls w5 (fun b _ => c b = 9) (vl ++ [(bx, xl, cx)]) ((ls.take j).erase l ++ [x]) by
            have hsn := (HSL.out.keptN K5.out).snoc (b := bx) (cp := cx) (x := x) (HHX.out.keptN K5.out)
            rw [HXL.out] at hsn
            exact hsn)).keptF k9 (fun b o e f => by have := HROW.out.lowb f; have := HX.out.low b (by omega); omega))
          clear hf e1 hR9 k9 ho9
          go_wp2_with (refine wpList_append_run rfl (.tmp 28) (.tmp 30) 27 rfl (.slice a2 n2 c2) (.slice (some ⟨w5.heap.size, 0, none⟩) 1 1) rfl rfl (v' := .slice a9 (n2 + 1) c9) (w' := w9) (by with_reducible exact hrun) ?_)
          go_roundw
          case rel => exact ⟨j + 1, a9, n2 + 1, c9, _, hlt, by go_num, rfl, by rw [HF2.out], HR9.out, by rw [HER.out]; exact HS9.out, HK9.out⟩
          case measure => simp [intOf]; omega
    · obtain rfl : j = nL := by omega
      have et : ls.take j = ls := List.take_of_length_le (by have := HNL.out; omega)
      rw [et]
      by_cases hf : l ∈ ls
      · have e1 : decide (l ∈ ls) = true := decide_eq_true hf
        rw [e1]
        have HF := Lib.hid hf
        have hsl := HSL.out
        rw [et] at hsl
        have hxw := HX.out.kept hK (fun _ e => e.elim)
        obtain ⟨c', hx0, k0, hold, hnew⟩ := hxw.setL (HROW.out.down (Nat.zero_le _)) (fun b e => by
          by_cases e0 : c b = 0
          · exact e0
          · have h1 := HX.out.low b e0; have h2 := HROW.out.lowb e; omega) hsl
        have d0 := hxw.blk.cell 0
        simp only [List.getElem?_toArray, List.getElem?_cons_zero] at d0
        have hq0 := hxw.blk.lt
        have hz0 := hxw.blk.frozen 0
        have d1 := hx0.blk.cell 1
        simp only [List.getElem?_toArray, List.getElem?_cons_zero, List.getElem?_cons_succ] at d1
        have HX0 := Lib.hid hx0
        have HK0 := Lib.hid k0
        have HOLD := Lib.hid hold
        have HNEW := Lib.hid hnew
        have hnC : nC = es.length := by have := hx0.rC.caps.1; rw [this, hx0.lC]
        have HNC := Lib.hid hnC
        have hcC := hx0.rC.caps.2
        have hCb : nC ≤ 2000 := by have := HES.out; omega
        obtain ⟨g, hg⟩ : ∃ g, gonE ls l es = g := ⟨_, rfl⟩
        have HG := Lib.hid hg
        have HLO := Lib.hid (show ∀ b, (Value.slice a2 n2 c2).ownBlock = some b → w.heap.size ≤ b from fun b e => HROW.out.lowb e)
        clear hx0 k0 hold hnew hxw hsl et e1 hf hnC hg HROW HSL
        go_wp2_with fail
        rename World => wr0
        go_loopw [10, 11] (fun v i wt => ∃ (d : Nat) (a3 : Option Addr) (n3 c3 : Nat) (vO' : List Nat), d ≤ nC ∧ i = .int .i64 ((nC : Int) - 1 - (d : Int)) ∧ v = .slice a3 n3 c3 ∧ RTx wt c' q (ls.erase l) (esD es g nC d) a2 n2 c2 aC nC cC aO nO cO vl vC vO' ∧ Row cNt 3 1 wt (wr0.setCell ⟨q, 0, none⟩ (.slice a2 n2 c2)).heap.size (.slice a3 n3 c3) (gonL g nC d) ∧ Kept (RF c') (wr0.setCell ⟨q, 0, none⟩ (.slice a2 n2 c2)) wt) (fun _ i _ => (intOf i + 1).toNat)
        case atStart =>
          refine ⟨0, none, 0, 0, vO, Nat.zero_le _, by simp, rfl, HX0.out.cong (esD_len _ _ _ _) (fun i => ?_), Row.nil _ _, Kept.refl _ _⟩
          rw [esD_ent]
          by_cases hi : i < es.length
          · rw [if_neg (fun e => by have := e.1; have := HNC.out; omega)]
          · split
            · exact (ent_far (by omega)).symm
            · rfl
        case round =>
          obtain ⟨d, a3, n3, c3, vO', hd, rfl, rfl, hx, hrow, hK2⟩ := hrel
          have HXD := Lib.hid hx
          have HROW2 := Lib.hid hrow
          have HK2 := Lib.hid hK2
          have hgl := gonL_len (g := g) (n := nC) (d := d)
          have HGL := Lib.hid hgl
          clear d0 hq0 hz0 d1
          by_cases hlt : d < nC
          · obtain ⟨k, hk⟩ : ∃ k, nC - 1 - d = k := ⟨_, rfl⟩
            have hkI : (nC : Int) - 1 - (d : Int) = (k : Int) := by omega
            have hkn : (k : Int) < (nC : Int) := by omega
            have hk0 : (0 : Int) ≤ (k : Int) := by omega
            have hkd : nC - (d + 1) = k := by omega
            have HKD := Lib.hid hkd
            rw [hkI]
            obtain ⟨v, hv⟩ : ∃ v, vC[k]? = some v := ⟨_, List.getElem?_eq_getElem (by have := hx.lC; rw [esD_len] at this; have := HNC.out; omega)⟩
            obtain ⟨z, hz⟩ : ∃ z, vO'[k]? = some z := ⟨_, List.getElem?_eq_getElem (by have := hx.lO; rw [esD_len] at this; have := HNC.out; omega)⟩
            obtain ⟨b1, rfl, hb1, _, qv⟩ := hx.rC.get cV_len (by decide) hv
            obtain ⟨b0, rfl, hb0, _, qz⟩ := hx.rO.get cNt_len (by decide) hz
            have qv := qv 0 _ rfl
            have qz := qz 0 _ rfl
            rw [Nat.mul_one, Nat.add_zero] at qv qz
            have d1 := hx.blk.cell 1
            have d2 := hx.blk.cell 2
            simp only [List.getElem?_toArray, List.getElem?_cons_zero, List.getElem?_cons_succ] at d1 d2
            have hqd := hx.blk.lt
            have hnO := hx.rO.caps.1
            have hnO2 : nO = nC := by have := hx.lO; rw [esD_len] at this; have := HNC.out; omega
            subst hnO2
            have hcO := hx.rO.caps.2
            have hek : ent (esD es g nO d) (k + 2) = ent es (k + 2) := by
              rw [esD_ent, if_neg (fun e => by have := e.1; omega)]
            have HGD := Lib.hid (show gonL g nO (d + 1) = gonL g nO d ++ if g (k + 2) = true then [k + 2] else [] by rw [← hkd]; rfl)
            have HSKIP : Hid (g (k + 2) = false → ∀ i, ent (esD es g nO (d + 1)) (i + 2) = ent (esD es g nO d) (i + 2)) := Lib.hid (fun hgf i => by
              rw [esD_ent, esD_ent]
              by_cases hik : i = k
              · subst hik
                rw [if_neg (fun e => by rw [hgf] at e; cases e.2), if_neg (fun e => by rw [hgf] at e; cases e.2)]
              · by_cases h2 : nO - d ≤ i ∧ g (i + 2) = true
                · rw [if_pos h2, if_pos ⟨by omega, h2.2⟩]
                · rw [if_neg h2, if_neg (fun e => h2 ⟨by omega, e.2⟩)])
            have HSET : Hid (g (k + 2) = true → ∀ i, ent (esD es g nO (d + 1)) (i + 2) = if i = k then none else ent (esD es g nO d) (i + 2)) := Lib.hid (fun hgt i => by
              rw [esD_ent, esD_ent]
              by_cases hik : i = k
              · subst hik
                rw [if_pos ⟨by omega, hgt⟩, if_pos rfl]
              · rw [if_neg hik]
                by_cases h2 : nO - d ≤ i ∧ g (i + 2) = true
                · rw [if_pos h2, if_pos ⟨by omega, h2.2⟩]
                · rw [if_neg h2, if_neg (fun e => h2 ⟨by omega, e.2⟩)])
            cases hent : ent es (k + 2) with
            | none =>
              have hz1 := hx.off k (by rw [esD_len]; have := HNC.out; omega) (by rw [hek]; exact hent)
              rw [hz] at hz1
              cases hz1
              have HGF := Lib.hid (show g (k + 2) = false by rw [← HG.out]; unfold gonE; rw [hent])
              have HGL2 := Lib.hid (show gonL g nO (d + 1) = gonL g nO d by rw [HGD.out, HGF.out]; simp)
              clear hx hrow hK2 hgl hv hz hent hek hnO hk
              go_wp2_with fail
              go_roundw
              case rel => exact ⟨d + 1, a3, n3, c3, vO', hlt, by go_num, rfl, HXD.out.cong (by rw [esD_len, esD_len]) (HSKIP.out HGF.out), by rw [HGL2.out]; exact HROW2.out, HK2.out⟩
              case measure => simp [intOf] <;> omega
            | some x =>
              obtain ⟨hz1, b2, cp2, hv1, hh1⟩ := hx.on k x (by rw [hek]; exact hent)
              rw [hz] at hz1
              rw [hv] at hv1
              cases hz1
              cases hv1
              have CU := Lib.hid (ruses_any (c := c') ⟨_, _, _, _, _, _, _, _, _, _, _, _, hx⟩ (fun y hy => HT.out.tl.rl y (List.mem_of_mem_erase hy)) (by have := List.length_erase_le (a := l) (l := ls); have := HNL.out; omega) x (HT.out.massE hent) _ b2 cp2 hh1)
              have hx0 : x ≠ [] := HT.out.tl.ok.ne k x (by have := (ent_two (n := k + 2) (by omega)).1 hent; simpa using this)
              have HGT := Lib.hid (show g (k + 2) = decide (usesL (ls.erase l) x = 0) by
                rw [← HG.out]; unfold gonE; rw [hent]; unfold goes; simp [hx0])
              obtain ⟨xl, hxl⟩ : ∃ xl, x.length = xl := ⟨_, rfl⟩
              simp only [hxl] at CU qv
              obtain ⟨u, hu⟩ : ∃ u, usesL (ls.erase l) x = u := ⟨_, rfl⟩
              rw [hu] at CU HGT
              clear hx hrow hK2 hgl hv hz hent hek hnO hk hh1 hx0 hxl hu
              go_wp2_with fail
              refine CU.out.mono ?_
              rintro e w5 ⟨rfl, k5⟩
              have K5 := Lib.hid k5
              by_cases hu0 : u = 0
              · have HGT2 := Lib.hid (show g (k + 2) = true by rw [HGT.out]; exact decide_eq_true hu0)
                subst hu0
                obtain ⟨hx6, k6⟩ := (HXD.out.kept k5 (fun _ e => e.elim)).setO (k := k) (es' := esD es g nO (d + 1)) (by rw [esD_len]; have := HNC.out; omega) (by rw [esD_len, esD_len]) (HSET.out HGT2.out)
                have HX6 := Lib.hid hx6
                have HK6 := Lib.hid k6
                have d2' := (HXD.out.kept k5 (fun _ e => e.elim)).blk.cell 2
                simp only [List.getElem?_toArray, List.getElem?_cons_zero, List.getElem?_cons_succ] at d2'
                have qz' : w5.cell? ⟨b0, k, none⟩ = some (.int .i64 0) := (k5.cell (p := ⟨b0, k, none⟩) hb0 (fun e => e)).trans qz
                have hqd' := Nat.lt_of_lt_of_le hqd k5.size
                have hb0' := Nat.lt_of_lt_of_le hb0 k5.size
                have hzf : w5.frozen? ⟨b0, k, none⟩ = false := by
                  obtain ⟨cs, e2⟩ := (HXD.out.kept k5 (fun _ e => e.elim)).rO.block (k := b0) rfl
                  simp [World.frozen?, e2]
                have hz2 : ∀ b, (Value.slice a3 n3 c3).ownBlock = some b → ¬ RF c' b ∧ (wr0.setCell ⟨q, 0, none⟩ (.slice a2 n2 c2)).heap.size ≤ b := fun b e => by
                  have h1 := HROW2.out.lowb e
                  refine ⟨fun f => ?_, h1⟩
                  have := HX0.out.low b f.1
                  omega
                obtain ⟨a9, c9, w9, hrun, hR9, k9, ho9⟩ := ((HROW2.out.keptN k5).keptF k6 (fun b e => (hz2 b e).1)).push2 elsNt cNt_len (fun y => cNt_one y) 28 (Nat.le_trans HK2.out.size (Nat.le_trans k5.size k6.size)) (by have := HGL.out; omega) (k + 2) #[.int .i64 ((k + 2 : Nat) : Int)] rfl
                have HR9 := Lib.hid hR9
                have hszw : (w5.setCell ⟨b0, k, none⟩ (.int .i64 1)).heap.size = w5.heap.size := by simp [World.setCell]
                rw [hszw] at hrun
                have HX9 := Lib.hid (hx6.kept k9 (fun b e => by
                  by_cases e0 : c' b = 0
                  · exact e0
                  · have h1 := HX0.out.low b e0; have h2 := (hz2 b e).2; omega))
                have HK9 := Lib.hid (((HK2.out.trans k5 (fun _ _ e => e.elim)).trans k6 (fun _ _ e => e)).trans k9 (fun i hi e => by have := (hz2 i e).2; omega))
                obtain ⟨k2, hk2e⟩ : ∃ k2, k + 2 = k2 := ⟨_, rfl⟩
                have hk2I : (k : Int) + 2 = (k2 : Int) := by omega
                have hk2b : k2 ≤ 5000 := by omega
                have HGL2 := Lib.hid (show gonL g nO (d + 1) = gonL g nO d ++ [k + 2] by rw [HGD.out, HGT2.out]; simp)
                rw [hk2e] at hrun
                clear hx6 k6 k5 hz2 hR9 k9 ho9 CU hk2e hszw qz
                go_wp2_with (refine wpList_append_run rfl (.tmp 75) (.tmp 78) 28 rfl (.slice a3 n3 c3) (.slice (some ⟨w5.heap.size, 0, none⟩) 1 1) rfl rfl (v' := .slice a9 (n3 + 1) c9) (w' := w9) (by with_reducible exact hrun) ?_)
                go_roundw
                case rel => exact ⟨d + 1, a9, n3 + 1, c9, _, hlt, by go_num, rfl, HX9.out, by rw [HGL2.out]; exact HR9.out, HK9.out⟩
                case measure => simp [intOf] <;> omega
              · have HGF := Lib.hid (show g (k + 2) = false by rw [HGT.out]; exact decide_eq_false hu0)
                have HGL2 := Lib.hid (show gonL g nO (d + 1) = gonL g nO d by rw [HGD.out, HGF.out]; simp)
                have hun : ((u : Int) == 0) = false := by simp; exact hu0
                clear hu0 k5 CU
                go_wp2_with fail
                go_roundw
                case rel => exact ⟨d + 1, a3, n3, c3, vO', hlt, by go_num, rfl, (HXD.out.kept K5.out (fun _ e => e.elim)).cong (by rw [esD_len, esD_len]) (HSKIP.out HGF.out), by rw [HGL2.out]; exact HROW2.out.keptN K5.out, HK2.out.trans K5.out (fun _ _ e => e.elim)⟩
                case measure => simp [intOf] <;> omega
          · obtain rfl : d = nC := by omega
            have hin : ((d : Int) - 1 - (d : Int)) = -1 := by omega
            rw [hin]
            clear hx hrow hK2 hgl
            go_wp2_with fail
            go_ret2
            have hrf : ∀ b, b < w.heap.size → RF c' b → RF c b := fun b hb e => by
              rcases HNEW.out b e.1 with g1 | g1
              · have := HOLD.out b g1
                exact ⟨g1, by rw [← this]; exact e.2⟩
              · have := HLO.out b g1; omega
            refine .inr ⟨HF.out, a3, n3, c3, c', rfl, ?_, fun b e => ?_, fun es2 h1 h2 => ⟨_, _, _, _, _, _, _, _, _, _, _, _, HXD.out.cong (by rw [esD_len]; exact h1) (fun i => ?_)⟩, ?_, fun b _ e => HOLD.out b e, fun b e => ?_⟩
            · have := HROW2.out.toIn cNt_len (by decide)
              rw [← HG.out, HNC.out] at this
              exact this
            · have h1 := HROW2.out.lowb e
              have h2 := HROW2.out.ownLt e
              have h3 := HK.out.size
              have h4 := HK0.out.size
              refine ⟨?_, by omega, h2⟩
              by_cases e0 : c' b = 0
              · exact e0
              · have := HX0.out.low b e0; omega
            · rw [h2, esD_ent, ← HG.out]
              simp
            · exact ((HK.out.mono (fun _ _ e => e.elim)).trans HK0.out (fun i hi e => e)).trans HK2.out (fun i hi e => hrf i hi e)
            · rcases HNEW.out b e with g1 | g1
              · exact .inl g1
              · exact .inr (HLO.out b g1)
      · have e1 : decide (l ∈ ls) = false := decide_eq_false hf
        rw [e1]
        have HF := Lib.hid hf
        clear hf e1 et
        go_wp2_with fail
        go_ret2
        exact .inl ⟨HF.out, rfl, HK.out⟩
end
end
section
section
open Go.RowKit
set_option maxRecDepth 100000
theorem filter_alv (es : En) (p : Nat → Bool) (hp : ∀ k, ent es k = none → p k = false) : (List.range (es.length + 2)).filter p = (alv es).filter p := by
  unfold alv
  rw [List.filter_filter]
  refine List.filter_congr (fun k _ => ?_)
  cases e : ent es k with
  | none => rw [hp k e]; simp
  | some c => simp
theorem kid_filter {es : En} (ok : EsOK es) {n : Nat} {c : List St} (hc : ent es n = some c) :
    kidN es n = (alv es).filter (fun k => decide ((chn es k).length = c.length + 1) && decide (fnd es ((chn es k).take c.length) = n)) := by
  have hn := (ent_fnd ok).1 hc
  unfold kidN
  rw [hc]
  show kidsE es n = _
  unfold kidsE
  rw [filter_alv es _ (fun k e => by rw [e])]
  refine List.filter_congr (fun k hk => ?_)
  cases e : ent es k with
  | none => exact absurd e (alv_mem.1 hk)
  | some d =>
    have e1 : chn es k = d := by unfold chn; rw [e]; rfl
    rw [e1]
    by_cases h0 : d = []
    · subst h0
      have : ¬ (parE es [] = n) := fun f => hn.1 f.symm
      simp [this]
    · obtain ⟨d', hd, sb, rfl⟩ := snoc_of h0
      show decide (parE es (d' ++ [St.mk hd sb]) = n) = _
      rw [parE_snoc]
      rw [Bool.eq_iff_iff]
      simp only [Bool.and_eq_true, decide_eq_true_eq, List.length_append, List.length_singleton]
      constructor
      · intro h
        have : d' = c := fnd_inj ok (h.trans hn.2.symm) (by omega)
        subst this
        exact ⟨rfl, by simpa using hn.2⟩
      · rintro ⟨h1, h2⟩
        have h3 : d'.length = c.length := by omega
        rw [← h3] at h2
        simpa using h2
theorem out_filter {es : En} {n : Nat} {c : List St} (hc : ent es n = some c) : outN es n = (alv es).filter (fun k => decide (innN es k = n)) := by
  unfold outN
  rw [hc]
  show outerE es n = _
  unfold outerE
  rw [filter_alv es _ (fun k e => by rw [e])]
  refine List.filter_congr (fun k hk => ?_)
  unfold innN
  cases e : ent es k with
  | none => exact absurd e (alv_mem.1 hk)
  | some d => rfl
end
end
section
open Go.RowKit Go.Maps Go.WideMaps
set_option maxRecDepth 100000

def STsp (b3 b5 n : Nat) (W : World) : Prop := W.cell? ⟨b5, 4, none⟩ = some (.slice none 0 0) ∧ W.cell? ⟨b3, 14, none⟩ = some (.int .i64 n) ∧ b3 < W.heap.size ∧ b5 < W.heap.size
/-- The tests of a shape, where it lies. -/
theorem tests_at {W : World} {b3 : Nat} {P Q : Nat} {hd : SH} (hk : HdOK hd) (hB : Blk W b3 62 (aSp (shp P hd Q))) : LiesD kT W (.slice (some ⟨b3, 5, none⟩) hd.ts.length 3) hd.ts := by
  have key : ∀ (j : Nat) t, hd.ts[j]? = some t → W.rangeAt b3 (5 + j * 3) (kT.F t) := fun j t hj i v hv => by
    have hj3 := (List.getElem?_eq_some_iff.1 hj).1
    have htl := hk.tl
    rw [hB.cell]
    have c0 : tc hd.ts (j * 3) = t.1 := by unfold tc; rw [Nat.mul_div_cancel _ (by decide), hj]; simp
    have c1 : tc hd.ts (j * 3 + 1) = t.2.1 := by unfold tc; rw [show (j * 3 + 1) / 3 = j by omega, hj]; simp [show (j * 3 + 1) % 3 = 1 by omega]
    have c2 : tc hd.ts (j * 3 + 2) = t.2.2 := by unfold tc; rw [show (j * 3 + 2) / 3 = j by omega, hj]; simp [show (j * 3 + 2) % 3 = 2 by omega]
    have hi : i < 3 := by have := (List.getElem?_eq_some_iff.1 hv).1; simpa [kT] using this
    rcases (by omega : j = 0 ∨ j = 1 ∨ j = 2) with rfl | rfl | rfl <;> rcases (by omega : i = 0 ∨ i = 1 ∨ i = 2) with rfl | rfl | rfl <;> simp [kT, cT] at hv <;> subst hv <;> simp [aSp, shp] at * <;> simp [*]
  exact LiesD.of key
section
variable {w : World} {p : Nat}
set_option maxHeartbeats 4000000 in
theorem stepFlat_any (w : World) (P Q : Nat) (hd : SH) (hk : HdOK hd) (h3 : hd.k ≠ 3) :
    Calls Tryz.prog 71 #[.pointer (some ⟨p, 0, none⟩), .agg (aSp (shp P hd Q))] w fun e w' => ∃ t, e = .returned (vS hd t (.slice none 0 0)) ∧ TsAt w' (okM w.heap.size w') t hd.ts ∧ Kept Nil w w' := by
  obtain ⟨b3, hb3⟩ : ∃ b3, w.heap.size = b3 := ⟨_, rfl⟩
  obtain ⟨W1, hW1⟩ : ∃ W1, w.alloc (.cells (aSp (shp P hd Q)) 62) = W1 := ⟨_, rfl⟩
  obtain ⟨W2, hW2⟩ : ∃ W2, W1.alloc (.cells zS 65) = W2 := ⟨_, rfl⟩
  have s1 : W1.heap.size = b3 + 1 := by rw [← hW1, World.size_alloc, hb3]
  have s2 : W2.heap.size = b3 + 2 := by rw [← hW2, World.size_alloc, s1]
  have B31 : Blk W1 b3 62 (aSp (shp P hd Q)) := by rw [← hW1, ← hb3]; exact Blk.new _ _ _
  have B32 : Blk W2 b3 62 (aSp (shp P hd Q)) := by rw [← hW2]; exact B31.alloc _
  have B42 : Blk W2 (b3 + 1) 65 zS := by rw [← hW2, ← s1]; exact Blk.new _ _ _
  have K2 : Kept Nil w W2 := by rw [← hW2, ← hW1]; exact ((Kept.refl _ _).alloc _).alloc _
  have HB := Lib.hid (And.intro B32 (And.intro B42 K2))
  have HS2 := Lib.hid s2
  have HB3 := Lib.hid hb3
  have hz : (zeroValue 65).run Tryz.prog W1 = .ok (.agg zS) W1 := by kernel_rfl
  have d1 := B32.cell 1
  have d14 := B32.cell 14
  have hTR : W2.rangeAt b3 2 [.int .i64 hd.k0, .int .i64 hd.k1, .int .i64 hd.k2] := fun i v hv => by
    rw [B32.cell]
    have hi : i < 3 := by have := (List.getElem?_eq_some_iff.1 hv).1; simpa using this
    rcases (by omega : i = 0 ∨ i = 1 ∨ i = 2) with rfl | rfl | rfl <;> simp at hv <;> subst hv <;> simp [aSp, shp]
  have HTR := Lib.hid hTR
  simp only [aSp, shp, List.getElem?_toArray, List.getElem?_cons_zero, List.getElem?_cons_succ] at d1 d14
  have hl3 := B32.lt
  have hl4 := B42.lt
  clear B31 B32 B42 K2 hTR hz
  go_enter Tryz.func71, Tryz.ntmps71
  go_upto_region 1 with fail
  have HK := Lib.hid hk
  generalize aSp (shp P hd Q) = asp at d1
  try simp only [HB3.out]
  try rw [hW2]
  clear hW1 hW2 hb3
  go_wp2_with (first
      | ((with_reducible refine wpList_load_mid rfl _ (.tmp 8) rfl b3 2 rfl [.int .i64 hd.k0, .int .i64 hd.k1, .int .i64 hd.k2] _ ?_ Tryz.underlying57 rfl (by kernel_rfl) ?_)
         · exact HTR.out)
      | ((with_reducible refine wpList_store_S rfl (.tmp 5) (.tmp 10) rfl _ ⟨hd.k, hd.k0, hd.k1, hd.k2, []⟩ none 0 0 none 0 0 rfl rfl zS rfl ?_ ?_)
         · exact Blk.new _ _ _
         intro W kW bW
         have KW := Lib.hid kW
         have BW := Lib.hid bW
         clear kW bW))
  obtain ⟨n, hn⟩ : ∃ n, hd.ts.length = n := ⟨_, rfl⟩
  have hn3 : n ≤ 3 := by rw [← hn]; exact HK.out.tl
  rw [hn] at d14
  obtain ⟨W, hW⟩ : ∃ W, W2.alloc (.cells (arrS ⟨hd.k, hd.k0, hd.k1, hd.k2, []⟩ (.slice none 0 0) (.slice none 0 0)) 65) = W := ⟨_, rfl⟩
  have kWd : Kept Nil W2 W.drew := by rw [← hW]; exact ((Kept.refl _ _).alloc _).trans ((Kept.refl _ _).drew) (fun _ _ e => e)
  have B3d : Blk W.drew b3 62 (aSp (shp P hd Q)) := HB.out.1.kept kWd (fun e => e)
  have B4d : Blk W.drew (b3 + 1) 65 zS := HB.out.2.1.kept kWd (fun e => e)
  have B5d : Blk W.drew (b3 + 2) 65 (arrS ⟨hd.k, hd.k0, hd.k1, hd.k2, []⟩ (.slice none 0 0) (.slice none 0 0)) := by rw [← hW, ← HS2.out]; exact Blk.new _ _ _
  have sW : W.drew.heap.size = b3 + 3 := by rw [← hW]; show (W2.alloc _).heap.size = _; rw [World.size_alloc, HS2.out]
  have hlies := tests_at HK.out B3d
  rw [hn] at hlies
  obtain ⟨v9, w9, r9, o9, k9, _⟩ := RowD.append (P := Tryz.prog) (D := kT) elsT 63 (RowD.nil (D := kT) (e := 59) (B := W.drew.heap.size) W.drew) hlies (ok := fun _ _ => True) (fun _ _ => trivial) (by simp; omega) (Nat.le_refl _)
  rw [List.nil_append] at o9
  have K9 : Kept Nil W.drew w9 := k9.mono (fun i hi e => by simp [Value.ownBlock] at e)
  obtain ⟨a9, c9, rfl, hc9⟩ := o9.shape
  rw [hn] at r9 hc9
  have B39 := B3d.kept K9 (fun e => e)
  have B49 := B4d.kept K9 (fun e => e)
  have B59 := B5d.kept K9 (fun e => e)
  have S0 : Hid (STsp b3 (b3 + 2) n W.drew) := Lib.hid ⟨by rw [B5d.cell]; rfl, by rw [B3d.cell]; simp [aSp, shp, hn], B3d.lt, B5d.lt⟩
  have S2 : Hid (STsp b3 (b3 + 2) n w9) := Lib.hid ⟨by rw [B59.cell]; rfl, by rw [B39.cell]; simp [aSp, shp, hn], B39.lt, B59.lt⟩
  have g4 : w9.cell? ⟨b3 + 2, 4, none⟩ = some (.slice none 0 0) := S2.out.1
  have f4 := B59.frozen 4
  have l5 := B59.lt
  have B5z := B59.set_ 4 (.slice a9 n c9)
  have kS : Kept (fun z => z = b3 + 2) w9 (w9.setCell ⟨b3 + 2, 4, none⟩ (.slice a9 n c9)) := Kept.setCell (F := fun z => z = b3 + 2) (Kept.refl _ _) _ (.inl rfl) _
  have B3z := B39.kept kS (fun e => by omega)
  have B4z := B49.kept kS (fun e => by omega)
  have g1 := B3z.cell 1
  simp only [aSp, shp, List.getElem?_toArray, List.getElem?_cons_zero, List.getElem?_cons_succ] at g1
  have HB5z := Lib.hid B5z
  have HB4z := Lib.hid B4z
  have l3 := B3z.lt
  have l4 := B4z.lt
  have l5z := B5z.lt
  have hne : ((hd.k : Int) == 3) = false := by simp; exact h3
  have HK9 := Lib.hid (HB.out.2.2.trans (kWd.trans K9 (fun _ _ e => e)) (fun _ _ e => e))
  have HkS := Lib.hid kS
  have HTs := Lib.hid (o9.lies)
  have HO9 := Lib.hid o9.base
  have HOO := Lib.hid o9.2
  have HSW := Lib.hid sW
  have HC9 := Lib.hid hc9
  have HN := Lib.hid hn
  try rw [show W1.heap.size = b3 + 1 from s1]
  rw [hW]
  clear hW kWd B3d B4d B5d sW hlies o9 k9 K9 B39 B49 B59 B5z B3z B4z kS hn
  refine wp_region_lastL (STsp b3 (b3 + 2) n) (by simp) (by kernel_rfl) (by kernel_rfl) ?_
  simp only [List.dropLast, List.getLast]
  refine takeH (i := 0) (some 11) (.pointer (some ⟨b3 + 2, 4, none⟩)) rfl rfl (by kernel_rfl) (by kernel_rfl) (by kernel_rfl) (fun _ _ _ h => h) (by rfl) S0.out ?_ ?_
  · intro w hSw
    go_simp
  simp only [Act.put, List.setIfInBounds_toArray, List.set_cons_succ, List.set_cons_zero]
  refine takeH (i := 1) (some 12) (.slice none 0 0) rfl rfl (by kernel_rfl) (by kernel_rfl) (by kernel_rfl) (fun _ _ _ h => h) (by rfl) S0.out ?_ ?_
  · intro w hSw
    have h1 := hSw.1; have h2 := hSw.2.2.2; go_simp
  simp only [Act.put, List.setIfInBounds_toArray, List.set_cons_succ, List.set_cons_zero]
  refine takeH (i := 2) (some 13) (.pointer (some ⟨b3, 5, none⟩)) rfl rfl (by kernel_rfl) (by kernel_rfl) (by kernel_rfl) (fun _ _ _ h => h) (by rfl) S0.out ?_ ?_
  · intro w hSw
    go_simp
  simp only [Act.put, List.setIfInBounds_toArray, List.set_cons_succ, List.set_cons_zero]
  refine takeH (i := 3) (some 14) (.pointer (some ⟨b3, 14, none⟩)) rfl rfl (by kernel_rfl) (by kernel_rfl) (by kernel_rfl) (fun _ _ _ h => h) (by rfl) S0.out ?_ ?_
  · intro w hSw
    go_simp
  simp only [Act.put, List.setIfInBounds_toArray, List.set_cons_succ, List.set_cons_zero]
  refine takeH (i := 4) (some 15) (.int .i64 n) rfl rfl (by kernel_rfl) (by kernel_rfl) (by kernel_rfl) (fun _ _ _ h => h) (by rfl) S0.out ?_ ?_
  · intro w hSw
    have h1 := hSw.2.1; have h2 := hSw.2.2.1; go_simp
  simp only [Act.put, List.setIfInBounds_toArray, List.set_cons_succ, List.set_cons_zero]
  refine takeH (i := 5) (some 16) (.slice (some ⟨b3, 5, none⟩) n 3) rfl rfl (by kernel_rfl) (by kernel_rfl) (by kernel_rfl) (fun _ _ _ h => h) (by rfl) S0.out ?_ ?_
  · intro w hSw
    have h2 := hSw.2.2.1; clear hSw; rcases (by omega : n = 0 ∨ n = 1 ∨ n = 2 ∨ n = 3) with e | e | e | e <;> subst e <;> go_simp
  simp only [Act.put, List.setIfInBounds_toArray, List.set_cons_succ, List.set_cons_zero]
  refine wpAnyH_all (rs := [6]) (by kernel_rfl) (by decide) (forall_one ?_)
  refine wpOp_of rfl rfl (app_wp (some 17) rfl (.tmp 12) (.tmp 16) 63 63 rfl rfl (.slice none 0 0) _ rfl rfl r9 ⟨S2.out, ?_⟩)
  simp only [Act.put, List.setIfInBounds_toArray, List.set_cons_succ, List.set_cons_zero]
  refine takeH (i := 7) (some 18) (.pointer (some ⟨b3 + 2, 4, none⟩)) rfl rfl (by kernel_rfl) (by kernel_rfl) (by kernel_rfl) (fun _ _ _ h => h) (by rfl) S2.out ?_ ?_
  · intro w hSw
    go_simp
  simp only [Act.put, List.setIfInBounds_toArray, List.set_cons_succ, List.set_cons_zero]
  refine wpAnyH_done (by kernel_rfl) ?_ _
  refine store_wp rfl rfl ?_
  go_wp2_with (first
      | ((with_reducible refine wpList_load_S rfl (.tmp 5) rfl (b3 + 2) 0 rfl ⟨hd.k, hd.k0, hd.k1, hd.k2, []⟩ (.slice a9 n c9) (.slice none 0 0) ?_ ?_)
         · exact World.rangeAt_of_block HB5z.out 0 6)
      | ((with_reducible refine wpList_store_S rfl (.tmp 4) (.tmp 29) rfl (b3 + 1) ⟨hd.k, hd.k0, hd.k1, hd.k2, []⟩ (some _) _ _ none 0 0 rfl rfl zS rfl ?_ ?_)
         · exact HB4z.out
         intro W5 kW bW
         have KW := Lib.hid kW
         have BW := Lib.hid bW
         clear kW bW)
      | ((with_reducible refine wpList_store_S rfl (.tmp 4) (.tmp 29) rfl (b3 + 1) ⟨hd.k, hd.k0, hd.k1, hd.k2, []⟩ a9 n c9 none 0 0 rfl rfl zS rfl ?_ ?_)
         · exact HB4z.out
         intro W5 kW bW
         have KW := Lib.hid kW
         have BW := Lib.hid bW
         clear kW bW))
  refine bodyPost_ret (results_cell_row Tryz.results71 _ _ _ _ _ _ _ rfl BW.out Tryz.underlying65 rfl (by kernel_rfl)) rfl ?_
  have hkk : Kept (fun z => z = b3 + 2 ∨ z = b3 + 1) w9 W5 := (HkS.out.mono (fun _ _ e => .inl e)).trans KW.out (fun _ _ e => .inr e)
  refine ⟨.slice a9 n c9, rfl, ?_, HK9.out.trans hkk (fun i hi e => by rcases e with e | e <;> have := HB3.out <;> omega)⟩
  have hT := (show LiesD kT w9 (.slice a9 hd.ts.length c9) hd.ts from HTs.out).tsAt (ok := fun b o => b3 + 3 ≤ b ∧ b < w9.heap.size ∧ o = 0 ∧ Soft w9 b) (by rw [HN.out]; exact HC9.out) (fun b o e => by
    subst e
    obtain ⟨h1, h2, cs, h4⟩ := HO9.out b (by simp [Value.ownBlock])
    refine ⟨by rw [← HSW.out]; exact h1, h2, ?_, fun i => h4.frozen i⟩
    rcases HOO.out with ⟨e2, _⟩ | ⟨g, cap', cur, e2, _⟩
    · cases e2
    · cases e2; rfl)
  rw [HN.out] at hT
  exact (hT.kept hkk (fun b o e f => by have := e.1; omega)).mono (fun b o e => ⟨by have := e.1; have := HB3.out; omega, Nat.lt_of_lt_of_le e.2.1 hkk.size, e.2.2.1, e.2.2.2.kept hkk e.2.1 (fun f => by have := e.1; omega)⟩)
end
end
section
open Go.RowKit Go.Maps Go.WideMaps
set_option maxRecDepth 100000

section
variable {p : Nat}
set_option maxHeartbeats 4000000 in
theorem stepNcc_any (w : World) (P Q : Nat) (hd : SH) (hk : HdOK hd) (h3 : hd.k = 3) (sb : List St) {nb : Nat} (CB : Hid (∀ W, Kept Nil w W → Calls Tryz.prog 85 #[.pointer (some ⟨p, 0, none⟩), .int .i64 P, .int .i64 Q] W fun e w' => ∃ a cap, e = .returned (.slice a nb cap) ∧ SHolds w' (okM W.heap.size w') (.slice a nb cap) sb ∧ Kept Nil W w')) :
    Calls Tryz.prog 71 #[.pointer (some ⟨p, 0, none⟩), .agg (aSp (shp P hd Q))] w fun e w' => ∃ t a cap, e = .returned (vS hd t (.slice a nb cap)) ∧ TsAt w' (okM w.heap.size w') t hd.ts ∧ SHolds w' (okM w.heap.size w') (.slice a nb cap) sb ∧ Kept Nil w w' := by
  have H3 := Lib.hid h3
  clear h3
  obtain ⟨b3, hb3⟩ : ∃ b3, w.heap.size = b3 := ⟨_, rfl⟩
  obtain ⟨W1, hW1⟩ : ∃ W1, w.alloc (.cells (aSp (shp P hd Q)) 62) = W1 := ⟨_, rfl⟩
  obtain ⟨W2, hW2⟩ : ∃ W2, W1.alloc (.cells zS 65) = W2 := ⟨_, rfl⟩
  have s1 : W1.heap.size = b3 + 1 := by rw [← hW1, World.size_alloc, hb3]
  have s2 : W2.heap.size = b3 + 2 := by rw [← hW2, World.size_alloc, s1]
  have B31 : Blk W1 b3 62 (aSp (shp P hd Q)) := by rw [← hW1, ← hb3]; exact Blk.new _ _ _
  have B32 : Blk W2 b3 62 (aSp (shp P hd Q)) := by rw [← hW2]; exact B31.alloc _
  have B42 : Blk W2 (b3 + 1) 65 zS := by rw [← hW2, ← s1]; exact Blk.new _ _ _
  have K2 : Kept Nil w W2 := by rw [← hW2, ← hW1]; exact ((Kept.refl _ _).alloc _).alloc _
  have HB := Lib.hid (And.intro B32 (And.intro B42 K2))
  have HS2 := Lib.hid s2
  have HB3 := Lib.hid hb3
  have hz : (zeroValue 65).run Tryz.prog W1 = .ok (.agg zS) W1 := by kernel_rfl
  have d1 := B32.cell 1
  have d14 := B32.cell 14
  have hTR : W2.rangeAt b3 2 [.int .i64 hd.k0, .int .i64 hd.k1, .int .i64 hd.k2] := fun i v hv => by
    rw [B32.cell]
    have hi : i < 3 := by have := (List.getElem?_eq_some_iff.1 hv).1; simpa using this
    rcases (by omega : i = 0 ∨ i = 1 ∨ i = 2) with rfl | rfl | rfl <;> simp at hv <;> subst hv <;> simp [aSp, shp]
  have HTR := Lib.hid hTR
  simp only [aSp, shp, List.getElem?_toArray, List.getElem?_cons_zero, List.getElem?_cons_succ] at d1 d14
  have hl3 := B32.lt
  have hl4 := B42.lt
  clear B31 B32 B42 K2 hTR hz
  go_enter Tryz.func71, Tryz.ntmps71
  go_upto_region 1 with fail
  have HK := Lib.hid hk
  generalize aSp (shp P hd Q) = asp at d1
  try simp only [HB3.out]
  try rw [hW2]
  clear hW1 hW2 hb3
  go_wp2_with (first
      | ((with_reducible refine wpList_load_mid rfl _ (.tmp 8) rfl b3 2 rfl [.int .i64 hd.k0, .int .i64 hd.k1, .int .i64 hd.k2] _ ?_ Tryz.underlying57 rfl (by kernel_rfl) ?_)
         · exact HTR.out)
      | ((with_reducible refine wpList_store_S rfl (.tmp 5) (.tmp 10) rfl _ ⟨hd.k, hd.k0, hd.k1, hd.k2, []⟩ none 0 0 none 0 0 rfl rfl zS rfl ?_ ?_)
         · exact Blk.new _ _ _
         intro W kW bW
         have KW := Lib.hid kW
         have BW := Lib.hid bW
         clear kW bW))
  obtain ⟨n, hn⟩ : ∃ n, hd.ts.length = n := ⟨_, rfl⟩
  have hn3 : n ≤ 3 := by rw [← hn]; exact HK.out.tl
  rw [hn] at d14
  obtain ⟨W, hW⟩ : ∃ W, W2.alloc (.cells (arrS ⟨hd.k, hd.k0, hd.k1, hd.k2, []⟩ (.slice none 0 0) (.slice none 0 0)) 65) = W := ⟨_, rfl⟩
  have kWd : Kept Nil W2 W.drew := by rw [← hW]; exact ((Kept.refl _ _).alloc _).trans ((Kept.refl _ _).drew) (fun _ _ e => e)
  have B3d : Blk W.drew b3 62 (aSp (shp P hd Q)) := HB.out.1.kept kWd (fun e => e)
  have B4d : Blk W.drew (b3 + 1) 65 zS := HB.out.2.1.kept kWd (fun e => e)
  have B5d : Blk W.drew (b3 + 2) 65 (arrS ⟨hd.k, hd.k0, hd.k1, hd.k2, []⟩ (.slice none 0 0) (.slice none 0 0)) := by rw [← hW, ← HS2.out]; exact Blk.new _ _ _
  have sW : W.drew.heap.size = b3 + 3 := by rw [← hW]; show (W2.alloc _).heap.size = _; rw [World.size_alloc, HS2.out]
  have hlies := tests_at HK.out B3d
  rw [hn] at hlies
  obtain ⟨v9, w9, r9, o9, k9, _⟩ := RowD.append (P := Tryz.prog) (D := kT) elsT 63 (RowD.nil (D := kT) (e := 59) (B := W.drew.heap.size) W.drew) hlies (ok := fun _ _ => True) (fun _ _ => trivial) (by simp; omega) (Nat.le_refl _)
  rw [List.nil_append] at o9
  have K9 : Kept Nil W.drew w9 := k9.mono (fun i hi e => by simp [Value.ownBlock] at e)
  obtain ⟨a9, c9, rfl, hc9⟩ := o9.shape
  rw [hn] at r9 hc9
  have B39 := B3d.kept K9 (fun e => e)
  have B49 := B4d.kept K9 (fun e => e)
  have B59 := B5d.kept K9 (fun e => e)
  have S0 : Hid (STsp b3 (b3 + 2) n W.drew) := Lib.hid ⟨by rw [B5d.cell]; rfl, by rw [B3d.cell]; simp [aSp, shp, hn], B3d.lt, B5d.lt⟩
  have S2 : Hid (STsp b3 (b3 + 2) n w9) := Lib.hid ⟨by rw [B59.cell]; rfl, by rw [B39.cell]; simp [aSp, shp, hn], B39.lt, B59.lt⟩
  have g4 : w9.cell? ⟨b3 + 2, 4, none⟩ = some (.slice none 0 0) := S2.out.1
  have f4 := B59.frozen 4
  have l5 := B59.lt
  have B5z := B59.set_ 4 (.slice a9 n c9)
  have kS : Kept (fun z => z = b3 + 2) w9 (w9.setCell ⟨b3 + 2, 4, none⟩ (.slice a9 n c9)) := Kept.setCell (F := fun z => z = b3 + 2) (Kept.refl _ _) _ (.inl rfl) _
  have B3z := B39.kept kS (fun e => by omega)
  have B4z := B49.kept kS (fun e => by omega)
  have g1 := B3z.cell 1
  simp only [aSp, shp, List.getElem?_toArray, List.getElem?_cons_zero, List.getElem?_cons_succ] at g1
  have HB5z := Lib.hid B5z
  have HB4z := Lib.hid B4z
  have l3 := B3z.lt
  have l4 := B4z.lt
  have l5z := B5z.lt
  have hne : ((hd.k : Int) == 3) = true := by simp; exact H3.out
  have g0 := B3z.cell 0
  have gq := B3z.cell 15
  simp only [aSp, shp, List.getElem?_toArray, List.getElem?_cons_zero, List.getElem?_cons_succ] at g0 gq
  have HB3z := Lib.hid B3z
  have HK9 := Lib.hid (HB.out.2.2.trans (kWd.trans K9 (fun _ _ e => e)) (fun _ _ e => e))
  have HkS := Lib.hid kS
  have HTs := Lib.hid (o9.lies)
  have HO9 := Lib.hid o9.base
  have HOO := Lib.hid o9.2
  have HSW := Lib.hid sW
  have HC9 := Lib.hid hc9
  have HS9 := Lib.hid K9.size
  have HN := Lib.hid hn
  try rw [show W1.heap.size = b3 + 1 from s1]
  rw [hW]
  clear hW kWd B3d B4d B5d sW hlies o9 k9 K9 B39 B49 B59 B5z B3z B4z kS hn
  refine wp_region_lastL (STsp b3 (b3 + 2) n) (by simp) (by kernel_rfl) (by kernel_rfl) ?_
  simp only [List.dropLast, List.getLast]
  refine takeH (i := 0) (some 11) (.pointer (some ⟨b3 + 2, 4, none⟩)) rfl rfl (by kernel_rfl) (by kernel_rfl) (by kernel_rfl) (fun _ _ _ h => h) (by rfl) S0.out ?_ ?_
  · intro w hSw
    go_simp
  simp only [Act.put, List.setIfInBounds_toArray, List.set_cons_succ, List.set_cons_zero]
  refine takeH (i := 1) (some 12) (.slice none 0 0) rfl rfl (by kernel_rfl) (by kernel_rfl) (by kernel_rfl) (fun _ _ _ h => h) (by rfl) S0.out ?_ ?_
  · intro w hSw
    have h1 := hSw.1; have h2 := hSw.2.2.2; go_simp
  simp only [Act.put, List.setIfInBounds_toArray, List.set_cons_succ, List.set_cons_zero]
  refine takeH (i := 2) (some 13) (.pointer (some ⟨b3, 5, none⟩)) rfl rfl (by kernel_rfl) (by kernel_rfl) (by kernel_rfl) (fun _ _ _ h => h) (by rfl) S0.out ?_ ?_
  · intro w hSw
    go_simp
  simp only [Act.put, List.setIfInBounds_toArray, List.set_cons_succ, List.set_cons_zero]
  refine takeH (i := 3) (some 14) (.pointer (some ⟨b3, 14, none⟩)) rfl rfl (by kernel_rfl) (by kernel_rfl) (by kernel_rfl) (fun _ _ _ h => h) (by rfl) S0.out ?_ ?_
  · intro w hSw
    go_simp
  simp only [Act.put, List.setIfInBounds_toArray, List.set_cons_succ, List.set_cons_zero]
  refine takeH (i := 4) (some 15) (.int .i64 n) rfl rfl (by kernel_rfl) (by kernel_rfl) (by kernel_rfl) (fun _ _ _ h => h) (by rfl) S0.out ?_ ?_
  · intro w hSw
    have h1 := hSw.2.1; have h2 := hSw.2.2.1; go_simp
  simp only [Act.put, List.setIfInBounds_toArray, List.set_cons_succ, List.set_cons_zero]
  refine takeH (i := 5) (some 16) (.slice (some ⟨b3, 5, none⟩) n 3) rfl rfl (by kernel_rfl) (by kernel_rfl) (by kernel_rfl) (fun _ _ _ h => h) (by rfl) S0.out ?_ ?_
  · intro w hSw
    have h2 := hSw.2.2.1; clear hSw; rcases (by omega : n = 0 ∨ n = 1 ∨ n = 2 ∨ n = 3) with e | e | e | e <;> subst e <;> go_simp
  simp only [Act.put, List.setIfInBounds_toArray, List.set_cons_succ, List.set_cons_zero]
  refine wpAnyH_all (rs := [6]) (by kernel_rfl) (by decide) (forall_one ?_)
  refine wpOp_of rfl rfl (app_wp (some 17) rfl (.tmp 12) (.tmp 16) 63 63 rfl rfl (.slice none 0 0) _ rfl rfl r9 ⟨S2.out, ?_⟩)
  simp only [Act.put, List.setIfInBounds_toArray, List.set_cons_succ, List.set_cons_zero]
  refine takeH (i := 7) (some 18) (.pointer (some ⟨b3 + 2, 4, none⟩)) rfl rfl (by kernel_rfl) (by kernel_rfl) (by kernel_rfl) (fun _ _ _ h => h) (by rfl) S2.out ?_ ?_
  · intro w hSw
    go_simp
  simp only [Act.put, List.setIfInBounds_toArray, List.set_cons_succ, List.set_cons_zero]
  refine wpAnyH_done (by kernel_rfl) ?_ _
  refine store_wp rfl rfl ?_
  go_wp2_with fail
  have hkk0 : Kept Nil w (w9.setCell ⟨b3 + 2, 4, none⟩ (.slice a9 n c9)) := HK9.out.trans HkS.out (fun i hi e => by have := HB3.out; omega)
  have HKK0 := Lib.hid hkk0
  refine (CB.out _ hkk0).mono ?_
  rintro e w10 ⟨ab, cb, rfl, hb, k10⟩
  have HSB := Lib.hid hb
  have HK10 := Lib.hid k10
  have B510 := HB5z.out.kept k10 (fun e => e)
  have B410 := HB4z.out.kept k10 (fun e => e)
  have l510 := B510.lt
  have g55 := B510.cell 5
  have f55 := B510.frozen 5
  simp at g55
  have B511 := B510.set_ 5 (.slice ab nb cb)
  have kS2 : Kept (fun z => z = b3 + 2) w10 (w10.setCell ⟨b3 + 2, 5, none⟩ (.slice ab nb cb)) := Kept.setCell (F := fun z => z = b3 + 2) (Kept.refl _ _) _ (.inl rfl) _
  have HB511 := Lib.hid B511
  have HB411 := Lib.hid (B410.kept kS2 (fun e => by omega))
  have l411 := HB411.out.lt
  have l511 := B511.lt
  have HkS2 := Lib.hid kS2
  clear hb k10 B510 B410 B511 kS2 hkk0
  go_wp2_with (first
      | ((with_reducible refine wpList_load_S rfl (.tmp 5) rfl (b3 + 2) 0 rfl ⟨hd.k, hd.k0, hd.k1, hd.k2, []⟩ (.slice a9 n c9) (.slice ab nb cb) ?_ ?_)
         · exact World.rangeAt_of_block HB511.out 0 6)
      | ((with_reducible refine wpList_store_S rfl (.tmp 4) (.tmp 29) rfl (b3 + 1) ⟨hd.k, hd.k0, hd.k1, hd.k2, []⟩ a9 n c9 ab nb cb rfl rfl zS rfl ?_ ?_)
         · exact HB411.out
         intro W5 kW bW
         have KW := Lib.hid kW
         have BW := Lib.hid bW
         clear kW bW))
  refine bodyPost_ret (results_cell_row Tryz.results71 _ _ _ _ _ _ _ rfl BW.out Tryz.underlying65 rfl (by kernel_rfl)) rfl ?_
  have hkk : Kept (fun z => z = b3 + 2 ∨ z = b3 + 1) w9 W5 := (((HkS.out.mono (fun _ _ e => .inl e)).trans HK10.out (fun _ _ e => e.elim)).trans HkS2.out (fun _ _ e => .inl e)).trans KW.out (fun _ _ e => .inr e)
  have hkk2 : Kept (fun z => z = b3 + 2 ∨ z = b3 + 1) w10 W5 := (HkS2.out.mono (fun _ _ e => .inl e)).trans KW.out (fun _ _ e => .inr e)
  have sz9 : b3 + 3 ≤ w9.heap.size := by
    have h1 := HSW.out
    have h2 := HS9.out
    omega
  refine ⟨.slice a9 n c9, ab, cb, rfl, ?_, ?_, HK9.out.trans hkk (fun i hi e => by rcases e with e | e <;> have := HB3.out <;> omega)⟩
  · have hT := (show LiesD kT w9 (.slice a9 hd.ts.length c9) hd.ts from HTs.out).tsAt (ok := fun b o => b3 + 3 ≤ b ∧ b < w9.heap.size ∧ o = 0 ∧ Soft w9 b) (by rw [HN.out]; exact HC9.out) (fun b o e => by
      subst e
      obtain ⟨h1, h2, cs, h4⟩ := HO9.out b (by simp [Value.ownBlock])
      refine ⟨by rw [← HSW.out]; exact h1, h2, ?_, fun i => h4.frozen i⟩
      rcases HOO.out with ⟨e2, _⟩ | ⟨g, cap', cur, e2, _⟩
      · cases e2
      · cases e2; rfl)
    rw [HN.out] at hT
    exact (hT.kept hkk (fun b o e f => by have := e.1; omega)).mono (fun b o e => ⟨by have := e.1; have := HB3.out; omega, Nat.lt_of_lt_of_le e.2.1 hkk.size, e.2.2.1, e.2.2.2.kept hkk e.2.1 (fun f => by have := e.1; omega)⟩)
  · have hge : ∀ b o, okM (w9.setCell ⟨b3 + 2, 4, none⟩ (.slice a9 n c9)).heap.size w10 b o → b3 + 3 ≤ b := fun b o e => Nat.le_trans sz9 (Nat.le_trans HkS.out.size e.1)
    exact (HSB.out.kept hkk2 (fun b o e f => by have := hge b o e; omega)).mono (fun b o e => ⟨by have := hge b o e; have := HB3.out; omega, Nat.lt_of_lt_of_le e.2.1 hkk2.size, e.2.2.1, e.2.2.2.kept hkk2 e.2.1 (fun f => by have := hge b o e; omega)⟩)
end
end
section
open Go.RowKit Go.Maps Go.WideMaps
set_option maxRecDepth 100000

section
variable {w : World} {c : Nat → Nat} {p : Nat} {es : En} {U E : Nat → Int}
/-- What stands on the way to a chain that is there is there. -/
theorem pre_alive (ok : EsOK es) {d : List St} : ∀ {subs : List St}, fnd es (d ++ subs) ≠ 0 → ∀ j, fnd es (d ++ subs.take j) ≠ 0
  | subs, h, j => by
    by_cases hj : subs.length ≤ j
    · rw [List.take_of_length_le hj]; exact h
    · have key : ∀ m, m ≤ subs.length → fnd es (d ++ subs.take (subs.length - m)) ≠ 0 := fun m => by
        induction m with
        | zero => intro _; rw [Nat.sub_zero, List.take_length]; exact h
        | succ m ih =>
          intro hm
          have h1 := ih (by omega)
          obtain ⟨s, hs⟩ : ∃ s, subs[subs.length - (m + 1)]? = some s := ⟨_, List.getElem?_eq_getElem (by omega)⟩
          have h2 : subs.take (subs.length - m) = subs.take (subs.length - (m + 1)) ++ [s] := by
            rw [show subs.length - m = (subs.length - (m + 1)) + 1 by omega, List.take_add_one, hs]; rfl
          rw [h2, ← List.append_assoc] at h1
          exact (fnd_parent ok h1).1
      have := key (subs.length - j) (by omega)
      rwa [show subs.length - (subs.length - j) = j by omega] at this
/-- What a step's contract says. -/
def StepC (p : Nat) (es : En) (w : World) (s : St) : Prop := ∀ d', ent es (fnd es (d' ++ [s])) = some (d' ++ [s]) → ∀ W, Kept Nil w W → Calls Tryz.prog 71 #[.pointer (some ⟨p, 0, none⟩), .agg (aSp (shE es (d' ++ [s])))] W fun e w' => ∃ t a n cap, e = .returned (vS s.hd t (.slice a n cap)) ∧ TsAt w' (okM W.heap.size w') t s.hd.ts ∧ SHolds w' (okM W.heap.size w') (.slice a n cap) s.subs ∧ Kept Nil W w'
set_option maxHeartbeats 8000000 in
theorem between_any (ht : TE w c p es U E) (hes : es.length ≤ 4000) (d subs : List St) (ha : fnd es (d ++ subs) ≠ 0) (hsl : subs.length ≤ 1000) (ih : ∀ s ∈ subs, StepC p es w s) {n : Nat} (hn : subs.length = n)
    (CR : Hid (∀ W a cap (ps : List SQ), GB kS 65 W w.heap.size (.slice a n cap) ps → trS ps = subs.reverse → Kept Nil w W → Calls Tryz.prog 94 #[.slice a n cap] W fun e w' => e = .returned (.tuple #[]) ∧ SHolds w' (okM w.heap.size w') (.slice a n cap) subs ∧ Kept Nil w w')) :
    Calls Tryz.prog 85 #[.pointer (some ⟨p, 0, none⟩), .int .i64 (fnd es d : Nat), .int .i64 (fnd es (d ++ subs) : Nat)] w fun e w' => ∃ a cap, e = .returned (.slice a n cap) ∧ SHolds w' (okM w.heap.size w') (.slice a n cap) subs ∧ Kept Nil w w' := by
  have HT := Lib.hid ht
  have HIH := Lib.hid ih
  have HA := Lib.hid ha
  have HN := Lib.hid hn
  have hlt := fnd_lt (es := es) (c := d)
  have hlt2 := fnd_lt (es := es) (c := d ++ subs)
  have hnb : n ≤ 1000 := by omega
  obtain ⟨f0, hf0⟩ : ∃ f0, fnd es d = f0 := ⟨_, rfl⟩
  obtain ⟨f1, hf1⟩ : ∃ f1, fnd es (d ++ subs) = f1 := ⟨_, rfl⟩
  have HF0 := Lib.hid hf0
  have HF1 := Lib.hid hf1
  rw [hf0] at hlt ⊢
  rw [hf1] at hlt2 ⊢
  clear ht ih ha hn hf0 hf1 hsl
  go_enter Tryz.func85, Tryz.ntmps85
  go_wp2_with fail
  go_loopw [7, 8] (fun v i wr => ∃ (j : Nat) (a2 : Option Addr) (n2 c2 f : Nat) (ps : List SQ), j ≤ n ∧ i = .int .i64 f ∧ f = fnd es (d ++ subs.take (n - j)) ∧ v = .slice a2 n2 c2 ∧ GB kS 65 wr w.heap.size (.slice a2 n2 c2) ps ∧ trS ps = (subs.drop (n - j)).reverse ∧ Kept Nil w wr) (fun _ i _ => (intOf i).toNat)
  case atStart => exact ⟨0, none, 0, 0, f1, [], Nat.zero_le _, rfl, by rw [Nat.sub_zero, ← HN.out, List.take_length]; exact HF1.out.symm, rfl, GB.nil _, by rw [Nat.sub_zero, ← HN.out, List.drop_length]; rfl, Kept.refl _ _⟩
  case round =>
    obtain ⟨j, a2, n2, c2, f, ps, hj, rfl, hf, rfl, hg, hps, hK⟩ := hrel
    have HG := Lib.hid hg
    have HPS := Lib.hid hps
    have HK := Lib.hid hK
    have HF := Lib.hid hf
    by_cases hlt3 : j < n
    · have hok := HT.out.ok
      have hal := pre_alive hok HA.out (n - j)
      obtain ⟨s, hs⟩ : ∃ s, subs[n - j - 1]? = some s := ⟨_, List.getElem?_eq_getElem (by have := HN.out; omega)⟩
      have htk : subs.take (n - j) = subs.take (n - (j + 1)) ++ [s] := by
        rw [show n - j = (n - (j + 1)) + 1 by omega, List.take_add_one, show n - (j + 1) = n - j - 1 by omega, hs]; rfl
      have hch : d ++ subs.take (n - j) = (d ++ subs.take (n - (j + 1))) ++ [s] := by rw [htk, List.append_assoc]
      rw [hch] at hf hal
      have hpar := fnd_parent hok hal
      have hne : f ≠ f0 := fun e => by
        have h1 := HF0.out
        rw [← e, hf] at h1
        have := fnd_inj hok h1.symm (by omega)
        have h2 := congrArg List.length this
        simp at h2
      have e1 : ((f : Int) != (f0 : Int)) = true := bne_iff_ne.2 (by omega)
      have hent := (ent_fnd hok).2 ⟨hal, rfl⟩
      have hbnd : f ≤ 4611686018427387904 := by rw [hf]; have := fnd_lt (es := es) (c := d ++ subs.take (n - (j + 1)) ++ [s]); omega
      obtain ⟨bn, v, d0, hlk, _, hv⟩ := (HT.out.keptN hK).lookV (n := f) hbnd
      rw [hf, hent] at hv
      have hsp : v.sp = shE es (d ++ subs.take (n - (j + 1)) ++ [s]) := hv.sp
      have hfs := fieldSp v
      rw [hsp] at hfs
      have hp0 := (HT.out.keptN hK).lt
      have CS := Lib.hid (HIH.out s (List.mem_of_getElem? hs) _ hent wr hK)
      have HBD := Lib.hid hbnd
      have hpn : parN es f = fnd es (d ++ subs.take (n - (j + 1))) := by
        unfold parN
        rw [hf, hent]
        exact parE_snoc es _ s
      have HPN := Lib.hid hpn
      have hpl : ps.length = j := by
        have := congrArg List.length hps
        rw [trS_len, List.length_reverse, List.length_drop] at this
        have := HN.out
        omega
      have HPL := Lib.hid hpl
      have HPAR := Lib.hid hpar
      have HFF := Lib.hid hf
      have HPS2 := Lib.hid (show (subs.drop (n - (j + 1))).reverse = (subs.drop (n - j)).reverse ++ [s] by
        have : subs.drop (n - (j + 1)) = s :: subs.drop (n - j) := by
          rw [show n - j = (n - (j + 1)) + 1 by omega]
          exact (List.drop_eq_getElem?_toList_append (l := subs) (i := n - (j + 1))).trans (by rw [show n - (j + 1) = n - j - 1 by omega, hs]; rfl)
        rw [this, List.reverse_cons])
      obtain ⟨sh, hsh⟩ : ∃ sh, aSp (shE es (d ++ subs.take (n - (j + 1)) ++ [s])) = sh := ⟨_, rfl⟩
      rw [hsh] at hfs CS
      generalize aN v = av at *
      clear hg hps hK hf hal hs htk hch hpar hne hent hv hsp hpn hpl hsh
      go_wp2_with fail
      refine CS.out.mono ?_
      rintro e w5 ⟨t5, a5, n5, c5, rfl, ht5, hs5, k5⟩
      obtain ⟨ta, tc', rfl, _⟩ := ht5.shape
      have hokn : ∀ b o, okM wr.heap.size w5 b o → okN w.heap.size w5 (.slice a2 n2 c2) b o := fun b o e => ⟨e.less HK.out.size, fun f => by have := HG.out.lt b f; have := e.1; omega⟩
      obtain ⟨a6, n6, c6, w6, hrun, hG6, k6⟩ := GB.append_one (P := Tryz.prog) (t := 44) elsS 44 (HG.out.kept k5) (s, .slice ta s.hd.ts.length tc', .slice a5 n5 c5) (arrS s.hd (.slice ta s.hd.ts.length tc') (.slice a5 n5 c5)) rfl 65 ⟨ht5.mono hokn, hs5.mono hokn⟩ (by have := HPL.out; omega) (Nat.le_trans HK.out.size k5.size)
      have K6 := Lib.hid ((HK.out.trans k5 (fun _ _ e => e)).trans k6 (fun i hi e => by have := HG.out.base i e; omega))
      have HG6 := Lib.hid hG6
      obtain ⟨tn, htn⟩ : ∃ tn, s.hd.ts.length = tn := ⟨_, rfl⟩
      rw [htn] at hrun ⊢
      clear ht5 hs5 k5 hokn hG6 k6 htn
      go_wp2_with (refine wpList_append_run rfl (.tmp 16) (.tmp 26) 44 rfl (.slice a2 n2 c2) (.slice (some ⟨w5.heap.size, 0, none⟩) 1 1) rfl rfl (v' := .slice a6 n6 c6) (w' := w6) (by with_reducible exact hrun) ?_)
      refine (parent_any (HT.out.keptN K6.out) (n := f) HBD.out).mono ?_
      rintro e w7 ⟨rfl, rfl⟩
      obtain ⟨f', hf'⟩ : ∃ f', parN es f = f' := ⟨_, rfl⟩
      have HFP := Lib.hid hf'
      rw [hf']
      clear hf'
      go_wp2_with fail
      go_roundw
      case rel => exact ⟨j + 1, a6, n6, c6, f', _, hlt3, rfl, by rw [← HFP.out]; exact HPN.out, rfl, HG6.out, by rw [trS_append, HPS.out, HPS2.out]; rfl, K6.out⟩
      case measure =>
        have h1 := HPAR.out.2
        have h2 := HPN.out
        have h3 := HFF.out
        have h4 := HFP.out
        simp [intOf]; omega
    · obtain rfl : j = n := by omega
      rw [Nat.sub_self, List.take_zero, List.append_nil, HF0.out] at hf
      rw [Nat.sub_self, List.drop_zero] at hps
      have hpl : ps.length = j := by
        have := congrArg List.length hps
        rw [trS_len, List.length_reverse] at this
        have := HN.out
        omega
      have hn2 : n2 = j := by
        obtain ⟨a0, c0, e0, _⟩ := hg.shape
        injection e0 with _ e0
        omega
      subst hn2
      have CRR := Lib.hid (CR.out wr a2 c2 ps hg hps hK)
      have e1 : ((f : Int) != (f0 : Int)) = false := by rw [hf]; simp
      clear hg hps hK hf hpl
      go_wp2_with fail
      refine CRR.out.mono ?_
      rintro e w5 ⟨rfl, hs5, k5⟩
      have H5 := Lib.hid (And.intro hs5 k5)
      clear hs5 k5 CRR
      go_wp2_with fail
      go_ret
      exact ⟨a2, c2, rfl, H5.out.1, H5.out.2⟩
end
end
end Go.Proofs.YtljefbfjehblpaaGreat
