/- The document's own store: one memory turned; Put, Take. -/
import Derived.Test.YthiijlngoikhkaaORefP
namespace Go.Proofs.Ythiijlngoikhkaa
open Go.RowKit Go.Maps
set_option maxRecDepth 100000

section
variable {w w' : World} {G : Nat → Prop} {q : Nat} {a : Option Addr} {c : Nat} {LV : List (Mem × Value)} {L : List Mem}
theorem RSv.wider {G' : Nat → Prop} (h : RSv w G q a c LV) (h1 : ∀ b, G b → G' b) (h2 : ∀ b, G' b → b < w.heap.size) : RSv w G' q a c LV :=
  ⟨h2, h1 _ h.gq, h.here, h.row, fun b hb => h1 _ (h.grow b hb), fun x hx => ⟨(h.has x hx).1, fun b hb => h1 _ ((h.has x hx).2 b hb)⟩, h.keys⟩
theorem RSv.apart {g : Nat} (h : RSv w G q (some ⟨g, 0, none⟩) c LV) : q ≠ g ∧ ∀ {u : Value} {l : List Int}, Row cN 3 1 w 0 u l → ∀ b, u.ownBlock = some b → b ≠ g := by
  obtain ⟨cur, hg⟩ := h.row.block (k := g) rfl
  refine ⟨fun e => ?_, fun hr b hb e => ?_⟩
  · have := h.here
    unfold Blk at this
    rw [e, hg] at this
    injection this with this
    injection this with _ h2 _
    exact absurd h2 (by decide)
  · obtain ⟨cur', hb'⟩ := hr.block hb
    rw [e, hg] at hb'
    injection hb' with hb'
    injection hb' with _ h2 _
    exact absurd h2 (by decide)
theorem RSv.turn {g i j : Nat} {x y : Mem × Value} {u : Value} (h : RSv w G q (some ⟨g, 0, none⟩) c LV) (hi : LV[i]? = some x) (hj : j < 5) (hy : cM y = (cM x).set j u) (hk : y.1.key = x.1.key) (hh : Row cN 3 1 w 0 y.2 y.1.has ∧ ∀ b, y.2.ownBlock = some b → G b) :
    RSv (w.setCell ⟨g, i * 5 + j, none⟩ u) G q (some ⟨g, 0, none⟩) c (LV.set i y) ∧ Kept G w (w.setCell ⟨g, i * 5 + j, none⟩ u) := by
  obtain ⟨hqg, hrg⟩ := h.apart
  have hgg : G g := h.grow g rfl
  have kk : Kept (fun k => k = g) w (w.setCell ⟨g, i * 5 + j, none⟩ u) := (Kept.refl (fun k => k = g) w).setCell ⟨g, i * 5 + j, none⟩ (.inl rfl) u
  refine ⟨⟨fun b hb => Nat.lt_of_lt_of_le (h.inG b hb) kk.size, h.gq, ?_, ?_, ?_, fun z hz => ?_, ?_⟩, kk.mono (fun b _ e => e ▸ hgg)⟩
  · rw [List.length_set]
    exact h.here.kept kk hqg
  · rw [List.length_set]
    have := (h.row.stored (i * 5 + j) u).1
    rw [flat_set cM_len LV i j x y hi hj hy] at this
    show World.ownsRow _ _ _ _ _ (LV.set i y).length _
    rw [List.length_set]
    exact this
  · rw [List.length_set]; exact h.grow
  · rcases List.mem_or_eq_of_mem_set hz with hz | rfl
    · obtain ⟨h1, h2⟩ := h.has z hz
      exact ⟨h1.keptF kk (fun b hb e => hrg h1 b hb e), h2⟩
    · exact ⟨hh.1.keptF kk (fun b hb e => hrg hh.1 b hb e), hh.2⟩
  · have : keysL ((LV.set i y).map Prod.fst) = keysL (LV.map Prod.fst) := by
      unfold keysL
      rw [List.map_map, List.map_map]
      apply List.ext_getElem?
      intro n
      rw [List.getElem?_map, List.getElem?_map, List.getElem?_set]
      by_cases e : i = n
      · subst e
        have hil := (List.getElem?_eq_some_iff.1 hi).1
        rw [if_pos rfl, if_pos hil, hi]
        show some y.1.key = some x.1.key
        rw [hk]
      · rw [if_neg e]
    rw [this]; exact h.keys
theorem set_upd {i : Nat} {x y : Mem × Value} {k : T3} (hn : (keysL (LV.map Prod.fst)).Nodup) (hi : LV[i]? = some x) (hk : x.1.key = k) {f : Mem → Mem} (hf : f x.1 = y.1) : (LV.set i y).map Prod.fst = upd (LV.map Prod.fst) k f := by
  rw [← hk, upd_set hn (i := i) (m := x.1) (by rw [List.getElem?_map, hi]; rfl), hf, List.map_set]
/-- A truth as a number. -/
def oneI (b : Bool) : Int := if b then 1 else 0
/-- What a call on the document's store leaves. -/
def RGrew (w w' : World) (G : Nat → Prop) (q : Nat) (L : List Mem) : Prop := ∃ G', RS w' G' q L ∧ (∀ k, G' k → G k ∨ w.heap.size ≤ k) ∧ Kept G w w'
theorem RGrew.same (h : RS w G q L) (k : Kept Nil w w') : RGrew w w' G q L := ⟨G, h.keptN k, fun _ e => .inl e, k.mono (fun _ _ e => e.elim)⟩

set_option maxHeartbeats 8000000 in
theorem putR_any (h : RSv w G q a c LV) (k : T3) (x : Int) (hl : LV.length ≤ 100000) (hf : Few (LV.map Prod.fst) 900) :
    Calls Try.prog 15 #[.pointer (some ⟨q, 0, none⟩), av k, .int .i64 x] w fun e w' => e = .returned (.int .i64 (oneI (canPut (LV.map Prod.fst) k x))) ∧ RGrew w w' G q (putL (LV.map Prod.fst) k x) := by
  have H0 := Lib.hid h
  have H1 := Lib.hid (h.keptN ((Kept.refl Nil w).alloc (.cells #[.int .i64 k.1, .int .i64 k.2.1, .int .i64 k.2.2] 30)))
  have K1 := Lib.hid ((Kept.refl Nil w).alloc (.cells #[.int .i64 k.1, .int .i64 k.2.1, .int .i64 k.2.2] 30))
  have ⟨b0, b1, b2⟩ := B3.new w 30 k
  have HF := Lib.hid hf
  clear h hf
  go_enter Try.func15, Try.ntmps15
  go_wp2_with fail
  refine (findR_any H1.out k hl).mono ?_
  rintro e w2 ⟨r, rfl, hr, k2⟩
  have H2 := Lib.hid (H1.out.keptN k2)
  have K2 := Lib.hid (K1.out.trans k2 (fun _ _ e => e))
  rcases hr.cases (by rw [List.length_map]; exact hl) with ⟨rfl, hm⟩ | ⟨i, m, rfl, hi5, hi, hm⟩
  · have e1 := Lib.hid (show canPut (LV.map Prod.fst) k x = false by unfold canPut; rw [hm])
    clear hr hm k2 b0 b1 b2
    go_wp2_with fail
    go_ret
    rw [e1.out, putL_no H2.out.keys e1.out]
    exact ⟨rfl, RGrew.same ⟨a, c, LV, rfl, H0.out⟩ K2.out⟩
  · have hi' := hi
    rw [List.getElem?_map] at hi'
    obtain ⟨x0, hx0, e⟩ := Option.map_eq_some_iff.1 hi'
    obtain ⟨g, rfl, hg, p0, p1, p2, p3, p4⟩ := H2.out.cells hx0
    have hil := (List.getElem?_eq_some_iff.1 hx0).1
    have c0 := H2.out.here.cell 0
    simp at c0
    obtain ⟨hro, hgo⟩ := H2.out.has x0 (List.mem_of_getElem? hx0)
    obtain ⟨a', c', hsh⟩ := hro.shape
    rw [hsh] at p4 hro hgo
    have hfl := HF.out _ (List.mem_of_getElem? hi)
    rw [← e] at hfl
    obtain ⟨⟨mk, mn, mh⟩, u⟩ := x0
    simp only at p4 hro hgo hsh hfl e
    subst hsh
    have HX := Lib.hid (And.intro hx0 (And.intro hm e))
    have HRO := Lib.hid (And.intro hro hgo)
    have HIN := Lib.hid (hro.toIn cN_len (by decide))
    generalize hnn : LV.length = n at *
    generalize hmm : mh.length = n2 at *
    have HNN := Lib.hid hnn
    clear hr hm k2 b0 b1 b2 hi hi' e hx0 p0 p1 p2 p3 hro hgo hnn hmm
    go_wp2_with fail
    refine (hasR_any HIN.out x (by omega)).mono ?_
    rintro e w3 ⟨rfl, k3⟩
    have H3 := Lib.hid (H2.out.keptN k3)
    have K3 := Lib.hid (K2.out.trans k3 (fun _ _ e => e))
    by_cases hx : x ∈ mh
    · have e1 := Lib.hid (show canPut (LV.map Prod.fst) k x = false by unfold canPut; rw [HX.out.2.1, ← HX.out.2.2]; simpa using hx)
      rw [decide_eq_true hx]
      clear hx
      go_wp2_with fail
      go_ret
      rw [e1.out, putL_no H2.out.keys e1.out]
      exact ⟨rfl, RGrew.same ⟨_, c, LV, rfl, H0.out⟩ K3.out⟩
    · have e1 := Lib.hid (show canPut (LV.map Prod.fst) k x = true by unfold canPut; rw [HX.out.2.1, ← HX.out.2.2]; simpa using hx)
      rw [decide_eq_false hx]
      have HPX := Lib.hid (put_out hx)
      have c3 := (k3.cell (p := ⟨q, 0, none⟩) (H2.out.here.lt) (fun e => e)).trans c0
      have p43 := (k3.cell (p := ⟨g, i * 5 + 4, none⟩) hg (fun e => e)).trans p4
      have hg3 : g < w3.heap.size := Nat.lt_of_lt_of_le hg k3.size
      have HPI := Lib.hid (putI_any (w := w3.drew) (c := c') ((HIN.out.kept k3).kept ((Kept.refl Nil w3).drew)) x (by omega))
      have HZ := Lib.hid (show ∀ w8, Kept Nil w3.drew w8 → w8.cell? ⟨q, 0, none⟩ = some (.slice (some ⟨g, 0, none⟩) n c) ∧ w8.cell? ⟨g, i * 5 + 4, none⟩ = some (.slice a' n2 c') ∧ w8.frozen? ⟨g, i * 5 + 4, none⟩ = false from fun w8 k8 => ⟨(k8.cell (p := ⟨q, 0, none⟩) (H3.out.here.lt) (fun e => e)).trans c3, (k8.cell (p := ⟨g, i * 5 + 4, none⟩) hg3 (fun e => e)).trans p43, by
        have := ((H3.out.keptN ((Kept.refl Nil w3).drew)).keptN k8).free (i * 5 + 4)
        exact this⟩)
      obtain ⟨z0, z1, z2⟩ := HZ.out w3.drew (Kept.refl _ _)
      clear k3 hx c0 p4 c3 p43
      go_upto_region 4 with fail
      go_region_law (first
        | (go_simp; go_at_call 37; (with_reducible refine HPI.out.mono ?_); rintro e w8 ⟨a8, c8, rfl, row8, k8⟩; obtain ⟨y0, y1, y2⟩ := HZ.out w8 k8))
      all_goals
        have G8 := Lib.hid (And.intro row8 k8)
        clear row8 k8
        go_wp2_with fail
        go_ret
        rw [e1.out]
        have hsz : w3.drew.heap.size = w3.heap.size := rfl
        have R8 := (H3.out.keptN ((Kept.refl Nil w3).drew)).keptN G8.out.2
        have K8 : Kept Nil w w8 := K3.out.trans (((Kept.refl Nil w3).drew).trans G8.out.2 (fun _ _ e => e)) (fun _ _ e => e)
        have R9 := R8.wider (G' := Fup G w w8) (fun b hb => .inl hb) (fun b hb => hb.elim (R8.inG b) (·.2))
        obtain ⟨t1, t2⟩ := R9.turn (y := (⟨mk, mn, ins x mh⟩, .slice a8 (ins x mh).length c8)) HX.out.1 (j := 4) (by decide) rfl rfl ⟨G8.out.1.down (Nat.zero_le _), fun b hb => .inr ⟨Nat.le_trans K3.out.size (G8.out.1.lt b hb).1, (G8.out.1.lt b hb).2⟩⟩
        refine ⟨rfl, Fup G w w8, ⟨_, _, _, ?_, t1⟩, fun b hb => hb.imp id (·.1), (K8.mono (fun _ _ e => e.elim)).trans t2 (fun b hb e => e.elim id (fun e => absurd hb (Nat.not_lt.2 e.1)))⟩
        exact set_upd H3.out.keys HX.out.1 (by have := HX.out.2.2; rw [← (mem_some HX.out.2.1).2, ← this]) (by show (⟨mk, mn, put mh x⟩ : Mem) = ⟨mk, mn, ins x mh⟩; rw [HPX.out])

set_option maxHeartbeats 8000000 in
theorem takeR_any (h : RSv w G q a c LV) (k : T3) (x : Int) (hl : LV.length ≤ 100000) (hf : Few (LV.map Prod.fst) 900) :
    Calls Try.prog 16 #[.pointer (some ⟨q, 0, none⟩), av k, .int .i64 x] w fun e w' => e = .returned (.int .i64 (oneI (canTake (LV.map Prod.fst) k x))) ∧ RGrew w w' G q (takeL (LV.map Prod.fst) k x) := by
  have H0 := Lib.hid h
  have H1 := Lib.hid (h.keptN ((Kept.refl Nil w).alloc (.cells #[.int .i64 k.1, .int .i64 k.2.1, .int .i64 k.2.2] 30)))
  have K1 := Lib.hid ((Kept.refl Nil w).alloc (.cells #[.int .i64 k.1, .int .i64 k.2.1, .int .i64 k.2.2] 30))
  have ⟨b0, b1, b2⟩ := B3.new w 30 k
  have HF := Lib.hid hf
  clear h hf
  go_enter Try.func16, Try.ntmps16
  go_wp2_with fail
  refine (findR_any H1.out k hl).mono ?_
  rintro e w2 ⟨r, rfl, hr, k2⟩
  have H2 := Lib.hid (H1.out.keptN k2)
  have K2 := Lib.hid (K1.out.trans k2 (fun _ _ e => e))
  rcases hr.cases (by rw [List.length_map]; exact hl) with ⟨rfl, hm⟩ | ⟨i, m, rfl, hi5, hi, hm⟩
  · have e1 := Lib.hid (show canTake (LV.map Prod.fst) k x = false by unfold canTake; rw [hm])
    clear hr hm k2 b0 b1 b2
    go_wp2_with fail
    go_ret
    rw [e1.out, takeL_no H2.out.keys e1.out]
    exact ⟨rfl, RGrew.same ⟨a, c, LV, rfl, H0.out⟩ K2.out⟩
  · have hi' := hi
    rw [List.getElem?_map] at hi'
    obtain ⟨x0, hx0, e⟩ := Option.map_eq_some_iff.1 hi'
    obtain ⟨g, rfl, hg, p0, p1, p2, p3, p4⟩ := H2.out.cells hx0
    have hil := (List.getElem?_eq_some_iff.1 hx0).1
    have c0 := H2.out.here.cell 0
    simp at c0
    obtain ⟨hro, hgo⟩ := H2.out.has x0 (List.mem_of_getElem? hx0)
    obtain ⟨a', c', hsh⟩ := hro.shape
    rw [hsh] at p4 hro hgo
    have hfl := HF.out _ (List.mem_of_getElem? hi)
    rw [← e] at hfl
    obtain ⟨⟨mk, mn, mh⟩, u⟩ := x0
    simp only at p4 hro hgo hsh hfl e
    subst hsh
    have HX := Lib.hid (And.intro hx0 (And.intro hm e))
    have HIN := Lib.hid (hro.toIn cN_len (by decide))
    generalize hnn : LV.length = n at *
    generalize hmm : mh.length = n2 at *
    have HMM := Lib.hid hmm
    clear hr hm k2 b0 b1 b2 hi hi' e hx0 p0 p1 p2 p3 hro hgo hnn hmm
    go_wp2_with fail
    refine (hasR_any HIN.out x (by omega)).mono ?_
    rintro e w3 ⟨rfl, k3⟩
    have H3 := Lib.hid (H2.out.keptN k3)
    have K3 := Lib.hid (K2.out.trans k3 (fun _ _ e => e))
    by_cases hx : x ∈ mh
    rotate_left
    · have e1 := Lib.hid (show canTake (LV.map Prod.fst) k x = false by unfold canTake; rw [HX.out.2.1, ← HX.out.2.2]; simpa using hx)
      rw [decide_eq_false hx]
      clear hx
      go_wp2_with fail
      go_ret
      rw [e1.out, takeL_no H2.out.keys e1.out]
      exact ⟨rfl, RGrew.same ⟨_, c, LV, rfl, H0.out⟩ K3.out⟩
    · have e1 := Lib.hid (show canTake (LV.map Prod.fst) k x = true by unfold canTake; rw [HX.out.2.1, ← HX.out.2.2]; simpa using hx)
      rw [decide_eq_true hx]
      have c3 := (k3.cell (p := ⟨q, 0, none⟩) (H2.out.here.lt) (fun e => e)).trans c0
      have p43 := (k3.cell (p := ⟨g, i * 5 + 4, none⟩) hg (fun e => e)).trans p4
      have hg3 : g < w3.heap.size := Nat.lt_of_lt_of_le hg k3.size
      have HIN3 := Lib.hid (HIN.out.kept k3)
      have HQ := Lib.hid (H3.out.here.lt)
      clear k3 hx c0 p4
      go_wp2_with fail
      go_loopw [8, 38] (fun v i' wr => ∃ (j k' : Nat) (T : List Int) (a5 : Option Addr) (c5 : Nat), j ≤ n2 ∧ i' = .int .i64 j ∧ v = .slice a5 k' c5 ∧ T = del x (mh.take j) ∧ T.length = k' ∧ k' ≤ j ∧ Row cN 3 1 wr w3.heap.size (.slice a5 k' c5) T ∧ Kept Nil w3 wr) (fun _ i' _ => n2 - (intOf i').toNat)
      case atStart => exact ⟨0, 0, [], none, 0, Nat.zero_le _, rfl, rfl, rfl, rfl, Nat.le_refl _, Row.nil _ _, Kept.refl _ _⟩
      case round =>
        obtain ⟨j, k', T, a5, c5, hj, rfl, rfl, hT, hk', hkj, hR, hK⟩ := hrel
        have HR := Lib.hid hR
        have HK := Lib.hid hK
        have HT := Lib.hid (And.intro hT hk')
        clear hR hK hT hk'
        by_cases hjn : j < n2
        · obtain ⟨y, hy⟩ : ∃ y, mh[j]? = some y := ⟨mh[j]'(by rw [HMM.out]; exact hjn), by simp⟩
          obtain ⟨b, o, e, hb, p0⟩ := (HIN3.out.kept HK.out).one hy
          subst e
          have hds : del x (mh.take (j + 1)) = del x (mh.take j) ++ if y ≠ x then [y] else [] := by
            rw [List.take_add_one, hy]
            unfold del
            rw [List.filter_append]
            congr 1
            by_cases e : y = x <;> simp [e]
          have HDS := Lib.hid hds
          clear hy hds
          by_cases hyx : y = x
          · have hne : (y != x) = false := by simpa using hyx
            have HD2 := Lib.hid (show del x (mh.take (j + 1)) = T from by rw [HDS.out, if_neg (by simpa using hyx), List.append_nil, HT.out.1])
            clear hyx
            go_wp2_with fail
            go_roundw
            case rel => exact ⟨j + 1, k', T, a5, c5, hjn, by go_num, rfl, HD2.out.symm, HT.out.2, by omega, HR.out, HK.out⟩
            case measure => simp [intOf]; omega
          · have hne : (y != x) = true := by simpa using hyx
            have HD2 := Lib.hid (show del x (mh.take (j + 1)) = T ++ [y] from by rw [HDS.out, if_pos hyx, HT.out.1])
            obtain ⟨a2, c2, w5, r5, row5, kk5⟩ := HR.out.pushB elsN cN_len cN_one 59 HT.out.2.symm (by rw [HT.out.2]; omega) HK.out.size y #[.int .i64 y] rfl
            have R5 := Lib.hid r5
            have H5 := Lib.hid (And.intro row5 (HK.out.trans kk5 (fun i hi e => absurd hi (Nat.not_lt.2 e))))
            clear r5 row5 kk5 hyx
            go_wp2_with (at_builtin; refine wpList_append_run rfl (.tmp 45) (.tmp 47) 59 rfl _ _ rfl rfl R5.out ?_)
            go_roundw
            case rel => exact ⟨j + 1, k' + 1, _, a2, c2, hjn, by go_num, rfl, HD2.out.symm, by rw [List.length_append, HT.out.2]; rfl, by omega, H5.out.1, H5.out.2⟩
            case measure => simp [intOf]; omega
        · obtain rfl : n2 = j := by omega
          have hTT : T = del x mh := by have := HT.out.1; rwa [List.take_of_length_le (by rw [HMM.out]; exact Nat.le_refl _)] at this
          have HTT := Lib.hid hTT
          have y0 := (HK.out.cell (p := ⟨q, 0, none⟩) HQ.out (fun e => e)).trans c3
          have y1 := (HK.out.cell (p := ⟨g, i * 5 + 4, none⟩) hg3 (fun e => e)).trans p43
          have y2 : wr.frozen? ⟨g, i * 5 + 4, none⟩ = false := (H3.out.keptN HK.out).free (i * 5 + 4)
          clear hTT
          go_wp2_with fail
          go_ret
          rw [e1.out]
          have R8 := H3.out.keptN HK.out
          have K8 : Kept Nil w wr := K3.out.trans HK.out (fun _ _ e => e)
          have R9 := R8.wider (G' := Fup G w wr) (fun b hb => .inl hb) (fun b hb => hb.elim (R8.inG b) (·.2))
          have hk2 := HT.out.2
          rw [HTT.out] at hk2
          have HR2 := HR.out
          rw [HTT.out] at HR2
          obtain ⟨t1, t2⟩ := R9.turn (y := (⟨mk, mn, del x mh⟩, .slice a5 k' c5)) HX.out.1 (j := 4) (by decide) rfl rfl ⟨HR2.down (Nat.zero_le _), fun b hb => .inr ⟨Nat.le_trans K3.out.size (HR2.lt b hb).1, (HR2.lt b hb).2⟩⟩
          refine ⟨rfl, Fup G w wr, ⟨_, _, _, ?_, t1⟩, fun b hb => hb.imp id (·.1), (K8.mono (fun _ _ e => e.elim)).trans t2 (fun b hb e => e.elim id (fun e => absurd hb (Nat.not_lt.2 e.1)))⟩
          exact set_upd H3.out.keys HX.out.1 (by have := HX.out.2.2; rw [← (mem_some HX.out.2.1).2, ← this]) rfl
end
end Go.Proofs.Ythiijlngoikhkaa
