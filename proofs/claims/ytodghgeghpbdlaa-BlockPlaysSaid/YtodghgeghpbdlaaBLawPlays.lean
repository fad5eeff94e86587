/- Layer block: the law BlockPlays, whatever it is called with. -/
import Derived.Test.YtodghgeghpbdlaaBPair
import Derived.Deep.CutBlock
import Derived.Deep.DeepCutAuto
import Derived.Deep.RegionHeld3
namespace Go.Proofs.Ytodghgeghpbdlaa
open Go.RowKit Go.Maps Go.WideMaps
set_option maxRecDepth 100000

def cOa (kd : Int) (k : ByteArray) (v : Int) : Array Value := #[.int .i64 kd, .string k, .int .i64 v]
/-- What the appends' regions read. -/
def SAp (b6 q off : Nat) (k : ByteArray) (v : Int) (sl : Value) (W : World) : Prop := W.cell? ⟨b6, 1, none⟩ = some (.string k) ∧ W.cell? ⟨b6, 2, none⟩ = some (.int .i64 v) ∧ W.cell? ⟨q, off, none⟩ = some sl
/-- What the law's comparison reads, and what stays. -/
abbrev SS (W0 : World) (b6 q : Nat) (k : ByteArray) (v : Int) (s1 s2 : Value) (W : World) : Prop := W.cell? ⟨b6, 1, none⟩ = some (.string k) ∧ W.cell? ⟨b6, 2, none⟩ = some (.int .i64 v) ∧ W.cell? ⟨q, 0, none⟩ = some s1 ∧ W.cell? ⟨q, 1, none⟩ = some s2 ∧ Kept Nil W0 W
theorem SS.kept {W0 W W' : World} {b6 q : Nat} {k : ByteArray} {v : Int} {s1 s2 : Value} (h : SS W0 b6 q k v s1 s2 W) (kk : Kept Nil W W') : SS W0 b6 q k v s1 s2 W' :=
  ⟨(kk.cell (p := ⟨b6, 1, none⟩) (World.block_lt_of_cell? _ _ h.1) (fun e => e)).trans h.1, (kk.cell (p := ⟨b6, 2, none⟩) (World.block_lt_of_cell? _ _ h.2.1) (fun e => e)).trans h.2.1, (kk.cell (p := ⟨q, 0, none⟩) (World.block_lt_of_cell? _ _ h.2.2.1) (fun e => e)).trans h.2.2.1, (kk.cell (p := ⟨q, 1, none⟩) (World.block_lt_of_cell? _ _ h.2.2.2.1) (fun e => e)).trans h.2.2.2.1, h.2.2.2.2.trans kk (fun _ _ e => e)⟩
theorem SS.drew {W0 W : World} {b6 q : Nat} {k : ByteArray} {v : Int} {s1 s2 : Value} (h : SS W0 b6 q k v s1 s2 W) : SS W0 b6 q k v s1 s2 W.drew := ⟨h.1, h.2.1, h.2.2.1, h.2.2.2.1, h.2.2.2.2.drew⟩
set_option maxHeartbeats 16000000 in
theorem blockPlays_any (a : Option Addr) (n cap : Nat) (l : List (Int × ByteArray × Int)) (w : World) (hl : In cO 3 w a n l) (hok : ∀ x ∈ l, KS.ok x.2.1 ∧ KI.ok x.2.2) (hmx : n ≤ maxLen) :
    Calls Try.prog 6 #[.slice a n cap] w fun e w' => e = .returned (.bool true) ∧ Kept Nil w w' := by
  have HL := Lib.hid hl
  have HOK := Lib.hid hok
  have HA := Lib.hid awake_any
  have hmx' : n ≤ 9223372036854775807 := Nat.le_trans hmx (by unfold maxLen; decide)
  clear hl hok hmx
  go_enter Try.func6, Try.ntmps6
  go_wp2_with fail
  refine (newB_p w).mono ?_
  rintro e w1 ⟨pb, rfl, h1, k1, _⟩
  have hsz1 := k1.size
  have kq : Kept Nil w1 (w1.alloc (.cells #[.slice none 0 0, .slice none 0 0] 65)) := (Kept.refl _ _).alloc _
  have H1 := Lib.hid (show PSt w (w1.alloc (.cells #[.slice none 0 0, .slice none 0 0] 65)) pb w1.heap.size [] [] 0 from
    ⟨h1.keptN kq, ⟨none, 0, none, 0, hsz1, Blk.new _ _ _, Row.nil _ _, Row.nil _ _⟩, k1.trans kq (fun _ _ e => e)⟩)
  have K1 := Lib.hid k1
  clear h1 k1 kq hsz1
  by_cases hn : n ≤ 100
  rotate_left
  · have e1 : decide ((100 : Int) < (n : Int)) = true := by simp; omega
    clear hn
    go_wp2_with fail
    refine (HA.out _).mono ?_
    rintro e w3 ⟨rfl, k3⟩
    go_wp2_with fail
    go_ret
    exact ⟨rfl, K1.out.trans k3 (fun _ _ e => e)⟩
  have e1 : decide ((100 : Int) < (n : Int)) = false := by simp; omega
  go_upto_region 5 with fail
  generalize w1.alloc (.cells #[.slice none 0 0, .slice none 0 0] 65) = w2 at *
  generalize w1.heap.size = q at *
  clear K1
  go_wp2_with fail
  go_loopw [30] (fun i wr => ∃ (j : Nat) (R : List ByteArray) (Ps : List (ByteArray × Int)), j ≤ n ∧ i = .int .i64 j ∧ PSt w wr pb q R Ps j) (fun i _ => n - (intOf i).toNat)
  case atStart => exact ⟨0, [], [], Nat.zero_le _, rfl, H1.out⟩
  case round =>
    obtain ⟨j, R, Ps, hj, rfl, hI⟩ := hrel
    have HI := Lib.hid hI
    clear hI
    by_cases hlt : j < n
    · obtain ⟨⟨kd, k, v⟩, hx⟩ : ∃ x, l[j]? = some x := ⟨_, List.getElem?_eq_getElem (by have := HL.out.1; omega)⟩
      obtain ⟨b, off, rfl, hb, hc⟩ := (HL.out.kept HI.out.k).at_ hx
      have HO := Lib.hid (HOK.out _ (List.mem_of_getElem? hx))
      have p0 := hc 0 _ rfl
      have p1 := hc 1 _ rfl
      have p2 := hc 2 _ rfl
      rw [Nat.add_zero] at p0
      simp only at p0 p1 p2
      clear hx hc
      have HKa := Lib.hid ((Kept.refl Nil wr).alloc (.cells (cOa kd k v) 67))
      have HBx := Lib.hid (Blk.new wr 67 (cOa kd k v))
      have HI5 := Lib.hid (HI.out.keptN HKa.out)
      go_upto_region 8 with fail
      show Code.wp _ _ _ _ (wr.alloc (.cells (cOa kd k v) 67))
      generalize wr.alloc (.cells (cOa kd k v) 67) = w5 at *
      generalize wr.heap.size = b6 at *
      obtain ⟨okk, okv⟩ := HO.out
      simp only at okk okv
      have hRl := (R_le HI5.out.bt).1
      have hPl := (R_le HI5.out.bt).2
      have HRl := Lib.hid (And.intro hRl hPl)
      have O := Lib.hid (show Kept Nil w5 w5.drew from (Kept.refl Nil w5).drew)
      have hb6 := HBx.out.lt
      have c1n : ∀ n : CW (Kept Nil w5), n.w.cell? ⟨b6, 1, none⟩ = some (.string k) := fun n => (n.of.cell (p := ⟨b6, 1, none⟩) hb6 (fun e => e)).trans (HBx.out.cell 1)
      have c2n : ∀ n : CW (Kept Nil w5), n.w.cell? ⟨b6, 2, none⟩ = some (.int .i64 v) := fun n => (n.of.cell (p := ⟨b6, 2, none⟩) hb6 (fun e => e)).trans (HBx.out.cell 2)
      have CI := Lib.hid (fun W (kW : Kept Nil w5 W) => is_r (HI5.out.rb.keptN kW) (by omega) k)
      have CH := Lib.hid (fun W (kW : Kept Nil w5 W) => has_r (HI5.out.rb.keptN kW) (by omega) k v)
      clear p0 p1 p2 hb hRl hPl
      refine wp_region_in (Kept Nil w5) (by kernel_rfl) (by kernel_rfl) O.out ?_
      have inst : Nonempty (CW (Kept Nil w5)) := ⟨⟨_, O.out⟩⟩
      repeat (go_big_quiet_step (first
        | (go_at_call 28; with_reducible exact call_in (fun _ _ h k => h.trans k (fun _ _ e => e)) (CI.out _ (CW.of _)))
        | (go_at_call 29; with_reducible exact call_in (fun _ _ h k => h.trans k (fun _ _ e => e)) (CH.out _ (CW.of _)))))
      refine wpQuiet_nil ?_
      rintro _ ⟨nn, rfl⟩
      have k6 := nn.of
      generalize nn.w = w6 at *
      have HI6 := Lib.hid (HI5.out.keptN k6)
      have HB6 := Lib.hid (HBx.out.kept k6 (fun e => e))
      have c0 := HB6.out.cell 0
      have c1 := HB6.out.cell 1
      have c2 := HB6.out.cell 2
      simp only [cOa, List.getElem?_toArray, List.getElem?_cons_zero, List.getElem?_cons_succ] at c0 c1 c2
      clear c1n c2n CI CH O inst k6 HI HKa HI5 HBx hb6
      obtain ⟨iR, hiR⟩ : ∃ iR, isIn k R = iR := ⟨_, rfl⟩
      obtain ⟨iP, hiP⟩ : ∃ iP, isIn (k, v) Ps = iP := ⟨_, rfl⟩
      have HIR := Lib.hid hiR
      have HIP := Lib.hid hiP
      simp only [hiR, hiP]
      clear hiR hiP
      go_upto_block 2 with fail
      go_cut [] from 46 to 155 (fun wx => ∃ (R' : List ByteArray) (Ps' : List (ByteArray × Int)), PSt w wx pb q R' Ps' (j + 1) ∧ Blk wx b6 67 (cOa kd k v))
      case first =>
        have awayP : ∀ {W W' : World}, Blk W b6 67 (cOa kd k v) → Kept (FBP W w.heap.size) W W' → Blk W' b6 67 (cOa kd k v) := fun hb kk => hb.kept kk (FBP.other hb (by decide) (by decide) (by decide))
        have awayR : ∀ {W W' : World}, Blk W b6 67 (cOa kd k v) → Kept (FR W w.heap.size) W W' → Blk W' b6 67 (cOa kd k v) := fun hb kk => hb.kept kk (fun ⟨_, cs, t, f, e, ht⟩ => by
          unfold Blk at hb
          rw [hb] at e; cases e
          rcases ht with e | e | e <;> revert e <;> decide)
        have HAP := Lib.hid (fun W W' => @awayP W W')
        have HAR := Lib.hid (fun W W' => @awayR W W')
        clear awayP awayR
        have hj5 : j ≤ 4000 := by omega
        by_cases q1 : kd = 1
        · as_aux_lemma =>
          subst q1
          have C1 := Lib.hid (open_p HI6.out.bt (by omega) HI6.out.k.size okk)
          rw [HIR.out] at C1
          clear okv
          cases iR
          · as_aux_lemma =>
            have HOp := Lib.hid (show opn R k = R ++ [k] by unfold opn; rw [HIR.out]; rfl)
            rw [HOp.out] at C1
            go_wp2_with fail
            refine C1.out.mono ?_
            rintro e w7 ⟨rfl, g⟩
            have HG := Lib.hid g
            have HB7 := Lib.hid (HAP.out _ _ HB6.out g.2)
            obtain ⟨a1, cp1, a2, cp2, hrb⟩ := HI6.out.rb.keptP g.2
            have HRB := Lib.hid hrb
            have hbase := hrb.base
            obtain ⟨a', c', w8, hrun, hR8, k8, _⟩ := (hrb.row.keptN ((Kept.refl Nil w7).drew)).push2 (wr := w7.drew) elsP cKP_len cKP_one 62 (Nat.le_trans HI6.out.k.size g.2.size) (by have := HRl.out.1; omega) k #[.string k] rfl
            have k78 : Kept (fun z => (Value.slice a1 R.length cp1).ownBlock = some z) w7 w8 := (((Kept.refl Nil w7).drew).mono (fun _ _ e => e.elim)).trans k8 (fun _ _ e => e)
            have hF := hrb.pushRow hR8 k78
            have S0 : Hid (SAp b6 q 0 k v (.slice a1 R.length cp1) w7.drew) := Lib.hid ⟨by have := HB7.out.drew.cell 1; simpa [cOa] using this, by have := HB7.out.drew.cell 2; simpa [cOa] using this, by have := hrb.here.drew.cell 0; simpa using this⟩
            have kA : Kept Nil w7 (w7.drew.alloc (.cells #[.string k] 9)) := ((Kept.refl Nil w7).drew).alloc _
            have S1 : Hid (SAp b6 q 0 k v (.slice a1 R.length cp1) (w7.drew.alloc (.cells #[.string k] 9))) := Lib.hid ⟨by have := (HB7.out.kept kA (fun e => e)).cell 1; simpa [cOa] using this, by have := (HB7.out.kept kA (fun e => e)).cell 2; simpa [cOa] using this, by have := (hrb.here.kept kA (fun e => e)).cell 0; simpa using this⟩
            have hb8 := HB7.out.kept k78 (hrb.row.notOwn HB7.out (by decide))
            have hq8 := hrb.here.kept k78 (hrb.row.notOwn hrb.here (by decide))
            have S2 : Hid (SAp b6 q 0 k v (.slice a1 R.length cp1) w8) := Lib.hid ⟨by have := hb8.cell 1; simpa [cOa] using this, by have := hb8.cell 2; simpa [cOa] using this, by have := hq8.cell 0; simpa using this⟩
            have z0 := hq8.cell 0
            have f0 := hq8.frozen 0
            simp only [List.getElem?_toArray, List.getElem?_cons_zero] at z0
            have HF := Lib.hid (And.intro (HI6.out.both HG.out hF.1 hF.2) (HAR.out _ _ HB7.out hF.2))
            generalize R.length = rl at *
            clear g hrb hbase hR8 k8 k78 hF kA hb8 hq8 C1
            go_wp2_with fail
            refine wp_region_lastL (SAp b6 q 0 k v (.slice a1 rl cp1)) (by simp) (by kernel_rfl) (by kernel_rfl) ?_
            simp only [List.dropLast, List.getLast]
            refine takeH (i := 0) (some 56) (.pointer (some ⟨q, 0, none⟩)) rfl rfl (by kernel_rfl) (by kernel_rfl) (by kernel_rfl) (fun _ _ _ h => h) (by rfl) S0.out ?_ ?_
            · intro w hSw
              go_simp
            simp only [Act.put, List.setIfInBounds_toArray, List.set_cons_succ, List.set_cons_zero]
            refine takeH (i := 1) (some 57) (.pointer (some ⟨q, 0, none⟩)) rfl rfl (by kernel_rfl) (by kernel_rfl) (by kernel_rfl) (fun _ _ _ h => h) (by rfl) S0.out ?_ ?_
            · intro w hSw
              go_simp
            simp only [Act.put, List.setIfInBounds_toArray, List.set_cons_succ, List.set_cons_zero]
            refine takeH (i := 2) (some 58) (.pointer (some ⟨q, 0, none⟩)) rfl rfl (by kernel_rfl) (by kernel_rfl) (by kernel_rfl) (fun _ _ _ h => h) (by rfl) S0.out ?_ ?_
            · intro w hSw
              go_simp
            simp only [Act.put, List.setIfInBounds_toArray, List.set_cons_succ, List.set_cons_zero]
            refine takeH (i := 3) (some 59) (.pointer (some ⟨q, 0, none⟩)) rfl rfl (by kernel_rfl) (by kernel_rfl) (by kernel_rfl) (fun _ _ _ h => h) (by rfl) S0.out ?_ ?_
            · intro w hSw
              go_simp
            simp only [Act.put, List.setIfInBounds_toArray, List.set_cons_succ, List.set_cons_zero]
            refine takeH (i := 4) (some 60) (.slice a1 rl cp1) rfl rfl (by kernel_rfl) (by kernel_rfl) (by kernel_rfl) (fun _ _ _ h => h) (by rfl) S0.out ?_ ?_
            · intro w hSw
              have h1 := hSw.2.2; go_simp
            simp only [Act.put, List.setIfInBounds_toArray, List.set_cons_succ, List.set_cons_zero]
            refine takeH (i := 5) (some 61) (.pointer (some ⟨b6, 1, none⟩)) rfl rfl (by kernel_rfl) (by kernel_rfl) (by kernel_rfl) (fun _ _ _ h => h) (by rfl) S0.out ?_ ?_
            · intro w hSw
              go_simp
            simp only [Act.put, List.setIfInBounds_toArray, List.set_cons_succ, List.set_cons_zero]
            refine takeH (i := 6) (some 62) (.string k) rfl rfl (by kernel_rfl) (by kernel_rfl) (by kernel_rfl) (fun _ _ _ h => h) (by rfl) S0.out ?_ ?_
            · intro w hSw
              have h2 := hSw.1; go_simp
            simp only [Act.put, List.setIfInBounds_toArray, List.set_cons_succ, List.set_cons_zero]
            refine wpAnyH_all (rs := [7]) (by kernel_rfl) (by decide) (forall_one ?_)
            refine wpOp_of rfl rfl (lit_wp (some 63) rfl (v := (.slice (some ⟨w7.drew.heap.size, 0, none⟩) 1 1)) (w' := w7.drew.alloc (.cells #[.string k] 9)) ?_ ⟨S1.out, ?_⟩)
            · go_simp
            simp only [Act.put, List.setIfInBounds_toArray, List.set_cons_succ, List.set_cons_zero]
            refine wpAnyH_all (rs := [8]) (by kernel_rfl) (by decide) (forall_one ?_)
            refine wpOp_of rfl rfl (app_wp (some 64) rfl (.tmp 60) (.tmp 63) 62 62 rfl rfl (.slice a1 rl cp1) (.slice (some ⟨w7.drew.heap.size, 0, none⟩) 1 1) rfl rfl (v' := .slice a' (rl + 1) c') (w' := w8) (by with_reducible exact hrun) ⟨S2.out, ?_⟩)
            simp only [Act.put, List.setIfInBounds_toArray, List.set_cons_succ, List.set_cons_zero]
            refine takeH (i := 9) (some 65) (.pointer (some ⟨q, 0, none⟩)) rfl rfl (by kernel_rfl) (by kernel_rfl) (by kernel_rfl) (fun _ _ _ h => h) (by rfl) S2.out ?_ ?_
            · intro w hSw
              go_simp
            simp only [Act.put, List.setIfInBounds_toArray, List.set_cons_succ, List.set_cons_zero]
            refine takeH (i := 10) (some 66) (.pointer (some ⟨q, 0, none⟩)) rfl rfl (by kernel_rfl) (by kernel_rfl) (by kernel_rfl) (fun _ _ _ h => h) (by rfl) S2.out ?_ ?_
            · intro w hSw
              go_simp
            simp only [Act.put, List.setIfInBounds_toArray, List.set_cons_succ, List.set_cons_zero]
            refine wpAnyH_done (by kernel_rfl) ?_ _
            refine store_wp rfl rfl ?_
            go_wp2_with fail
            go_meet
            exact ⟨_, _, HF.out⟩
          · have HOp := Lib.hid (show opn R k = R by unfold opn; rw [HIR.out]; rfl)
            rw [HOp.out] at C1
            go_wp2_with fail
            refine C1.out.mono ?_
            rintro e w7 ⟨rfl, g⟩
            have HF := Lib.hid (And.intro (HI6.out.both g (HI6.out.rb.keptP g.2) (Kept.refl _ _)) (HAP.out _ _ HB6.out g.2))
            clear g C1
            go_wp2_with fail
            go_meet
            exact ⟨_, _, HF.out⟩
        have n1 : (kd == 1) = false := beq_eq_false_iff_ne.2 q1
        by_cases q2 : kd = 2
        · as_aux_lemma =>
          subst q2
          have C1 := Lib.hid (close_p HI6.out.bt (by omega) okk)
          rw [HIR.out] at C1
          have hne : (iR != iR) = false := by cases iR <;> rfl
          clear okv okk
          go_wp2_with fail
          refine C1.out.mono ?_
          rintro e w7 ⟨rfl, g⟩
          have HB7 := Lib.hid (HAP.out _ _ HB6.out g.2)
          have HG := Lib.hid g
          have C2 := Lib.hid (close_r (HI6.out.rb.keptP g.2) (Nat.le_trans HI6.out.k.size g.2.size) (by have := HRl.out.1; omega) (by have := HRl.out.2; omega) k)
          have d1 := HB7.out.cell 1
          simp only [cOa, List.getElem?_toArray, List.getElem?_cons_zero, List.getElem?_cons_succ] at d1
          clear g C1
          go_wp2_with fail
          refine C2.out.mono ?_
          rintro e w8 ⟨rfl, hr, k8⟩
          have HF := Lib.hid (And.intro ((HI6.out.both HG.out hr k8).more (Nat.le_succ j)) (HAR.out _ _ HB7.out k8))
          clear hr k8 C2 d1
          go_wp2_with fail
          go_meet
          exact ⟨_, _, HF.out⟩
        have n2 : (kd == 2) = false := beq_eq_false_iff_ne.2 q2
        by_cases q3 : kd = 3
        · as_aux_lemma =>
          subst q3
          have C1 := Lib.hid (block_p HI6.out.bt (by omega) okk okv)
          rw [HIR.out, HIP.out] at C1
          have HBk := Lib.hid (show blkd R Ps k v = if iR && !iP then Ps ++ [(k, v)] else Ps by unfold blkd; rw [HIR.out, HIP.out])
          rw [HBk.out] at C1
          clear okv okk
          by_cases hnew : (iR && !iP) = true
          · as_aux_lemma =>
            obtain ⟨rfl, rfl⟩ : iR = true ∧ iP = false := by simpa using hnew
            clear hnew
            obtain ⟨L, hL⟩ : ∃ L, (bls Ps k).length = L := ⟨_, rfl⟩
            have HLL := Lib.hid hL
            rw [hL, show (if (true && !false) = true then Ps ++ [(k, v)] else Ps) = Ps ++ [(k, v)] from rfl, show (true && !false && decide (L = 0)) = decide (L = 0) from rfl, show (true && !false) = true from rfl] at C1
            clear hL
            go_wp2_with fail
            refine C1.out.mono ?_
            rintro e w7 ⟨rfl, g⟩
            have HG := Lib.hid g
            have HB7 := Lib.hid (HAP.out _ _ HB6.out g.2)
            have HR7 := Lib.hid (HI6.out.rb.keptP g.2)
            have C2 := Lib.hid (count_r HR7.out (by have := HRl.out.2; omega) k)
            rw [HLL.out] at C2
            have hcmp : ((L : Int) == 0) = decide (L = 0) := by
              by_cases e : L = 0
              · rw [decide_eq_true e, e]; rfl
              · rw [decide_eq_false e]; simpa using e
            obtain ⟨bL, hbL⟩ : ∃ bL : Bool, decide (L = 0) = bL := ⟨_, rfl⟩
            simp only [hbL] at hcmp ⊢
            have hLw : L ≤ 4000 := by have := bls_le Ps k; have := HLL.out; have := HRl.out.2; omega
            have hbb : (bL != bL) = false := by cases bL <;> rfl
            have d1 := HB7.out.cell 1
            simp only [cOa, List.getElem?_toArray, List.getElem?_cons_zero, List.getElem?_cons_succ] at d1
            clear g C1 hbL
            go_wp2_with fail
            refine C2.out.mono ?_
            rintro e w8 ⟨rfl, k8⟩
            have HB8 := Lib.hid (HB7.out.kept k8 (fun e => e))
            have HK8 := Lib.hid k8
            obtain ⟨a1, cp1, a2, cp2, hrb⟩ := HR7.out.keptN k8
            obtain ⟨a', c', w9, hrun, hR9, k9, _⟩ := (hrb.prs.keptN ((Kept.refl Nil w8).drew)).push2 (wr := w8.drew) elsPr cPr_len cPr_one 63 (Nat.le_trans (Nat.le_trans HI6.out.k.size HG.out.2.size) k8.size) (by have := HRl.out.2; omega) (k, v) #[.string k, .int .i64 v] rfl
            have k89 : Kept (fun z => (Value.slice a2 Ps.length cp2).ownBlock = some z) w8 w9 := (((Kept.refl Nil w8).drew).mono (fun _ _ e => e.elim)).trans k9 (fun _ _ e => e)
            have hF := hrb.pushPair hR9 k89
            have S0 : Hid (SAp b6 q 1 k v (.slice a2 Ps.length cp2) w8.drew) := Lib.hid ⟨by have := HB8.out.drew.cell 1; simpa [cOa] using this, by have := HB8.out.drew.cell 2; simpa [cOa] using this, by have := hrb.here.drew.cell 1; simpa using this⟩
            have kA : Kept Nil w8 (w8.drew.alloc (.cells #[.string k, .int .i64 v] 75)) := ((Kept.refl Nil w8).drew).alloc _
            have S1 : Hid (SAp b6 q 1 k v (.slice a2 Ps.length cp2) (w8.drew.alloc (.cells #[.string k, .int .i64 v] 75))) := Lib.hid ⟨by have := (HB8.out.kept kA (fun e => e)).cell 1; simpa [cOa] using this, by have := (HB8.out.kept kA (fun e => e)).cell 2; simpa [cOa] using this, by have := (hrb.here.kept kA (fun e => e)).cell 1; simpa using this⟩
            have hb9 := HB8.out.kept k89 (hrb.prs.notOwn HB8.out (by decide))
            have hq9 := hrb.here.kept k89 (hrb.prs.notOwn hrb.here (by decide))
            have S2 : Hid (SAp b6 q 1 k v (.slice a2 Ps.length cp2) w9) := Lib.hid ⟨by have := hb9.cell 1; simpa [cOa] using this, by have := hb9.cell 2; simpa [cOa] using this, by have := hq9.cell 1; simpa using this⟩
            have z0 := hq9.cell 1
            have f0 := hq9.frozen 1
            simp only [List.getElem?_toArray, List.getElem?_cons_zero, List.getElem?_cons_succ] at z0
            have HF := Lib.hid (And.intro (HI6.out.both HG.out hF.1 ((HK8.out.mono (fun _ _ e => e.elim)).trans hF.2 (fun z hz e => (FR.back HK8.out hz e)))) (HAR.out _ _ HB8.out hF.2))
            generalize Ps.length = pl at *
            clear hrb hR9 k9 k89 hF kA hb9 hq9 C2 k8 d1
            go_wp2_with fail
            refine wp_region_lastL (SAp b6 q 1 k v (.slice a2 pl cp2)) (by simp) (by kernel_rfl) (by kernel_rfl) ?_
            simp only [List.dropLast, List.getLast]
            refine takeH (i := 0) (some 110) (.pointer (some ⟨q, 0, none⟩)) rfl rfl (by kernel_rfl) (by kernel_rfl) (by kernel_rfl) (fun _ _ _ h => h) (by rfl) S0.out ?_ ?_
            · intro w hSw
              go_simp
            simp only [Act.put, List.setIfInBounds_toArray, List.set_cons_succ, List.set_cons_zero]
            refine takeH (i := 1) (some 111) (.pointer (some ⟨q, 0, none⟩)) rfl rfl (by kernel_rfl) (by kernel_rfl) (by kernel_rfl) (fun _ _ _ h => h) (by rfl) S0.out ?_ ?_
            · intro w hSw
              go_simp
            simp only [Act.put, List.setIfInBounds_toArray, List.set_cons_succ, List.set_cons_zero]
            refine takeH (i := 2) (some 112) (.pointer (some ⟨q, 0, none⟩)) rfl rfl (by kernel_rfl) (by kernel_rfl) (by kernel_rfl) (fun _ _ _ h => h) (by rfl) S0.out ?_ ?_
            · intro w hSw
              go_simp
            simp only [Act.put, List.setIfInBounds_toArray, List.set_cons_succ, List.set_cons_zero]
            refine takeH (i := 3) (some 113) (.pointer (some ⟨q, 1, none⟩)) rfl rfl (by kernel_rfl) (by kernel_rfl) (by kernel_rfl) (fun _ _ _ h => h) (by rfl) S0.out ?_ ?_
            · intro w hSw
              go_simp
            simp only [Act.put, List.setIfInBounds_toArray, List.set_cons_succ, List.set_cons_zero]
            refine takeH (i := 4) (some 114) (.slice a2 pl cp2) rfl rfl (by kernel_rfl) (by kernel_rfl) (by kernel_rfl) (fun _ _ _ h => h) (by rfl) S0.out ?_ ?_
            · intro w hSw
              have h1 := hSw.2.2; go_simp
            simp only [Act.put, List.setIfInBounds_toArray, List.set_cons_succ, List.set_cons_zero]
            refine takeH (i := 5) (some 115) (.pointer (some ⟨b6, 1, none⟩)) rfl rfl (by kernel_rfl) (by kernel_rfl) (by kernel_rfl) (fun _ _ _ h => h) (by rfl) S0.out ?_ ?_
            · intro w hSw
              go_simp
            simp only [Act.put, List.setIfInBounds_toArray, List.set_cons_succ, List.set_cons_zero]
            refine takeH (i := 6) (some 116) (.string k) rfl rfl (by kernel_rfl) (by kernel_rfl) (by kernel_rfl) (fun _ _ _ h => h) (by rfl) S0.out ?_ ?_
            · intro w hSw
              have h2 := hSw.1; go_simp
            simp only [Act.put, List.setIfInBounds_toArray, List.set_cons_succ, List.set_cons_zero]
            refine takeH (i := 7) (some 117) (.pointer (some ⟨b6, 2, none⟩)) rfl rfl (by kernel_rfl) (by kernel_rfl) (by kernel_rfl) (fun _ _ _ h => h) (by rfl) S0.out ?_ ?_
            · intro w hSw
              go_simp
            simp only [Act.put, List.setIfInBounds_toArray, List.set_cons_succ, List.set_cons_zero]
            refine takeH (i := 8) (some 118) (.int .i64 v) rfl rfl (by kernel_rfl) (by kernel_rfl) (by kernel_rfl) (fun _ _ _ h => h) (by rfl) S0.out ?_ ?_
            · intro w hSw
              have h2 := hSw.2.1; go_simp
            simp only [Act.put, List.setIfInBounds_toArray, List.set_cons_succ, List.set_cons_zero]
            refine takeH (i := 9) (some 119) (.agg #[.string k, .int .i64 v]) rfl rfl (by kernel_rfl) (by kernel_rfl) (by kernel_rfl) (fun _ _ _ h => h) (by rfl) S0.out ?_ ?_
            · intro w hSw
              go_simp
            simp only [Act.put, List.setIfInBounds_toArray, List.set_cons_succ, List.set_cons_zero]
            refine wpAnyH_all (rs := [10]) (by kernel_rfl) (by decide) (forall_one ?_)
            refine wpOp_of rfl rfl (lit_wp (some 120) rfl (v := (.slice (some ⟨w8.drew.heap.size, 0, none⟩) 1 1)) (w' := w8.drew.alloc (.cells #[.string k, .int .i64 v] 75)) ?_ ⟨S1.out, ?_⟩)
            · go_simp
            simp only [Act.put, List.setIfInBounds_toArray, List.set_cons_succ, List.set_cons_zero]
            refine wpAnyH_all (rs := [11]) (by kernel_rfl) (by decide) (forall_one ?_)
            refine wpOp_of rfl rfl (app_wp (some 121) rfl (.tmp 114) (.tmp 120) 63 63 rfl rfl (.slice a2 pl cp2) (.slice (some ⟨w8.drew.heap.size, 0, none⟩) 1 1) rfl rfl (v' := .slice a' (pl + 1) c') (w' := w9) (by with_reducible exact hrun) ⟨S2.out, ?_⟩)
            simp only [Act.put, List.setIfInBounds_toArray, List.set_cons_succ, List.set_cons_zero]
            refine takeH (i := 12) (some 122) (.pointer (some ⟨q, 0, none⟩)) rfl rfl (by kernel_rfl) (by kernel_rfl) (by kernel_rfl) (fun _ _ _ h => h) (by rfl) S2.out ?_ ?_
            · intro w hSw
              go_simp
            simp only [Act.put, List.setIfInBounds_toArray, List.set_cons_succ, List.set_cons_zero]
            refine takeH (i := 13) (some 123) (.pointer (some ⟨q, 1, none⟩)) rfl rfl (by kernel_rfl) (by kernel_rfl) (by kernel_rfl) (fun _ _ _ h => h) (by rfl) S2.out ?_ ?_
            · intro w hSw
              go_simp
            simp only [Act.put, List.setIfInBounds_toArray, List.set_cons_succ, List.set_cons_zero]
            refine wpAnyH_done (by kernel_rfl) ?_ _
            refine store_wp rfl rfl ?_
            go_wp2_with fail
            go_meet
            exact ⟨_, _, HF.out⟩
          · have hnew : (iR && !iP) = false := by simpa using hnew
            rw [hnew] at C1
            rw [show (if (false : Bool) = true then Ps ++ [(k, v)] else Ps) = Ps from rfl, Bool.false_and] at C1
            cases iR
            · go_wp2_with fail
              refine C1.out.mono ?_
              rintro e w7 ⟨rfl, g⟩
              have HF := Lib.hid (And.intro (HI6.out.both g (HI6.out.rb.keptP g.2) (Kept.refl _ _)) (HAP.out _ _ HB6.out g.2))
              clear g C1 hnew
              go_wp2_with fail
              go_meet
              exact ⟨_, _, HF.out⟩
            · obtain rfl : iP = true := by simpa using hnew
              go_wp2_with fail
              refine C1.out.mono ?_
              rintro e w7 ⟨rfl, g⟩
              have HF := Lib.hid (And.intro (HI6.out.both g (HI6.out.rb.keptP g.2) (Kept.refl _ _)) (HAP.out _ _ HB6.out g.2))
              clear g C1 hnew
              go_wp2_with fail
              go_meet
              exact ⟨_, _, HF.out⟩
        have n3 : (kd == 3) = false := beq_eq_false_iff_ne.2 q3
        by_cases q4 : kd = 4
        · as_aux_lemma =>
          subst q4
          have C1 := Lib.hid (free_p HI6.out.bt (by omega) okk okv)
          rw [HIP.out] at C1
          clear okv okk
          cases iP
          · rw [Bool.false_and] at C1
            go_wp2_with fail
            refine C1.out.mono ?_
            rintro e w7 ⟨rfl, g⟩
            have HB7 := Lib.hid (HAP.out _ _ HB6.out g.2)
            have HG := Lib.hid g
            have C2 := Lib.hid (free_r (HI6.out.rb.keptP g.2) (Nat.le_trans HI6.out.k.size g.2.size) (by have := HRl.out.2; omega) k v)
            have d1 := HB7.out.cell 1
            have d2 := HB7.out.cell 2
            simp only [cOa, List.getElem?_toArray, List.getElem?_cons_zero, List.getElem?_cons_succ] at d1 d2
            clear g C1
            go_wp2_with fail
            refine C2.out.mono ?_
            rintro e w8 ⟨rfl, hr, k8⟩
            have HF := Lib.hid (And.intro ((HI6.out.both HG.out hr k8).more (Nat.le_succ j)) (HAR.out _ _ HB7.out k8))
            clear hr k8 C2 d1 d2
            go_wp2_with fail
            go_meet
            exact ⟨_, _, HF.out⟩
          · as_aux_lemma =>
            obtain ⟨L, hL⟩ : ∃ L, (bls Ps k).length = L := ⟨_, rfl⟩
            have HLL := Lib.hid hL
            rw [Bool.true_and, hL] at C1
            clear hL
            go_wp2_with fail
            refine C1.out.mono ?_
            rintro e w7 ⟨rfl, g⟩
            have HB7 := Lib.hid (HAP.out _ _ HB6.out g.2)
            have HG := Lib.hid g
            have HR7 := Lib.hid (HI6.out.rb.keptP g.2)
            have C2 := Lib.hid (count_r HR7.out (by have := HRl.out.2; omega) k)
            rw [HLL.out] at C2
            have hcmp : ((L : Int) == 1) = decide (L = 1) := by
              by_cases e : L = 1
              · rw [decide_eq_true e, e]; rfl
              · rw [decide_eq_false e]; simp; omega
            obtain ⟨bL, hbL⟩ : ∃ bL : Bool, decide (L = 1) = bL := ⟨_, rfl⟩
            simp only [hbL] at hcmp ⊢
            have hLw : L ≤ 4000 := by have := bls_le Ps k; have := HLL.out; have := HRl.out.2; omega
            have hbb : (bL != bL) = false := by cases bL <;> rfl
            have d1 := HB7.out.cell 1
            simp only [cOa, List.getElem?_toArray, List.getElem?_cons_zero, List.getElem?_cons_succ] at d1
            clear g C1 hbL
            go_wp2_with fail
            refine C2.out.mono ?_
            rintro e w8 ⟨rfl, k8⟩
            have HB8 := Lib.hid (HB7.out.kept k8 (fun e => e))
            have HK8 := Lib.hid k8
            have C3 := Lib.hid (free_r (HR7.out.keptN k8) (Nat.le_trans (Nat.le_trans HI6.out.k.size HG.out.2.size) k8.size) (by have := HRl.out.2; omega) k v)
            have d3 := HB8.out.cell 1
            have d4 := HB8.out.cell 2
            simp only [cOa, List.getElem?_toArray, List.getElem?_cons_zero, List.getElem?_cons_succ] at d3 d4
            clear k8 C2 d1
            go_wp2_with fail
            refine C3.out.mono ?_
            rintro e w9 ⟨rfl, hr, k9⟩
            have HF := Lib.hid (And.intro ((HI6.out.both HG.out hr ((HK8.out.mono (fun _ _ e => e.elim)).trans k9 (fun z hz e => (FR.back HK8.out hz e)))).more (Nat.le_succ j)) (HAR.out _ _ HB8.out k9))
            clear hr k9 C3 d3 d4
            go_wp2_with fail
            go_meet
            exact ⟨_, _, HF.out⟩
        have n4 : (kd == 4) = false := beq_eq_false_iff_ne.2 q4
        clear okk okv
        go_wp2_with fail
        go_meet
        exact ⟨_, _, HI6.out.more (Nat.le_succ j), HB6.out⟩
      case rest =>
        obtain ⟨R', Ps', hI7, hB7⟩ := hcut
        have HI7 := Lib.hid hI7
        have HB7 := Lib.hid hB7
        obtain ⟨a1, cp1, a2, cp2, hrb⟩ := hI7.rb
        have hR1 := (R_le hI7.bt).1
        have hP1 := (R_le hI7.bt).2
        have HRB := Lib.hid hrb
        rename World => w7
        have S0 : SS w7 b6 q k v (.slice a1 R'.length cp1) (.slice a2 Ps'.length cp2) w7 := ⟨by have := hB7.cell 1; simpa [cOa] using this, by have := hB7.cell 2; simpa [cOa] using this, by have := hrb.here.cell 0; simpa using this, by have := hrb.here.cell 1; simpa using this, Kept.refl _ _⟩
        have S0d := S0.drew
        have kW : ∀ W, SS w7 b6 q k v (.slice a1 R'.length cp1) (.slice a2 Ps'.length cp2) W → Kept Nil w7 W := fun W h => h.2.2.2.2
        have hbl : (byP R' Ps' v).length ≤ 1000 := Nat.le_trans (List.length_filter_le _ _) (by omega)
        have hLL : (bls Ps' k).length ≤ 1000 := Nat.le_trans (bls_le _ _) (by omega)
        have CLe := Lib.hid (fun W (h : SS w7 b6 q k v (.slice a1 R'.length cp1) (.slice a2 Ps'.length cp2) W) => len_p (HI7.out.keptN (kW W h)).bt)
        have CPa := Lib.hid (fun W (h : SS w7 b6 q k v (.slice a1 R'.length cp1) (.slice a2 Ps'.length cp2) W) => pairs_p (HI7.out.keptN (kW W h)).bt)
        have CIp := Lib.hid (fun W (h : SS w7 b6 q k v (.slice a1 R'.length cp1) (.slice a2 Ps'.length cp2) W) => is_p (HI7.out.keptN (kW W h)).bt (by omega) okk)
        have CIr := Lib.hid (fun W (h : SS w7 b6 q k v (.slice a1 R'.length cp1) (.slice a2 Ps'.length cp2) W) => is_r (HI7.out.keptN (kW W h)).rb (by omega) k)
        have CCp := Lib.hid (fun W (h : SS w7 b6 q k v (.slice a1 R'.length cp1) (.slice a2 Ps'.length cp2) W) => count_p (HI7.out.keptN (kW W h)).bt (by omega) okk)
        have CCr := Lib.hid (fun W (h : SS w7 b6 q k v (.slice a1 R'.length cp1) (.slice a2 Ps'.length cp2) W) => count_r (HI7.out.keptN (kW W h)).rb (by omega) k)
        have CBp : Hid (∀ W, SS w7 b6 q k v (.slice a1 R'.length cp1) (.slice a2 Ps'.length cp2) W → Calls Try.prog 42 #[.pointer (some ⟨pb, 0, none⟩), .int .i64 v] W fun e w' => ∃ a c, e = .returned (.slice a (byP R' Ps' v).length c) ∧ In cKP 1 w' a (byP R' Ps' v).length (byP R' Ps' v) ∧ Kept Nil W w') := Lib.hid fun W h => (by_p (HI7.out.keptN (kW W h)).bt (by omega) okv).mono fun e w' ⟨a, c, h1, h2, h3, _⟩ => ⟨a, c, h1, h2, h3⟩
        have CBr : Hid (∀ W, SS w7 b6 q k v (.slice a1 R'.length cp1) (.slice a2 Ps'.length cp2) W → Calls Try.prog 43 #[.pointer (some ⟨q, 0, none⟩), .int .i64 v] W fun e w' => ∃ a c, e = .returned (.slice a (byP R' Ps' v).length c) ∧ In cKP 1 w' a (byP R' Ps' v).length (byP R' Ps' v) ∧ Kept Nil W w') := Lib.hid fun W h => (by_r (HI7.out.keptN (kW W h)).rb (by omega) (by omega) v).mono fun e w' ⟨a, n, c, h1, h2, h3⟩ => by
          have e := h2.1
          subst e
          exact ⟨a, c, h1, h2, h3⟩
        have COw : Hid (∀ W, SS w7 b6 q k v (.slice a1 R'.length cp1) (.slice a2 Ps'.length cp2) W → Calls Try.prog 44 #[.pointer (some ⟨pb, 0, none⟩)] W fun e w' => ∃ a c, e = .returned (.slice a R'.length c) ∧ In cKP 1 w' a R'.length R' ∧ Kept Nil W w') := Lib.hid fun W h => (owners_p (HI7.out.keptN (kW W h)).bt (by omega)).mono fun e w' ⟨a, c, h1, h2, h3, _⟩ => ⟨a, c, h1, h2, h3⟩
        have HRow := Lib.hid (fun W (h : SS w7 b6 q k v (.slice a1 R'.length cp1) (.slice a2 Ps'.length cp2) W) => (HRB.out.row.toIn cKP_len (by decide)).kept (kW W h))
        obtain ⟨lB, hlB⟩ : ∃ lB, byP R' Ps' v = lB := ⟨_, rfl⟩
        obtain ⟨L, hL⟩ : ∃ L, (bls Ps' k).length = L := ⟨_, rfl⟩
        obtain ⟨iS, hiS⟩ : ∃ iS, isIn k R' = iS := ⟨_, rfl⟩
        simp only [hlB] at CBp CBr hbl
        simp only [hL] at CCp CCr hLL
        simp only [hiS] at CIp CIr
        have HBL := Lib.hid hbl
        have HR1 := Lib.hid hR1
        have CT1 := Lib.hid (fun (W : World) (a a' : Option Addr) (c c' : Nat) (h1 : In cKP 1 W a lB.length lB) (h2 : In cKP 1 W a' lB.length lB) => texts_any (c := c) (c' := c') h1 h2 (by have := HBL.out; omega))
        have CT2 := Lib.hid (fun (W : World) (a a' : Option Addr) (c c' : Nat) (h1 : In cKP 1 W a R'.length R') (h2 : In cKP 1 W a' R'.length R') => texts_any (c := c) (c' := c') h1 h2 (by have := HR1.out; omega))
        have hss : (iS != iS) = false := by cases iS <;> rfl
        generalize lB.length = nB at *
        generalize hnR : R'.length = nR at *
        generalize hnP : Ps'.length = nP at *
        have HKW := Lib.hid kW
        clear hrb hI7 hB7 hlB hL hiS kW hbl okk okv hnR hnP HIR HIP HI6 HB6 c0 c1 c2
        go_upto_region 30 with fail
        go_cut [217] from 156 to 217 (fun v9 wx => v9 = .bool false ∧ SS w7 b6 q k v (.slice a1 nR cp1) (.slice a2 nP cp2) wx)
        case first =>
          as_aux_lemma =>
          go_region_held3 (SS w7 b6 q k v (.slice a1 nR cp1) (.slice a2 nP cp2))
            (first | (with_reducible assumption) | (with_reducible exact S0d))
            (first
              | (go_at_call 37; (with_reducible refine (CLe.out _ (by with_reducible assumption)).mono ?_); rintro e w8 ⟨rfl, rfl⟩)
              | (go_at_call 38; (with_reducible refine (CPa.out _ (by with_reducible assumption)).mono ?_); rintro e w8 ⟨rfl, rfl⟩)
              | (go_at_call 39; (with_reducible refine (CIp.out _ (by with_reducible assumption)).mono ?_); rintro e w8 ⟨rfl, kA⟩; have sA := SS.kept (by with_reducible assumption) kA)
              | (go_at_call 28; (with_reducible refine (CIr.out _ (by with_reducible assumption)).mono ?_); rintro e w8 ⟨rfl, kA⟩; have sA := SS.kept (by with_reducible assumption) kA)
              | (go_at_call 40; (with_reducible refine (CCp.out _ (by with_reducible assumption)).mono ?_); rintro e w8 ⟨rfl, kA⟩; have sA := SS.kept (by with_reducible assumption) kA)
              | (go_at_call 34; (with_reducible refine (CCr.out _ (by with_reducible assumption)).mono ?_); rintro e w8 ⟨rfl, kA⟩; have sA := SS.kept (by with_reducible assumption) kA)
              | (go_at_call 42; (with_reducible refine (CBp.out _ (by with_reducible assumption)).mono ?_); rintro e w8 ⟨aA, cA, rfl, hA, kA⟩; have sA := SS.kept (by with_reducible assumption) kA)
              | (go_at_call 43; (with_reducible refine (CBr.out _ (by with_reducible assumption)).mono ?_); rintro e w9 ⟨aB, cB, rfl, hB, kB⟩; have sB := SS.kept (by with_reducible assumption) kB; have hA := hA.kept kB)
              | (go_at_call 44; (with_reducible refine (COw.out _ (by with_reducible assumption)).mono ?_); rintro e w8 ⟨aA, cA, rfl, hA, kA⟩; have sA := SS.kept (by with_reducible assumption) kA; have hB := HRow.out _ sA)
              | (go_at_call 41; (first | (with_reducible refine (CT1.out _ _ _ _ _ hA hB).mono ?_) | (with_reducible refine (CT2.out _ _ _ _ _ hA hB).mono ?_)); rintro e w10 ⟨rfl, kC⟩; have sC := SS.kept (by with_reducible assumption) kC; clear hA hB))
          all_goals
            go_wp2_with fail
            go_meet
            exact ⟨rfl, by with_reducible assumption⟩
        case rest =>
          as_aux_lemma =>
          obtain ⟨rfl, hS⟩ := hcut
          have HI9 := Lib.hid (HI7.out.keptN (HKW.out _ hS))
          clear hS CLe CPa CIp CIr CCp CCr CBp CBr COw HRow CT1 CT2 S0 S0d HKW
          go_wp2_with fail
          go_roundw
          case rel => exact ⟨j + 1, R', Ps', by omega, by go_num, HI9.out⟩
          case measure => simp [intOf]; omega
    · obtain rfl : j = n := by omega
      go_wp2_with fail
      refine (HA.out _).mono ?_
      rintro e w3 ⟨rfl, k3⟩
      go_wp2_with fail
      go_ret
      exact ⟨rfl, HI.out.k.trans k3 (fun _ _ e => e)⟩
end Go.Proofs.Ytodghgeghpbdlaa
