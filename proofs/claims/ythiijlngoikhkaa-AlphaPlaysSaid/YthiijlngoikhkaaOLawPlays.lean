/- Whatever is called, AlphaPlays returns true, and writes nothing that was there. -/
import Derived.Test.YthiijlngoikhkaaOEachR
import Derived.BigRegion
import Derived.Deep.DeepCutAuto
import Derived.Deep.RegionHeld3
import Derived.Deep.CutBlock
namespace Go.Proofs.Ythiijlngoikhkaa
open Go.RowKit Go.Maps Go.WideMaps
set_option maxRecDepth 100000

/-- What the law's last comparison sees of memory. -/
abbrev Seen40 (w : World) (b6 q : Nat) (k t : T3) (v : Value) (W : World) : Prop :=
  W.cell? ⟨b6, 1, none⟩ = some (.int .i64 k.1) ∧ W.cell? ⟨b6, 2, none⟩ = some (.int .i64 k.2.1) ∧ W.cell? ⟨b6, 3, none⟩ = some (.int .i64 k.2.2) ∧ W.cell? ⟨b6, 4, none⟩ = some (.int .i64 t.1) ∧ W.cell? ⟨b6, 5, none⟩ = some (.int .i64 t.2.1) ∧ W.cell? ⟨b6, 6, none⟩ = some (.int .i64 t.2.2) ∧ W.cell? ⟨q, 0, none⟩ = some v ∧ Kept Nil w W
theorem seen40_k {w : World} {b6 q : Nat} {k t : T3} {v : Value} {W : World} (h : Seen40 w b6 q k t v W) : Kept Nil w W := h.2.2.2.2.2.2.2
theorem seen40_kept {w : World} {b6 q : Nat} {k t : T3} {v : Value} {W W' : World} (kk : Kept Nil W W') (h : Seen40 w b6 q k t v W) : Seen40 w b6 q k t v W' := by
  obtain ⟨h1, h2, h3, h4, h5, h6, h7, h8⟩ := h
  have hb : b6 < W.heap.size := World.block_lt_of_cell? W _ h1
  have hq : q < W.heap.size := World.block_lt_of_cell? W _ h7
  exact ⟨(kk.cell (p := ⟨b6, 1, none⟩) hb (fun e => e)).trans h1, (kk.cell (p := ⟨b6, 2, none⟩) hb (fun e => e)).trans h2, (kk.cell (p := ⟨b6, 3, none⟩) hb (fun e => e)).trans h3, (kk.cell (p := ⟨b6, 4, none⟩) hb (fun e => e)).trans h4, (kk.cell (p := ⟨b6, 5, none⟩) hb (fun e => e)).trans h5, (kk.cell (p := ⟨b6, 6, none⟩) hb (fun e => e)).trans h6, (kk.cell (p := ⟨q, 0, none⟩) hq (fun e => e)).trans h7, h8.trans kk (fun _ _ e => e)⟩

/-- .. and its last loop. -/
abbrev Seen46 (w : World) (b : Nat) (k : T3) (mn : Nat) (v : Value) (W : World) : Prop :=
  W.cell? ⟨b, 0, none⟩ = some (.int .i64 k.1) ∧ W.cell? ⟨b, 1, none⟩ = some (.int .i64 k.2.1) ∧ W.cell? ⟨b, 2, none⟩ = some (.int .i64 k.2.2) ∧ W.cell? ⟨b, 3, none⟩ = some (.int .i64 mn) ∧ W.cell? ⟨b, 4, none⟩ = some v ∧ Kept Nil w W
theorem seen46_k {w : World} {b : Nat} {k : T3} {mn : Nat} {v : Value} {W : World} (h : Seen46 w b k mn v W) : Kept Nil w W := h.2.2.2.2.2
theorem seen46_kept {w : World} {b : Nat} {k : T3} {mn : Nat} {v : Value} {W W' : World} (kk : Kept Nil W W') (h : Seen46 w b k mn v W) : Seen46 w b k mn v W' := by
  obtain ⟨h1, h2, h3, h4, h5, h8⟩ := h
  have hb : b < W.heap.size := World.block_lt_of_cell? W _ h1
  exact ⟨(kk.cell (p := ⟨b, 0, none⟩) hb (fun e => e)).trans h1, (kk.cell (p := ⟨b, 1, none⟩) hb (fun e => e)).trans h2, (kk.cell (p := ⟨b, 2, none⟩) hb (fun e => e)).trans h3, (kk.cell (p := ⟨b, 3, none⟩) hb (fun e => e)).trans h4, (kk.cell (p := ⟨b, 4, none⟩) hb (fun e => e)).trans h5, h8.trans kk (fun _ _ e => e)⟩

theorem RGrew.keptG {w w' : World} {G : Nat → Prop} {q : Nat} {L : List Mem} (h : RGrew w w' G q L) : Kept G w w' := by obtain ⟨_, _, _, k⟩ := h; exact k
theorem SSame.grew {w w' : World} {F : Nat → Prop} {p : Nat} {l : List T3} {L : List Mem} (h : SSame w w' F p l L) : SGrew w w' F p l L := ⟨F, h.1, fun _ e => .inl e, h.2⟩
/-- What Want's comparison sees of memory. -/
abbrev Seen12 (w : World) (H : Nat → Prop) (b6 : Nat) (k : T3) (v : Value) (W : World) : Prop :=
  W.cell? ⟨b6, 1, none⟩ = some (.int .i64 k.1) ∧ W.cell? ⟨b6, 2, none⟩ = some (.int .i64 k.2.1) ∧ W.cell? ⟨b6, 3, none⟩ = some (.int .i64 k.2.2) ∧ W.cell? ⟨b6, 8, none⟩ = some v ∧ Kept H w W
theorem seen12_kept {w : World} {H : Nat → Prop} {b6 : Nat} {k : T3} {v : Value} {W W' : World} {F : Nat → Prop} (kk : Kept F W W') (hF : ∀ i, F i → H i) (hb : ¬ F b6) (h : Seen12 w H b6 k v W) : Seen12 w H b6 k v W' := by
  obtain ⟨h1, h2, h3, h4, h5⟩ := h
  have hl : b6 < W.heap.size := World.block_lt_of_cell? W _ h1
  exact ⟨(kk.cell (p := ⟨b6, 1, none⟩) hl hb).trans h1, (kk.cell (p := ⟨b6, 2, none⟩) hl hb).trans h2, (kk.cell (p := ⟨b6, 3, none⟩) hl hb).trans h3, (kk.cell (p := ⟨b6, 8, none⟩) hl hb).trans h4, h5.trans kk (fun i _ e => hF i e)⟩
theorem SGrew.keptF {w w' : World} {F : Nat → Prop} {p : Nat} {l : List T3} {L : List Mem} (h : SGrew w w' F p l L) : Kept F w w' := by obtain ⟨_, _, _, k⟩ := h; exact k
theorem nil_h {H : Nat → Prop} (i : Nat) (e : Nil i) : H i := False.elim e
theorem nil_not (b : Nat) : ¬ Nil b := fun e => e
theorem few_want {L : List Mem} {q : Nat} (h : Few L q) (k : T3) (fs : List F4) (hf : fs.length ≤ q) : Few (wantL L k fs) q := by
  unfold wantL
  split
  · intro y hy
    obtain ⟨z, hz, rfl⟩ := mem_of_upd hy
    have := h z hz
    split <;> exact this
  · intro y hy
    rcases List.mem_append.1 hy with hy | hy
    · exact h y hy
    · rw [List.mem_singleton.1 hy]
      exact Nat.le_trans (beg_le k fs) hf
/-- What Put's and Take's comparisons see of memory. -/
abbrev Seen35 (b6 : Nat) (k : T3) (id : Int) (W : World) : Prop :=
  W.cell? ⟨b6, 1, none⟩ = some (.int .i64 k.1) ∧ W.cell? ⟨b6, 2, none⟩ = some (.int .i64 k.2.1) ∧ W.cell? ⟨b6, 3, none⟩ = some (.int .i64 k.2.2) ∧ W.cell? ⟨b6, 7, none⟩ = some (.int .i64 id)
theorem seen35_kept {b6 : Nat} {k : T3} {id : Int} {W W' : World} {F : Nat → Prop} (kk : Kept F W W') (hb : ¬ F b6) (h : Seen35 b6 k id W) : Seen35 b6 k id W' := by
  obtain ⟨h1, h2, h3, h4⟩ := h
  have hl : b6 < W.heap.size := World.block_lt_of_cell? W _ h1
  exact ⟨(kk.cell (p := ⟨b6, 1, none⟩) hl hb).trans h1, (kk.cell (p := ⟨b6, 2, none⟩) hl hb).trans h2, (kk.cell (p := ⟨b6, 3, none⟩) hl hb).trans h3, (kk.cell (p := ⟨b6, 7, none⟩) hl hb).trans h4⟩
/-- The cells of a call. -/
abbrev csO (o : OpV) : Array Value := #[.int .i64 o.kd, .int .i64 o.k.1, .int .i64 o.k.2.1, .int .i64 o.k.2.2, .int .i64 o.t.1, .int .i64 o.t.2.1, .int .i64 o.t.2.2, .int .i64 o.i, .slice o.a o.n o.c]
/-- The state of the law's loop. -/
structure QS (w0 w : World) (F G : Nat → Prop) (p q j : Nat) (l : List T3) (L : List Mem) : Prop where
  ps : PS w0 w F G p q l L
  len : l.length ≤ j
  few : Few L (20 + 8 * j)
set_option maxHeartbeats 16000000 in
theorem alphaPlays_any (a : Option Addr) (n c : Nat) (l : List OpV) (w : World) (h : In cO 9 w a n l) (hl : ∀ o ∈ l, OpOk w o) (hm : n ≤ maxLen) :
    Calls Try.prog 3 #[.slice a n c] w fun e w' => e = .returned (.bool true) ∧ Kept Nil w w' := by
  unfold maxLen at hm
  have HIn := Lib.hid h
  have HL := Lib.hid hl
  clear h hl
  go_enter Try.func3, Try.ntmps3
  go_wp2_with fail
  refine (new_any w).mono ?_
  rintro e w1 ⟨rfl, s1, k1⟩
  have H1 := Lib.hid (show SN w w1 (fun i => i = w.heap.size) w.heap.size [] [] from ⟨s1, fun k e => by rw [e]; exact Nat.le_refl _, k1⟩)
  clear s1 k1
  generalize hp : w.heap.size = p at *
  have HP := Lib.hid hp
  clear hp
  by_cases hbig : 60 < n
  · have hd : decide (60 < (n : Int)) = true := decide_eq_true (by omega)
    go_wp2_with fail
    refine (awake_any _).mono ?_
    rintro e w2 ⟨rfl, k2⟩
    go_wp2_with fail
    go_ret
    exact ⟨rfl, H1.out.kept.trans k2 (fun _ _ g => g)⟩
  have hd : decide (60 < (n : Int)) = false := decide_eq_false (by omega)
  have hn60 : n ≤ 60 := by omega
  clear hbig
  go_upto_region 5 with fail
  have HPS := Lib.hid (show PS w (w1.alloc (.cells #[.slice none 0 0] 29)) (fun i => i = p) (fun i => i = w1.heap.size) p w1.heap.size [] [] from ⟨H1.out.keptN ((Kept.refl Nil w1).alloc _), ⟨none, 0, [], rfl, ⟨(fun b hb => by rw [hb]; simp), rfl, Blk.new _ _ _, Row.nil _ _, (fun b hb => by cases hb), (fun x hx => by cases hx), by simp [keysL]⟩⟩, (fun b hb => by rw [hb]; exact H1.out.kept.size), (fun b hb hg => by have := H1.out.inF hb; rw [hg] at this; exact Nat.lt_irrefl _ this)⟩)
  generalize w1.alloc (.cells #[.slice none 0 0] 29) = w2 at *
  generalize w1.heap.size = q at *
  clear H1 hd
  go_wp2_with fail
  go_loopw [34] (fun i wr => ∃ (j : Nat) (ll : List T3) (L : List Mem) (F G : Nat → Prop), j ≤ n ∧ i = .int .i64 j ∧ QS w wr F G p q j ll L) (fun i _ => n - (intOf i).toNat)
  case atStart => exact ⟨0, [], [], _, _, Nat.zero_le _, rfl, HPS.out, Nat.le_refl _, (fun m hm => by cases hm)⟩
  case round =>
    clear HPS
    obtain ⟨j, ll, L, F, G, hj, rfl, hQ⟩ := hrel
    have HQ := Lib.hid hQ
    clear hQ
    by_cases hjn : j < n
    · obtain ⟨o, ho⟩ : ∃ o, l[j]? = some o := ⟨l[j]'(by rw [HIn.out.1]; exact hjn), by simp⟩
      obtain ⟨bo, oo, e, hbo, hc⟩ := (HIn.out.kept HQ.out.ps.sn.kept).at_ ho
      subst e
      have HOK := Lib.hid (HL.out o (List.mem_of_getElem? ho))
      obtain ⟨kd, ⟨k1, k2, k3⟩, ⟨t1, t2, t3⟩, id, fa, fn, fc, fs⟩ := o
      have p0 := hc 0 _ rfl
      have p1 := hc 1 _ rfl
      have p2 := hc 2 _ rfl
      have p3 := hc 3 _ rfl
      have p4 := hc 4 _ rfl
      have p5 := hc 5 _ rfl
      have p6 := hc 6 _ rfl
      have p7 := hc 7 _ rfl
      have p8 := hc 8 _ rfl
      rw [Nat.add_zero] at p0
      simp only at p0 p1 p2 p3 p4 p5 p6 p7 p8
      have HKa := Lib.hid ((Kept.refl Nil wr).alloc (.cells (csO ⟨kd, (k1, k2, k3), (t1, t2, t3), id, fa, fn, fc, fs⟩) 34))
      have HBx := Lib.hid (Blk.new wr 34 (csO ⟨kd, (k1, k2, k3), (t1, t2, t3), id, fa, fn, fc, fs⟩))
      have hFb : ¬ F wr.heap.size := fun e => Nat.lt_irrefl _ (HQ.out.ps.sn.inF e)
      have hGb : ¬ G wr.heap.size := fun e => Nat.lt_irrefl _ (HQ.out.ps.rs.inG e)
      have HPa := Lib.hid (HQ.out.ps.keptN HKa.out)
      have HFn := Lib.hid (fine_any (w := wr.alloc (.cells (csO ⟨kd, (k1, k2, k3), (t1, t2, t3), id, fa, fn, fc, fs⟩) 34)) (c := fc) kd (k1, k2, k3) (t1, t2, t3) id ((HOK.out.2.2.2.1.kept HQ.out.ps.sn.kept).kept HKa.out) HOK.out.2.2.2.2.2)
      clear ho hc
      go_wp2_with fail
      refine HFn.out.mono ?_
      rintro e w5 ⟨rfl, k5⟩
      have HP5 := Lib.hid (HPa.out.keptN k5)
      have HB5 := Lib.hid (HBx.out.kept k5 (fun e => e))
      have hb5 : wr.heap.size < w5.heap.size := HB5.out.lt
      clear k5 HPa HBx HKa HFn p0 p1 p2 p3 p4 p5 p6 p7 p8
      by_cases hfine : fineO (k1, k2, k3) (t1, t2, t3) fn fs = true
      rotate_left
      · have hf' : fineO (k1, k2, k3) (t1, t2, t3) fn fs = false := by simpa using hfine
        rw [hf']
        go_wp2_with fail
        refine (awake_any _).mono ?_
        rintro e w6 ⟨rfl, k6⟩
        go_wp2_with fail
        go_ret
        exact ⟨rfl, HP5.out.sn.kept.trans k6 (fun _ _ g => g)⟩
      rw [hfine]
      have HFI := Lib.hid (fineO_iff.1 hfine)
      have c0 := HB5.out.cell 0
      simp at c0
      clear hfine
      generalize wr.heap.size = b6 at *
      go_upto_block 2 with fail
      go_cut [] from 44 to 177 (fun wx => ∃ (ll' : List T3) (L' : List Mem) (F' G' : Nat → Prop), QS w wx F' G' p q (j + 1) ll' L' ∧ Blk wx b6 34 (csO ⟨kd, (k1, k2, k3), (t1, t2, t3), id, fa, fn, fc, fs⟩) ∧ ¬ F' b6 ∧ ¬ G' b6)
      case first =>
        have hFew1 : Few L (20 + 8 * (j + 1)) := HQ.out.few.mono (by omega)
        have hll1 : ll.length ≤ j + 1 := Nat.le_succ_of_le HQ.out.len
        have hL60 : L.length ≤ 60 := by have := HQ.out.ps.sn.sto.le; have := HQ.out.len; omega
        have ok1 : K3.ok (k1, k2, k3) := HOK.out.1
        have ok2 : K3.ok (t1, t2, t3) := HOK.out.2.1
        have q1 := HB5.out.cell 1
        have q2 := HB5.out.cell 2
        have q3 := HB5.out.cell 3
        simp at q1 q2 q3
        by_cases e1 : kd = 1
        · as_aux_lemma =>
          subst e1
          have HPd := Lib.hid (HP5.out.keptN ((Kept.refl Nil w5).drew))
          have q8 := HB5.out.cell 8
          simp at q8
          have S0 := Lib.hid (show Seen12 w5.drew (fun i => F i ∨ G i) b6 (k1, k2, k3) (.slice fa fn fc) w5.drew from ⟨q1, q2, q3, q8, Kept.refl _ _⟩)
          have hfw : ∀ f ∈ fs, (Lit.int .i64 f.1).wf = true := fun f hf => (HOK.out.2.2.2.2.1 f hf).1
          have hfn20 : fn ≤ 20 := HFI.out.2.2.1
          have hIn0 : In cF 4 w fa fn fs := HOK.out.2.2.2.1
          have hfl : fs.length = fn := hIn0.1
          have hown : fn = 0 ∨ ∀ b, (Value.slice fa fn fc).ownBlock = some b → b < w.heap.size := by
            rcases hIn0.2 with e | ⟨b', o', e, hb', _⟩
            · exact .inl e
            · refine .inr (fun b hb => ?_)
              rw [e] at hb; cases hb; exact hb'
          have hawF : fn = 0 ∨ ∀ b, (Value.slice fa fn fc).ownBlock = some b → ¬ F b := hown.imp (fun e => e) (fun h b hb hF => absurd (h b hb) (Nat.not_lt.2 (HPd.out.sn.low b hF)))
          have HIF := Lib.hid (fun W (kw : Kept (fun i => F i ∨ G i) w5.drew W) => (hIn0.kept HPd.out.sn.kept).keptA (cap := fc) kw (hown.imp (fun e => e) (fun h b hb hF => absurd (h b hb) (Nat.not_lt.2 (hF.elim (HPd.out.sn.low b) (HPd.out.low b))))))
          have HA1 := Lib.hid (fun W (hs : Sto W F p ll L) (hi : In cF 4 W fa fn fs) => wantS_any (c := fc) (k := (k1, k2, k3)) hs (by have := HQ.out.len; omega) ok1 hi hfw (by omega) hawF)
          have HRf := Lib.hid (fun W (hi : In cF 4 W fa fn fs) => refF_any (c := fc) hi (by omega))
          have HR1 : Hid (∀ (W : World) (a7 : Option Addr) (c7 : Nat), RS W G q L → In cF 4 W a7 fn fs → Calls Try.prog 10 #[.pointer (some ⟨q, 0, none⟩), av (k1, k2, k3), .slice a7 fn c7] W fun e w' => e = .returned (.int .i64 ((wanted L (k1, k2, k3) : Int) + 1)) ∧ RGrew W w' G q (wantL L (k1, k2, k3) fs)) := Lib.hid fun W a7 c7 hr hi => by
            obtain ⟨ra, rc, LV, hLV, hRS⟩ := hr
            have hll : LV.length = L.length := by rw [← hLV, List.length_map]
            cases hmm : mem L (k1, k2, k3) with
            | none =>
              have := wantR_none (c2 := c7) hRS (k1, k2, k3) (by omega) (by rw [hLV]; exact hmm) hi (by omega)
              rw [hLV] at this
              rw [wanted_none hmm]
              exact this
            | some m =>
              have hmn : m.n ≤ 60 := by
                have h1 := (HP5.out.sn.sto.1 (k1, k2, k3)).trans (wanted_some hmm)
                have h2 := cnt_le (k1, k2, k3) ll
                have h3 := HQ.out.len
                omega
              have := wantR_some hRS (k1, k2, k3) (by omega) (m := m) (by rw [hLV]; exact hmm) (by omega) a7 fn c7 fs
              rw [hLV] at this
              rw [wanted_some hmm]
              exact this
          have HS2 := Lib.hid (fun w6 (k6 : Kept F w5.drew w6) => HPd.out.rs.kept k6 (fun b hb hF => HPd.out.apart b hF hb))
          have HS3 := Lib.hid (fun w8 (k8 : Kept G w5.drew w8) => HPd.out.sn.sto.kept k8 (fun b hb hG => HPd.out.apart b hb hG))
          have HFL := Lib.hid (fun b (hF : F b) => HPd.out.sn.inF hF)
          have hfew1 := few_want hFew1 (k1, k2, k3) fs (by omega)
          have HLn := HQ.out.len
          generalize (wanted L (k1, k2, k3) : Int) + 1 = wv at *
          clear q8 c0 hfw hIn0 hfl hown hawF
          go_upto_region 12 with fail
          go_region_held3 (Seen12 w5.drew (fun i => F i ∨ G i) b6 (k1, k2, k3) (.slice fa fn fc))
            (first | (with_reducible assumption) | (with_reducible exact S0.out) | (with_reducible exact seen12_kept k6 (fun _ e => .inl e) hFb (by with_reducible assumption)) | (with_reducible exact seen12_kept k8 (fun _ e => .inr e) hGb (by with_reducible assumption)) | (with_reducible exact seen12_kept k7 nil_h (nil_not _) (by with_reducible assumption)))
            (first
              | (go_at_call 9; (first | (with_reducible refine (HA1.out _ HPd.out.sn.sto (HIF.out _ (Kept.refl _ _))).mono ?_) | (with_reducible refine (HA1.out _ (HPd.out.sn.sto.keptN k7) (HIF.out _ (k7.mono (fun _ _ e => e.elim)))).mono ?_) | (with_reducible refine (HA1.out _ ((HPd.out.sn.sto.keptN k7).kept k8 (fun b hb hG => HPd.out.apart b hb hG)) (HIF.out _ ((k7.mono (fun _ _ e => e.elim)).trans k8 (fun _ _ e => .inr e)))).mono ?_)); rintro e w6 ⟨rfl, g6⟩; have k6 := g6.keptF; (first | (have h7 := h7.keptA (cap := c7) k6 (.inr (fun b hb hF => absurd (o7 b hb) (Nat.not_le.2 (HFL.out b hF))))) | skip))
              | (go_at_call 11; (first | (with_reducible refine (HRf.out _ (HIF.out _ (Kept.refl _ _))).mono ?_) | (with_reducible refine (HRf.out _ (HIF.out _ (k6.mono (fun _ _ e => .inl e)))).mono ?_)); rintro e w7 ⟨a7, c7, rfl, h7, o7, k7⟩)
              | (go_at_call 10; (first | (with_reducible refine (HR1.out _ _ _ (HPd.out.rs.keptN k7) h7).mono ?_) | (with_reducible refine (HR1.out _ _ _ ((HS2.out _ k6).keptN k7) h7).mono ?_) | (with_reducible refine (HR1.out _ _ _ ((HPd.out.rs.keptN k7).kept k6 (fun b hb hF => HPd.out.apart b hF hb)) h7).mono ?_)); rintro e w8 ⟨rfl, g8⟩; have k8 := g8.keptG))
          all_goals
            have HH : Hid (∃ F' G', PS w _ F' G' p q (ll ++ [(k1, k2, k3)]) (wantL L (k1, k2, k3) fs) ∧ (∀ k, F' k → F k ∨ w5.drew.heap.size ≤ k) ∧ (∀ k, G' k → G k ∨ w5.drew.heap.size ≤ k) ∧ Kept (fun k => F k ∨ G k) w5.drew _) := Lib.hid (by
              first
                | exact HPd.out.sr (g6.keptN k7) g8
                | (obtain ⟨F', G', x1, x2, x3, x4⟩ := (HPd.out.keptN k7).sr g6 g8
                   exact ⟨F', G', x1, fun b hb => (x2 b hb).imp (fun e => e) (Nat.le_trans k7.size), fun b hb => (x3 b hb).imp (fun e => e) (Nat.le_trans k7.size), (k7.mono (fun _ _ e => e.elim)).trans x4 (fun _ _ e => e)⟩)
                | (obtain ⟨F', G', x1, x2, x3, x4⟩ := (HPd.out.keptN k7).rs2 g8 g6
                   exact ⟨F', G', x1, fun b hb => (x2 b hb).imp (fun e => e) (Nat.le_trans k7.size), fun b hb => (x3 b hb).imp (fun e => e) (Nat.le_trans k7.size), (k7.mono (fun _ _ e => e.elim)).trans x4 (fun _ _ e => e)⟩))
            obtain ⟨F7, G7, p7, uf7, ug7, kk7⟩ := HH.out
            have HB7 := Lib.hid ((HB5.out.kept ((Kept.refl Nil w5).drew) (fun e => e)).kept kk7 (fun e => e.elim hFb hGb))
            have HP7 := Lib.hid p7
            have hsz5 : w5.drew.heap.size = w5.heap.size := rfl
            have hf7 : ¬ F7 b6 := fun e => (uf7 b6 e).elim hFb (fun h => by omega)
            have hg7 : ¬ G7 b6 := fun e => (ug7 b6 e).elim hGb (fun h => by omega)
            clear p7 uf7 ug7 kk7
            go_wp2_with fail
            go_meet
            exact ⟨_, _, F7, G7, ⟨HP7.out, by rw [List.length_append]; simp; omega, hfew1⟩, HB7.out, hf7, hg7⟩
        have n1 : (kd == 1) = false := beq_eq_false_iff_ne.2 e1
        by_cases e2 : kd = 2
        · as_aux_lemma =>
          subst e2
          have hpos : ∀ m ∈ L, 1 ≤ m.n := HP5.out.sn.sto.2.1
          cases hmm : mem L (k1, k2, k3) with
          | none =>
            have HD := Lib.hid (dropS_none (k := (k1, k2, k3)) HP5.out.sn.sto ok1 hmm)
            have HM := Lib.hid hmm
            clear hmm
            go_wp2_with fail
            refine HD.out.mono ?_
            rintro e w6 ⟨rfl, k6⟩
            have HP6 := Lib.hid (HP5.out.keptN k6)
            have HB6 := Lib.hid (HB5.out.kept k6 (fun e => e))
            obtain ⟨ra, rc, LV, hLV, hRS⟩ := HP6.out.rs
            have HD2 := Lib.hid (dropR_none hRS (k1, k2, k3) (by have : LV.length = L.length := by { rw [← hLV, List.length_map] }; omega) (by rw [hLV]; exact HM.out))
            have r1 := HB6.out.cell 1
            have r2 := HB6.out.cell 2
            have r3 := HB6.out.cell 3
            simp at r1 r2 r3
            clear k6 q1 q2 q3 hRS hLV
            go_wp2_with fail
            refine HD2.out.mono ?_
            rintro e w7 ⟨rfl, k7⟩
            have HP7 := Lib.hid (HP6.out.keptN k7)
            have HB7 := Lib.hid (HB6.out.kept k7 (fun e => e))
            clear k7
            go_wp2_with fail
            go_meet
            exact ⟨ll, L, F, G, ⟨HP7.out, hll1, hFew1⟩, HB7.out, hFb, hGb⟩
          | some m =>
            have hmn : m.n ≤ 60 := by
              have h1 := (HP5.out.sn.sto.1 (k1, k2, k3)).trans (wanted_some hmm)
              have h2 := cnt_le (k1, k2, k3) ll
              omega
            have hmp := hpos m (mem_some hmm).1
            have HD := Lib.hid (dropS_some (k := (k1, k2, k3)) HP5.out.sn.sto ok1 hmm)
            have HM := Lib.hid hmm
            generalize hmn' : m.n = mn at *
            have HMN := Lib.hid hmn'
            clear hmm hmn'
            go_wp2_with fail
            refine HD.out.mono ?_
            rintro e w6 ⟨rfl, g6⟩
            obtain ⟨F6, s6, rs6, ap6, kk6, up6⟩ := HP5.out.sto g6
            have HB6 := Lib.hid (HB5.out.kept kk6 hFb)
            have HG6 := Lib.hid g6
            obtain ⟨ra, rc, LV, hLV, hRS⟩ := rs6
            have HD2 := Lib.hid (dropR_some hRS (k1, k2, k3) (by have : LV.length = L.length := by { rw [← hLV, List.length_map] }; omega) (m := m) (by rw [hLV]; exact HM.out) (by rw [HMN.out]; exact hmp) (by rw [HMN.out]; omega))
            rw [hLV, HMN.out] at HD2
            have r1 := HB6.out.cell 1
            have r2 := HB6.out.cell 2
            have r3 := HB6.out.cell 3
            simp at r1 r2 r3
            clear s6 ap6 kk6 up6 q1 q2 q3 hRS hLV g6
            go_wp2_with fail
            refine HD2.out.mono ?_
            rintro e w7 ⟨rfl, g7⟩
            obtain ⟨F7, G7, p7, uf7, ug7, kk7⟩ := HP5.out.sr HG6.out g7
            have HB7 := Lib.hid (HB5.out.kept kk7 (fun e => e.elim hFb hGb))
            have HP7 := Lib.hid p7
            have hf7 : ¬ F7 b6 := fun e => (uf7 b6 e).elim hFb (fun h => by omega)
            have hg7 : ¬ G7 b6 := fun e => (ug7 b6 e).elim hGb (fun h => by omega)
            have hfd : Few (dropL L (k1, k2, k3)) (20 + 8 * (j + 1)) := by
              intro y hy
              unfold dropL at hy
              split at hy
              · exact hFew1 y (List.mem_filter.1 hy).1
              · obtain ⟨z, hz, rfl⟩ := mem_of_upd hy
                have := hFew1 z hz
                split <;> exact this
            have hdl := drp_le (k1, k2, k3) ll
            clear g7 p7 uf7 ug7 kk7
            go_wp2_with fail
            go_meet
            exact ⟨_, _, F7, G7, ⟨HP7.out, by omega, hfd⟩, HB7.out, hf7, hg7⟩
        have n2 : (kd == 2) = false := beq_eq_false_iff_ne.2 e2
        by_cases e3 : kd = 3
        · as_aux_lemma =>
          subst e3
          have hidw : (Lit.int .i64 id).wf = true := HOK.out.2.2.1
          have q4 := HB5.out.cell 4
          have q5 := HB5.out.cell 5
          have q6 := HB5.out.cell 6
          simp at q4 q5 q6
          have HTr := Lib.hid (touchedRS_any HP5.out.rs (t1, t2, t3) (by omega))
          have HAdd := Lib.hid (fun W (hs : Sto W F p ll L) => addS_any hs hidw ok2 HQ.out.few (by omega))
          have hfR := few_runPut HQ.out.few id (touched L (t1, t2, t3))
          have hrs := runK_snoc (fun L k => canPut L k id) (fun L k => putL L k id)
          have hrl := runK_le (fun L k => canPut L k id) (fun L k => putL L k id) L
          have hrn := runK_len (ans := fun L k => canPut L k id) (act := fun L k => putL L k id) (putL_len id) L
          have r0 : runK (fun L k => canPut L k id) (fun L k => putL L k id) [] L = (L, []) := rfl
          have htl := touched_le L (t1, t2, t3)
          generalize runK (fun L k => canPut L k id) (fun L k => putL L k id) = R at *
          generalize touched L (t1, t2, t3) = ks at *
          generalize hn8 : ks.length = n8 at *
          have HH := Lib.hid (And.intro hfR (And.intro hrs (And.intro hrl (And.intro hrn (And.intro r0 hn8)))))
          clear hfR hrs hrl hrn r0 hn8
          go_wp2_with fail
          refine HTr.out.mono ?_
          rintro e w6 ⟨aT, cT', rfl, hT, k6⟩
          have HP6 := Lib.hid (HP5.out.keptN k6)
          have HB6 := Lib.hid (HB5.out.kept k6 (fun e => e))
          have hb6 : b6 < w6.heap.size := HB6.out.lt
          have HT := Lib.hid hT
          have hTo : ∀ b, (Value.slice aT n8 cT').ownBlock = some b → ¬ G b ∧ ¬ F b := fun b hb => ⟨fun hG => absurd (HP5.out.rs.inG hG) (Nat.not_lt.2 (hT.lt b hb).1), fun hF => absurd (HP5.out.sn.inF hF) (Nat.not_lt.2 (hT.lt b hb).1)⟩
          have HTo := Lib.hid hTo
          have HG6 := Lib.hid hGb
          clear hT k6 HTr q1 q2 q3 q4 q5 q6 c0 hTo
          go_wp2_with fail
          go_loopw [12, 92] (fun v i' wk => ∃ (j2 : Nat) (a : Option Addr) (cap : Nat) (G2 : Nat → Prop), j2 ≤ n8 ∧ i' = .int .i64 j2 ∧ v = .slice a (R (ks.take j2) L).2.length cap ∧ WR w6 wk G G2 q (.slice a (R (ks.take j2) L).2.length cap) (R (ks.take j2) L).1 (R (ks.take j2) L).2) (fun _ i' _ => n8 - (intOf i').toNat)
          case atStart =>
            refine ⟨0, none, 0, G, Nat.zero_le _, rfl, ?_⟩
            rw [List.take_zero, HH.out.2.2.2.2.1]
            exact ⟨rfl, WR.start HP6.out.rs⟩
          case round =>
            obtain ⟨j2, a2, cap2, G2, hj2, rfl, rfl, hW⟩ := hrel
            have HW := Lib.hid hW
            clear hW
            have HBk := Lib.hid (HB6.out.kept HW.out.kept HG6.out)
            have d0 := HBk.out.cell 0
            have d7 := HBk.out.cell 7
            have hbr : b6 < wr.heap.size := HBk.out.lt
            simp at d0 d7
            by_cases hj2n : j2 < n8
            · obtain ⟨k, hk⟩ : ∃ k, ks[j2]? = some k := ⟨ks[j2]'(by rw [HH.out.2.2.2.2.2]; exact hj2n), by simp⟩
              obtain ⟨bf, o, e, hbf, z0, z1, z2⟩ := ((HT.out.toIn cT_len (by decide)).keptF (cap := cT') HW.out.kept (fun b hb => (HTo.out b hb).1)).three hk
              subst e
              have HE := Lib.hid (show R (ks.take (j2 + 1)) L = (putL (R (ks.take j2) L).1 k id, if canPut (R (ks.take j2) L).1 k id then (R (ks.take j2) L).2 ++ [k] else (R (ks.take j2) L).2) from by
                rw [List.take_add_one, hk]
                exact HH.out.2.1 (ks.take j2) L k)
              have hq8 : Few (R (ks.take j2) L).1 900 := (HH.out.1 j2).mono (by omega)
              have hl8 : (R (ks.take j2) L).1.length ≤ 1000 := by rw [HH.out.2.2.2.1]; omega
              have hr8 : (R (ks.take j2) L).2.length ≤ 8 := by
                have h1 := HH.out.2.2.1 (ks.take j2)
                have h2 : (ks.take j2).length ≤ ks.length := List.length_take_le' ..
                have h3 := HH.out.2.2.2.2.2
                omega
              generalize (R (ks.take j2) L).1 = L1 at *
              generalize (R (ks.take j2) L).2 = T at *
              generalize hn2 : T.length = n2 at *
              have HN2 := Lib.hid hn2
              obtain ⟨x, y, z⟩ := k
              simp only at z0 z1 z2
              have Ka := Lib.hid ((Kept.refl Nil wr).alloc (.cells #[.int .i64 x, .int .i64 y, .int .i64 z] 30))
              have Bx := Lib.hid (B3.new wr 30 (x, y, z))
              have HWa := Lib.hid (HW.out.keptN Ka.out)
              have HPC := Lib.hid (putRS_any HWa.out.rs (x, y, z) id hl8 hq8)
              have hnG : ¬ G2 wr.heap.size := fun hG => Nat.lt_irrefl _ (HW.out.rs.inG hG)
              have hnB : b6 ≠ wr.heap.size := Nat.ne_of_lt hbr
              clear hk hq8 hl8 hn2
              by_cases hc : canPut L1 (x, y, z) id = true
              · have ho : oneI (canPut L1 (x, y, z) id) = 1 := by rw [hc]; rfl
                rw [ho] at HPC
                rw [if_pos hc] at HE
                clear ho hc
                go_wp2_with fail
                refine HPC.out.mono ?_
                rintro e w8 ⟨rfl, g8⟩
                obtain ⟨G3, hW8⟩ := HWa.out.act g8
                have HW8 := Lib.hid hW8
                have ⟨c0, c1, c2⟩ := Bx.out.kept g8.keptG hnG
                obtain ⟨a', cap', w9, r9, hW9⟩ := hW8.push HN2.out.symm (by rw [HN2.out]; omega) (x, y, z) #[.int .i64 x, .int .i64 y, .int .i64 z] rfl
                have HW9 := Lib.hid hW9
                have R9 := Lib.hid r9
                have HB8 := Lib.hid (HB6.out.kept hW8.kept HG6.out)
                have f0 := HB8.out.cell 0
                have f7 := HB8.out.cell 7
                have hbr8 : b6 < w8.heap.size := HB8.out.lt
                simp at f0 f7
                clear g8 hW8 r9 hW9 HPC z0 z1 z2 d0 d7 Bx Ka
                go_wp2_with (at_builtin; refine wpList_append_run rfl (.tmp 120) (.tmp 122) 46 rfl _ _ rfl rfl R9.out ?_)
                go_roundw
                case rel =>
                  refine ⟨j2 + 1, a', cap', G3, hj2n, by go_num, ?_⟩
                  rw [HE.out]
                  have e3 : (T ++ [(x, y, z)]).length = n2 + 1 := by rw [List.length_append, HN2.out]; rfl
                  simp only [e3]
                  exact ⟨trivial, HW9.out⟩
                case measure => simp [intOf]; omega
              · have hc' : canPut L1 (x, y, z) id = false := by simpa using hc
                have ho : oneI (canPut L1 (x, y, z) id) = 0 := by rw [hc']; rfl
                rw [ho] at HPC
                rw [if_neg hc] at HE
                clear ho hc hc'
                go_wp2_with fail
                refine HPC.out.mono ?_
                rintro e w8 ⟨rfl, g8⟩
                obtain ⟨G3, hW8⟩ := HWa.out.act g8
                have HW8 := Lib.hid hW8
                have HB8 := Lib.hid (HB6.out.kept hW8.kept HG6.out)
                have f0 := HB8.out.cell 0
                have f7 := HB8.out.cell 7
                have hbr8 : b6 < w8.heap.size := HB8.out.lt
                simp at f0 f7
                clear g8 hW8 HPC z0 z1 z2 d0 d7 Bx Ka
                go_wp2_with fail
                go_roundw
                case rel =>
                  refine ⟨j2 + 1, a2, cap2, G3, hj2n, by go_num, ?_⟩
                  rw [HE.out]
                  simp only [HN2.out]
                  exact ⟨trivial, HW8.out⟩
                case measure => simp [intOf]; omega
            · obtain rfl : j2 = n8 := by omega
              have e1 : ks.take j2 = ks := List.take_of_length_le (by rw [HH.out.2.2.2.2.2]; exact Nat.le_refl _)
              rw [e1] at HW ⊢
              have HAd := Lib.hid (HAdd.out _ (HP6.out.sn.sto.kept HW.out.kept HP6.out.apart))
              have hR8 : (R ks L).2.length ≤ 8 := by
                have h1 := HH.out.2.2.1 ks
                have h3 := HH.out.2.2.2.2.2
                omega
              have hFewR : Few (R ks L).1 (20 + 8 * (j + 1)) := by
                have := HH.out.1 8
                rw [List.take_of_length_le (by have := HH.out.2.2.2.2.2; omega)] at this
                exact this.mono (by omega)
              have HFewR := Lib.hid hFewR
              generalize (R ks L).1 = LR at *
              generalize (R ks L).2 = TR at *
              generalize hnR : TR.length = nR at *
              have HNR := Lib.hid hnR
              have d4 := HBk.out.cell 4
              have d5 := HBk.out.cell 5
              have d6 := HBk.out.cell 6
              simp at d4 d5 d6
              clear hFewR hnR e1 HAdd
              go_wp2_with fail
              refine HAd.out.mono ?_
              rintro e w9 ⟨aA, cA, rfl, hA, sA⟩
              have HA := Lib.hid (hA.toIn cT_len (by decide))
              have HWi := Lib.hid ((HW.out.row.toIn cT_len (by decide)).keptF (cap := cap2) sA.2 (fun b hb hF => absurd (HP6.out.sn.inF hF) (Nat.not_lt.2 (HW.out.row.lt b hb).1)))
              obtain ⟨F7, G7, p7, uf7, ug7, kk7⟩ := HP6.out.rs2 ⟨G2, HW.out.rs, HW.out.up, HW.out.kept⟩ sA.grew
              have HB7 := Lib.hid (HB6.out.kept kk7 (fun e => e.elim hFb hGb))
              have HP7 := Lib.hid p7
              have hf7 : ¬ F7 b6 := fun e => (uf7 b6 e).elim hFb (fun h => by omega)
              have hg7 : ¬ G7 b6 := fun e => (ug7 b6 e).elim hGb (fun h => by omega)
              have HK9 := Lib.hid (decide_eq_true (rfl : TR = TR) ▸ keysL_any (c := cA) (c' := cap2) HA.out HWi.out (by omega) (by omega))
              clear hA sA p7 uf7 ug7 kk7 d0 d4 d5 d6 d7 HAd
              go_wp2_with fail
              refine HK9.out.mono ?_
              rintro e w10 ⟨rfl, k10⟩
              have HP10 := Lib.hid (HP7.out.keptN k10)
              have HB10 := Lib.hid (HB7.out.kept k10 (fun e => e))
              clear k10
              go_wp2_with fail
              go_meet
              exact ⟨ll, LR, F7, G7, ⟨HP10.out, hll1, HFewR.out⟩, HB10.out, hf7, hg7⟩
        have n3 : (kd == 3) = false := beq_eq_false_iff_ne.2 e3
        by_cases e4 : kd = 4
        · as_aux_lemma =>
          subst e4
          have hidw : (Lit.int .i64 id).wf = true := HOK.out.2.2.1
          have q4 := HB5.out.cell 4
          have q5 := HB5.out.cell 5
          have q6 := HB5.out.cell 6
          simp at q4 q5 q6
          have HTr := Lib.hid (touchedRS_any HP5.out.rs (t1, t2, t3) (by omega))
          have HAdd := Lib.hid (fun W (hs : Sto W F p ll L) => removeS_any hs hidw ok2 HQ.out.few (by omega))
          have hfR := few_runTake HQ.out.few id (touched L (t1, t2, t3))
          have hrs := runK_snoc (fun L k => canTake L k id) (fun L k => takeL L k id)
          have hrl := runK_le (fun L k => canTake L k id) (fun L k => takeL L k id) L
          have hrn := runK_len (ans := fun L k => canTake L k id) (act := fun L k => takeL L k id) (takeL_len id) L
          have r0 : runK (fun L k => canTake L k id) (fun L k => takeL L k id) [] L = (L, []) := rfl
          have htl := touched_le L (t1, t2, t3)
          generalize runK (fun L k => canTake L k id) (fun L k => takeL L k id) = R at *
          generalize touched L (t1, t2, t3) = ks at *
          generalize hn8 : ks.length = n8 at *
          have HH := Lib.hid (And.intro hfR (And.intro hrs (And.intro hrl (And.intro hrn (And.intro r0 hn8)))))
          clear hfR hrs hrl hrn r0 hn8
          go_wp2_with fail
          refine HTr.out.mono ?_
          rintro e w6 ⟨aT, cT', rfl, hT, k6⟩
          have HP6 := Lib.hid (HP5.out.keptN k6)
          have HB6 := Lib.hid (HB5.out.kept k6 (fun e => e))
          have hb6 : b6 < w6.heap.size := HB6.out.lt
          have HT := Lib.hid hT
          have hTo : ∀ b, (Value.slice aT n8 cT').ownBlock = some b → ¬ G b ∧ ¬ F b := fun b hb => ⟨fun hG => absurd (HP5.out.rs.inG hG) (Nat.not_lt.2 (hT.lt b hb).1), fun hF => absurd (HP5.out.sn.inF hF) (Nat.not_lt.2 (hT.lt b hb).1)⟩
          have HTo := Lib.hid hTo
          have HG6 := Lib.hid hGb
          clear hT k6 HTr q1 q2 q3 q4 q5 q6 c0 hTo
          go_wp2_with fail
          go_loopw [12, 92] (fun v i' wk => ∃ (j2 : Nat) (a : Option Addr) (cap : Nat) (G2 : Nat → Prop), j2 ≤ n8 ∧ i' = .int .i64 j2 ∧ v = .slice a (R (ks.take j2) L).2.length cap ∧ WR w6 wk G G2 q (.slice a (R (ks.take j2) L).2.length cap) (R (ks.take j2) L).1 (R (ks.take j2) L).2) (fun _ i' _ => n8 - (intOf i').toNat)
          case atStart =>
            refine ⟨0, none, 0, G, Nat.zero_le _, rfl, ?_⟩
            rw [List.take_zero, HH.out.2.2.2.2.1]
            exact ⟨rfl, WR.start HP6.out.rs⟩
          case round =>
            obtain ⟨j2, a2, cap2, G2, hj2, rfl, rfl, hW⟩ := hrel
            have HW := Lib.hid hW
            clear hW
            have HBk := Lib.hid (HB6.out.kept HW.out.kept HG6.out)
            have d0 := HBk.out.cell 0
            have d7 := HBk.out.cell 7
            have hbr : b6 < wr.heap.size := HBk.out.lt
            simp at d0 d7
            by_cases hj2n : j2 < n8
            · obtain ⟨k, hk⟩ : ∃ k, ks[j2]? = some k := ⟨ks[j2]'(by rw [HH.out.2.2.2.2.2]; exact hj2n), by simp⟩
              obtain ⟨bf, o, e, hbf, z0, z1, z2⟩ := ((HT.out.toIn cT_len (by decide)).keptF (cap := cT') HW.out.kept (fun b hb => (HTo.out b hb).1)).three hk
              subst e
              have HE := Lib.hid (show R (ks.take (j2 + 1)) L = (takeL (R (ks.take j2) L).1 k id, if canTake (R (ks.take j2) L).1 k id then (R (ks.take j2) L).2 ++ [k] else (R (ks.take j2) L).2) from by
                rw [List.take_add_one, hk]
                exact HH.out.2.1 (ks.take j2) L k)
              have hq8 : Few (R (ks.take j2) L).1 900 := (HH.out.1 j2).mono (by omega)
              have hl8 : (R (ks.take j2) L).1.length ≤ 1000 := by rw [HH.out.2.2.2.1]; omega
              have hr8 : (R (ks.take j2) L).2.length ≤ 8 := by
                have h1 := HH.out.2.2.1 (ks.take j2)
                have h2 : (ks.take j2).length ≤ ks.length := List.length_take_le' ..
                have h3 := HH.out.2.2.2.2.2
                omega
              generalize (R (ks.take j2) L).1 = L1 at *
              generalize (R (ks.take j2) L).2 = T at *
              generalize hn2 : T.length = n2 at *
              have HN2 := Lib.hid hn2
              obtain ⟨x, y, z⟩ := k
              simp only at z0 z1 z2
              have Ka := Lib.hid ((Kept.refl Nil wr).alloc (.cells #[.int .i64 x, .int .i64 y, .int .i64 z] 30))
              have Bx := Lib.hid (B3.new wr 30 (x, y, z))
              have HWa := Lib.hid (HW.out.keptN Ka.out)
              have HPC := Lib.hid (takeRS_any HWa.out.rs (x, y, z) id hl8 hq8)
              have hnG : ¬ G2 wr.heap.size := fun hG => Nat.lt_irrefl _ (HW.out.rs.inG hG)
              have hnB : b6 ≠ wr.heap.size := Nat.ne_of_lt hbr
              clear hk hq8 hl8 hn2
              by_cases hc : canTake L1 (x, y, z) id = true
              · have ho : oneI (canTake L1 (x, y, z) id) = 1 := by rw [hc]; rfl
                rw [ho] at HPC
                rw [if_pos hc] at HE
                clear ho hc
                go_wp2_with fail
                refine HPC.out.mono ?_
                rintro e w8 ⟨rfl, g8⟩
                obtain ⟨G3, hW8⟩ := HWa.out.act g8
                have HW8 := Lib.hid hW8
                have ⟨c0, c1, c2⟩ := Bx.out.kept g8.keptG hnG
                obtain ⟨a', cap', w9, r9, hW9⟩ := hW8.push HN2.out.symm (by rw [HN2.out]; omega) (x, y, z) #[.int .i64 x, .int .i64 y, .int .i64 z] rfl
                have HW9 := Lib.hid hW9
                have R9 := Lib.hid r9
                have HB8 := Lib.hid (HB6.out.kept hW8.kept HG6.out)
                have f0 := HB8.out.cell 0
                have f7 := HB8.out.cell 7
                have hbr8 : b6 < w8.heap.size := HB8.out.lt
                simp at f0 f7
                clear g8 hW8 r9 hW9 HPC z0 z1 z2 d0 d7 Bx Ka
                go_wp2_with (at_builtin; refine wpList_append_run rfl (.tmp 120) (.tmp 122) 46 rfl _ _ rfl rfl R9.out ?_)
                go_roundw
                case rel =>
                  refine ⟨j2 + 1, a', cap', G3, hj2n, by go_num, ?_⟩
                  rw [HE.out]
                  have e3 : (T ++ [(x, y, z)]).length = n2 + 1 := by rw [List.length_append, HN2.out]; rfl
                  simp only [e3]
                  exact ⟨trivial, HW9.out⟩
                case measure => simp [intOf]; omega
              · have hc' : canTake L1 (x, y, z) id = false := by simpa using hc
                have ho : oneI (canTake L1 (x, y, z) id) = 0 := by rw [hc']; rfl
                rw [ho] at HPC
                rw [if_neg hc] at HE
                clear ho hc hc'
                go_wp2_with fail
                refine HPC.out.mono ?_
                rintro e w8 ⟨rfl, g8⟩
                obtain ⟨G3, hW8⟩ := HWa.out.act g8
                have HW8 := Lib.hid hW8
                have HB8 := Lib.hid (HB6.out.kept hW8.kept HG6.out)
                have f0 := HB8.out.cell 0
                have f7 := HB8.out.cell 7
                have hbr8 : b6 < w8.heap.size := HB8.out.lt
                simp at f0 f7
                clear g8 hW8 HPC z0 z1 z2 d0 d7 Bx Ka
                go_wp2_with fail
                go_roundw
                case rel =>
                  refine ⟨j2 + 1, a2, cap2, G3, hj2n, by go_num, ?_⟩
                  rw [HE.out]
                  simp only [HN2.out]
                  exact ⟨trivial, HW8.out⟩
                case measure => simp [intOf]; omega
            · obtain rfl : j2 = n8 := by omega
              have e1 : ks.take j2 = ks := List.take_of_length_le (by rw [HH.out.2.2.2.2.2]; exact Nat.le_refl _)
              rw [e1] at HW ⊢
              have HAd := Lib.hid (HAdd.out _ (HP6.out.sn.sto.kept HW.out.kept HP6.out.apart))
              have hR8 : (R ks L).2.length ≤ 8 := by
                have h1 := HH.out.2.2.1 ks
                have h3 := HH.out.2.2.2.2.2
                omega
              have hFewR : Few (R ks L).1 (20 + 8 * (j + 1)) := by
                have := HH.out.1 8
                rw [List.take_of_length_le (by have := HH.out.2.2.2.2.2; omega)] at this
                exact this.mono (by omega)
              have HFewR := Lib.hid hFewR
              generalize (R ks L).1 = LR at *
              generalize (R ks L).2 = TR at *
              generalize hnR : TR.length = nR at *
              have HNR := Lib.hid hnR
              have d4 := HBk.out.cell 4
              have d5 := HBk.out.cell 5
              have d6 := HBk.out.cell 6
              simp at d4 d5 d6
              clear hFewR hnR e1 HAdd
              go_wp2_with fail
              refine HAd.out.mono ?_
              rintro e w9 ⟨aA, cA, rfl, hA, sA⟩
              have HA := Lib.hid (hA.toIn cT_len (by decide))
              have HWi := Lib.hid ((HW.out.row.toIn cT_len (by decide)).keptF (cap := cap2) sA.2 (fun b hb hF => absurd (HP6.out.sn.inF hF) (Nat.not_lt.2 (HW.out.row.lt b hb).1)))
              obtain ⟨F7, G7, p7, uf7, ug7, kk7⟩ := HP6.out.rs2 ⟨G2, HW.out.rs, HW.out.up, HW.out.kept⟩ sA.grew
              have HB7 := Lib.hid (HB6.out.kept kk7 (fun e => e.elim hFb hGb))
              have HP7 := Lib.hid p7
              have hf7 : ¬ F7 b6 := fun e => (uf7 b6 e).elim hFb (fun h => by omega)
              have hg7 : ¬ G7 b6 := fun e => (ug7 b6 e).elim hGb (fun h => by omega)
              have HK9 := Lib.hid (decide_eq_true (rfl : TR = TR) ▸ keysL_any (c := cA) (c' := cap2) HA.out HWi.out (by omega) (by omega))
              clear hA sA p7 uf7 ug7 kk7 d0 d4 d5 d6 d7 HAd
              go_wp2_with fail
              refine HK9.out.mono ?_
              rintro e w10 ⟨rfl, k10⟩
              have HP10 := Lib.hid (HP7.out.keptN k10)
              have HB10 := Lib.hid (HB7.out.kept k10 (fun e => e))
              clear k10
              go_wp2_with fail
              go_meet
              exact ⟨ll, LR, F7, G7, ⟨HP10.out, hll1, HFewR.out⟩, HB10.out, hf7, hg7⟩
        have n4 : (kd == 4) = false := beq_eq_false_iff_ne.2 e4
        by_cases e5 : kd = 5
        · as_aux_lemma =>
          subst e5
          have hidw : (Lit.int .i64 id).wf = true := HOK.out.2.2.1
          have hfew6 : Few L 600 := HQ.out.few.mono (by omega)
          have HPd := Lib.hid (HP5.out.keptN ((Kept.refl Nil w5).drew))
          have q7 := HB5.out.cell 7
          simp at q7
          have S0 := Lib.hid (show Seen35 b6 (k1, k2, k3) id w5.drew from ⟨q1, q2, q3, q7⟩)
          have HA1 := Lib.hid (fun W (hs : Sto W F p ll L) => putS_any (k := (k1, k2, k3)) (i := id) hs ok1 hidw (fun m hm => Nat.le_trans (hfew6 m hm) (by omega)))
          have HR1 : Hid (∀ W, RS W G q L → Calls Try.prog 15 #[.pointer (some ⟨q, 0, none⟩), av (k1, k2, k3), .int .i64 id] W fun e w' => e = .returned (.int .i64 (oneI (canPut L (k1, k2, k3) id))) ∧ RGrew W w' G q (putL L (k1, k2, k3) id)) := Lib.hid fun W hr => by
            obtain ⟨ra, rc, LV, hLV, hRS⟩ := hr
            have := putR_any hRS (k1, k2, k3) id (by have e1 : LV.length = L.length := (by rw [← hLV, List.length_map]); omega) (by rw [hLV]; exact hfew6.mono (by omega))
            rw [hLV] at this
            exact this
          have HS2 := Lib.hid (fun w6 (k6 : Kept F w5.drew w6) => HPd.out.rs.kept k6 (fun b hb hF => HPd.out.apart b hF hb))
          have HS3 := Lib.hid (fun w8 (k8 : Kept G w5.drew w8) => HPd.out.sn.sto.kept k8 (fun b hb hG => HPd.out.apart b hb hG))
          generalize hcp : canPut L (k1, k2, k3) id = cb at *
          clear hcp q7 c0
          go_upto_region 35 with fail
          go_region_held3 (Seen35 b6 (k1, k2, k3) id)
            (first | (with_reducible assumption) | (with_reducible exact S0.out) | (with_reducible exact seen35_kept k6 hFb (by with_reducible assumption)) | (with_reducible exact seen35_kept k8 hGb (by with_reducible assumption)))
            (first
              | (go_at_call 21; (first | (with_reducible refine (HA1.out _ HPd.out.sn.sto).mono ?_) | (with_reducible refine (HA1.out _ (HS3.out _ k8)).mono ?_)); rintro e w6 ⟨rfl, s6⟩; have k6 := s6.2)
              | (go_at_call 20; (with_reducible refine (one_any _ _).mono ?_); rintro e w7 ⟨rfl, rfl⟩)
              | (go_at_call 15; (first | (with_reducible refine (HR1.out _ HPd.out.rs).mono ?_) | (with_reducible refine (HR1.out _ (HS2.out _ k6)).mono ?_)); rintro e w8 ⟨rfl, g8⟩; have k8 := g8.keptG))
          all_goals
            have HH : Hid (∃ F' G', PS w _ F' G' p q ll (putL L (k1, k2, k3) id) ∧ (∀ k, F' k → F k ∨ w5.drew.heap.size ≤ k) ∧ (∀ k, G' k → G k ∨ w5.drew.heap.size ≤ k) ∧ Kept (fun k => F k ∨ G k) w5.drew _) := Lib.hid (by first | exact HPd.out.sr s6.grew g8 | exact HPd.out.rs2 g8 s6.grew)
            obtain ⟨F7, G7, p7, uf7, ug7, kk7⟩ := HH.out
            have HB7 := Lib.hid ((HB5.out.kept ((Kept.refl Nil w5).drew) (fun e => e)).kept kk7 (fun e => e.elim hFb hGb))
            have HP7 := Lib.hid p7
            have hsz5 : w5.drew.heap.size = w5.heap.size := rfl
            have hf7 : ¬ F7 b6 := fun e => (uf7 b6 e).elim hFb (fun h => by omega)
            have hg7 : ¬ G7 b6 := fun e => (ug7 b6 e).elim hGb (fun h => by omega)
            clear p7 uf7 ug7 kk7
            go_wp2_with fail
            go_meet
            exact ⟨ll, _, F7, G7, ⟨HP7.out, hll1, (few_put HQ.out.few (k1, k2, k3) id).mono (by omega)⟩, HB7.out, hf7, hg7⟩
        have n5 : (kd == 5) = false := beq_eq_false_iff_ne.2 e5
        by_cases e6 : kd = 6
        · as_aux_lemma =>
          subst e6
          have hidw : (Lit.int .i64 id).wf = true := HOK.out.2.2.1
          have hfew6 : Few L 600 := HQ.out.few.mono (by omega)
          have HPd := Lib.hid (HP5.out.keptN ((Kept.refl Nil w5).drew))
          have q7 := HB5.out.cell 7
          simp at q7
          have S0 := Lib.hid (show Seen35 b6 (k1, k2, k3) id w5.drew from ⟨q1, q2, q3, q7⟩)
          have HA1 := Lib.hid (fun W (hs : Sto W F p ll L) => takeS_any (k := (k1, k2, k3)) (i := id) hs ok1 hidw)
          have HR1 : Hid (∀ W, RS W G q L → Calls Try.prog 16 #[.pointer (some ⟨q, 0, none⟩), av (k1, k2, k3), .int .i64 id] W fun e w' => e = .returned (.int .i64 (oneI (canTake L (k1, k2, k3) id))) ∧ RGrew W w' G q (takeL L (k1, k2, k3) id)) := Lib.hid fun W hr => by
            obtain ⟨ra, rc, LV, hLV, hRS⟩ := hr
            have := takeR_any hRS (k1, k2, k3) id (by have e1 : LV.length = L.length := (by rw [← hLV, List.length_map]); omega) (by rw [hLV]; exact hfew6.mono (by omega))
            rw [hLV] at this
            exact this
          have HS2 := Lib.hid (fun w6 (k6 : Kept F w5.drew w6) => HPd.out.rs.kept k6 (fun b hb hF => HPd.out.apart b hF hb))
          have HS3 := Lib.hid (fun w8 (k8 : Kept G w5.drew w8) => HPd.out.sn.sto.kept k8 (fun b hb hG => HPd.out.apart b hb hG))
          generalize hcp : canTake L (k1, k2, k3) id = cb at *
          clear hcp q7 c0
          go_upto_region 38 with fail
          go_region_held3 (Seen35 b6 (k1, k2, k3) id)
            (first | (with_reducible assumption) | (with_reducible exact S0.out) | (with_reducible exact seen35_kept k6 hFb (by with_reducible assumption)) | (with_reducible exact seen35_kept k8 hGb (by with_reducible assumption)))
            (first
              | (go_at_call 22; (first | (with_reducible refine (HA1.out _ HPd.out.sn.sto).mono ?_) | (with_reducible refine (HA1.out _ (HS3.out _ k8)).mono ?_)); rintro e w6 ⟨rfl, s6⟩; have k6 := s6.2)
              | (go_at_call 20; (with_reducible refine (one_any _ _).mono ?_); rintro e w7 ⟨rfl, rfl⟩)
              | (go_at_call 16; (first | (with_reducible refine (HR1.out _ HPd.out.rs).mono ?_) | (with_reducible refine (HR1.out _ (HS2.out _ k6)).mono ?_)); rintro e w8 ⟨rfl, g8⟩; have k8 := g8.keptG))
          all_goals
            have HH : Hid (∃ F' G', PS w _ F' G' p q ll (takeL L (k1, k2, k3) id) ∧ (∀ k, F' k → F k ∨ w5.drew.heap.size ≤ k) ∧ (∀ k, G' k → G k ∨ w5.drew.heap.size ≤ k) ∧ Kept (fun k => F k ∨ G k) w5.drew _) := Lib.hid (by first | exact HPd.out.sr s6.grew g8 | exact HPd.out.rs2 g8 s6.grew)
            obtain ⟨F7, G7, p7, uf7, ug7, kk7⟩ := HH.out
            have HB7 := Lib.hid ((HB5.out.kept ((Kept.refl Nil w5).drew) (fun e => e)).kept kk7 (fun e => e.elim hFb hGb))
            have HP7 := Lib.hid p7
            have hsz5 : w5.drew.heap.size = w5.heap.size := rfl
            have hf7 : ¬ F7 b6 := fun e => (uf7 b6 e).elim hFb (fun h => by omega)
            have hg7 : ¬ G7 b6 := fun e => (ug7 b6 e).elim hGb (fun h => by omega)
            clear p7 uf7 ug7 kk7
            go_wp2_with fail
            go_meet
            exact ⟨ll, _, F7, G7, ⟨HP7.out, hll1, (few_take HQ.out.few (k1, k2, k3) id).mono (by omega)⟩, HB7.out, hf7, hg7⟩
        have n6 : (kd == 6) = false := beq_eq_false_iff_ne.2 e6
        go_wp2_with fail
        go_meet
        exact ⟨ll, L, F, G, ⟨HP5.out, hll1, hFew1⟩, HB5.out, hFb, hGb⟩
      case rest =>
       as_aux_lemma =>
        obtain ⟨ll', L', F', G', hQ6, hB6, hF6, hG6⟩ := hcut
        have HQ6 := Lib.hid hQ6
        have HB6 := Lib.hid hB6
        clear hQ6 hB6 HP5 HB5 HQ hFb hGb c0 hb5
        go_upto_region 40 with fail
        obtain ⟨ra, rc, LV, hLV, hRS⟩ := HQ6.out.ps.rs
        have HRS := Lib.hid hRS
        have hlen : LV.length = L'.length := by rw [← hLV, List.length_map]
        have hL60 : L'.length ≤ 60 := by have := HQ6.out.ps.sn.sto.le; have := HQ6.out.len; omega
        have hfew : Few L' 600 := HQ6.out.few.mono (by omega)
        have ok1 : K3.ok (k1, k2, k3) := HOK.out.1
        have ok2 : K3.ok (t1, t2, t3) := HOK.out.2.1
        have HLen := Lib.hid (fun W (kw : Kept Nil wc.drew W) => lenS_any ((HQ6.out.ps.sn.sto.keptN ((Kept.refl Nil wc).drew)).keptN kw))
        have HWa := Lib.hid (fun W (kw : Kept Nil wc.drew W) => wanted_any (k := (k1, k2, k3)) ((HQ6.out.ps.sn.sto.keptN ((Kept.refl Nil wc).drew)).keptN kw) ok1)
        have HWr := Lib.hid (fun W (kw : Kept Nil wc.drew W) => wantedR_any ((HRS.out.keptN ((Kept.refl Nil wc).drew)).keptN kw) (k1, k2, k3) (by omega))
        have HIa := Lib.hid (fun W (kw : Kept Nil wc.drew W) => itemsS_any (k := (k1, k2, k3)) ((HQ6.out.ps.sn.sto.keptN ((Kept.refl Nil wc).drew)).keptN kw) ok1 (fun m hm => Nat.le_trans (hfew m hm) (by omega)))
        have HIr := Lib.hid (fun W (kw : Kept Nil wc.drew W) => itemsR_any ((HRS.out.keptN ((Kept.refl Nil wc).drew)).keptN kw) (k1, k2, k3) (by omega))
        have HTa := Lib.hid (fun W (kw : Kept Nil wc.drew W) => touchedS_any ((HQ6.out.ps.sn.sto.keptN ((Kept.refl Nil wc).drew)).keptN kw) ok2)
        have HTr := Lib.hid (fun W (kw : Kept Nil wc.drew W) => touchedR_any ((HRS.out.keptN ((Kept.refl Nil wc).drew)).keptN kw) (t1, t2, t3) (by omega))
        have hit : (items L' (k1, k2, k3)).length ≤ 600 := by
          cases hmm : mem L' (k1, k2, k3) with
          | none => rw [items_none hmm]; exact Nat.zero_le _
          | some m => rw [items_some hmm]; exact hfew m (mem_some hmm).1
        have htt := touched_le L' (t1, t2, t3)
        rw [hLV] at HWr HIr HTr
        have hq0 := (hRS.keptN ((Kept.refl Nil wc).drew)).here.cell 0
        simp at hq0
        have b1 := HB6.out.cell 1
        have b2 := HB6.out.cell 2
        have b3 := HB6.out.cell 3
        have b4 := HB6.out.cell 4
        have b5 := HB6.out.cell 5
        have b6' := HB6.out.cell 6
        simp at b1 b2 b3 b4 b5 b6'
        have S0 := Lib.hid (show Seen40 wc.drew b6 q (k1, k2, k3) (t1, t2, t3) (.slice ra LV.length rc) wc.drew from ⟨b1, b2, b3, b4, b5, b6', hq0, Kept.refl _ _⟩)
        rw [hlen] at S0
        generalize hn5 : L'.length = n5 at *
        generalize wanted L' (k1, k2, k3) = wv at *
        have HKeys := Lib.hid (fun (W : World) (a1 a2 : Option Addr) (c1 c2 : Nat) (h1 : In cT 3 W a1 (touched L' (t1, t2, t3)).length (touched L' (t1, t2, t3))) (h2 : In cT 3 W a2 (touched L' (t1, t2, t3)).length (touched L' (t1, t2, t3))) => decide_eq_true (rfl : touched L' (t1, t2, t3) = touched L' (t1, t2, t3)) ▸ keysL_any (c := c1) (c' := c2) h1 h2 (by omega) (by omega))
        have HInts := Lib.hid (fun (W : World) (a1 a2 : Option Addr) (c1 c2 : Nat) (h1 : In cN 1 W a1 (items L' (k1, k2, k3)).length (items L' (k1, k2, k3))) (h2 : In cN 1 W a2 (items L' (k1, k2, k3)).length (items L' (k1, k2, k3))) => decide_eq_true (rfl : items L' (k1, k2, k3) = items L' (k1, k2, k3)) ▸ ints_any (c := c1) (c' := c2) h1 h2 (by omega) (by omega))
        generalize items L' (k1, k2, k3) = IT at *
        generalize touched L' (t1, t2, t3) = TT at *
        generalize IT.length = n6 at *
        generalize TT.length = n7 at *
        clear hRS hlen hL60 hfew hit htt hq0 b1 b2 b3 b4 b5 b6' hn5 ok1 ok2
        go_region_held3 (Seen40 wc.drew b6 q (k1, k2, k3) (t1, t2, t3) (.slice ra n5 rc))
          (first | (with_reducible assumption) | (with_reducible exact S0.out) | (with_reducible exact seen40_kept k18 (by with_reducible assumption)) | (with_reducible exact seen40_kept k17 (by with_reducible assumption)) | (with_reducible exact seen40_kept k16 (by with_reducible assumption)) | (with_reducible exact seen40_kept k15 (by with_reducible assumption)) | (with_reducible exact seen40_kept k14 (by with_reducible assumption)) | (with_reducible exact seen40_kept k13 (by with_reducible assumption)) | (with_reducible exact seen40_kept k12 (by with_reducible assumption)) | (with_reducible exact seen40_kept k11 (by with_reducible assumption)) | (with_reducible exact seen40_kept k10 (by with_reducible assumption)))
          (first
            | (go_at_call 23; (with_reducible refine (HLen.out _ (seen40_k (by with_reducible assumption))).mono ?_); rintro e w10 ⟨rfl, k10⟩)
            | (go_at_call 24; (with_reducible refine (HWa.out _ (seen40_k (by with_reducible assumption))).mono ?_); rintro e w11 ⟨rfl, k11⟩)
            | (go_at_call 25; (with_reducible refine (HWr.out _ (seen40_k (by with_reducible assumption))).mono ?_); rintro e w12 ⟨rfl, k12⟩)
            | (go_at_call 27; (with_reducible refine (HIa.out _ (seen40_k (by with_reducible assumption))).mono ?_); rintro e w13 ⟨a13, c13, rfl, r13, k13⟩; have h13 := r13.toIn cN_len (by decide); (first | (have h14 := h14.kept k13) | skip))
            | (go_at_call 28; (with_reducible refine (HIr.out _ (seen40_k (by with_reducible assumption))).mono ?_); rintro e w14 ⟨a14, c14, rfl, h14, _, k14⟩; (first | (have h13 := h13.kept k14) | skip))
            | (go_at_call 26; (with_reducible refine (HInts.out _ _ _ _ _ h13 h14).mono ?_); rintro e w15 ⟨rfl, k15⟩)
            | (go_at_call 29; (with_reducible refine (HTa.out _ (seen40_k (by with_reducible assumption))).mono ?_); rintro e w16 ⟨a16, c16, rfl, r16, k16⟩; have h16 := r16.toIn cT_len (by decide); (first | (have h17 := h17.kept k16) | skip))
            | (go_at_call 14; (with_reducible refine (HTr.out _ (seen40_k (by with_reducible assumption))).mono ?_); rintro e w17 ⟨a17, c17, rfl, r17, k17⟩; have h17 := r17.toIn cT_len (by decide); (first | (have h16 := h16.kept k17) | skip))
            | (go_at_call 19; (with_reducible refine (HKeys.out _ _ _ _ _ h16 h17).mono ?_); rintro e w18 ⟨rfl, k18⟩))
        all_goals
          have HK2 := Lib.hid (show Kept Nil wc.drew _ from seen40_k (by with_reducible assumption))
          go_wp2_with fail
          go_roundw
          case rel => exact ⟨j + 1, ll', L', F', G', hjn, by go_num, ⟨(HQ6.out.ps.keptN ((Kept.refl Nil wc).drew)).keptN HK2.out, HQ6.out.len, HQ6.out.few⟩⟩
          case measure => simp [intOf]; omega
    · as_aux_lemma =>
      obtain rfl : n = j := by omega
      rename World => wo
      obtain ⟨ra, rc, LV, hLV, hRS⟩ := HQ.out.ps.rs
      have HRS := Lib.hid hRS
      have hlen : LV.length = L.length := by rw [← hLV, List.length_map]
      have hL60 : L.length ≤ 60 := by have := HQ.out.ps.sn.sto.le; have := HQ.out.len; omega
      have hfew : Few L 600 := HQ.out.few.mono (by omega)
      have HFew := Lib.hid (And.intro hfew hLV)
      have hq0 := hRS.here.cell 0
      simp at hq0
      have hn5 : LV.length ≤ 60 := by omega
      generalize hnn : LV.length = n5 at *
      have HNN := Lib.hid hnn
      clear hRS hlen hL60 hfew hnn hLV
      go_wp2_with fail
      go_loopw [227] (fun i wk => ∃ j3 : Nat, j3 ≤ n5 ∧ i = .int .i64 j3 ∧ Kept Nil wo wk) (fun i _ => n5 - (intOf i).toNat)
      case atStart => exact ⟨0, Nat.zero_le _, rfl, Kept.refl _ _⟩
      case round =>
        obtain ⟨j3, hj3, rfl, hK⟩ := hrel
        have HK := Lib.hid hK
        clear hK
        by_cases hj3n : j3 < n5
        rotate_left
        · go_wp2_with fail
          refine (awake_any _).mono ?_
          rintro e w6 ⟨rfl, k6⟩
          go_wp2_with fail
          go_ret
          exact ⟨rfl, (HQ.out.ps.sn.kept.trans HK.out (fun _ _ g => g)).trans k6 (fun _ _ g => g)⟩
        obtain ⟨⟨⟨⟨x, y, z⟩, mn, mh⟩, u⟩, hx⟩ : ∃ x, LV[j3]? = some x := ⟨LV[j3]'(by rw [HNN.out]; exact hj3n), by simp⟩
        obtain ⟨g, e, hg, p0, p1, p2, p3, p4⟩ := (HRS.out.keptN HK.out).cells hx
        subst e
        obtain ⟨hro, _⟩ := HRS.out.has _ (List.mem_of_getElem? hx)
        obtain ⟨ah, ch, hsh⟩ := hro.shape
        simp only at p0 p1 p2 p3 p4 hro hsh
        subst hsh
        have hmL : (⟨(x, y, z), mn, mh⟩ : Mem) ∈ L := by rw [← HFew.out.2]; exact List.mem_map.2 ⟨_, List.mem_of_getElem? hx, rfl⟩
        have hmem := mem_of HQ.out.ps.sn.sto.keys hmL
        have hok : K3.ok (x, y, z) := by
          obtain ⟨_, _, _, _, _, hst⟩ := HQ.out.ps.sn.sto
          exact hst.ok _ hmL
        have hmh : mh.length ≤ 600 := HFew.out.1 _ hmL
        have kb := (Kept.refl Nil wr).alloc (.cells #[.int .i64 x, .int .i64 y, .int .i64 z, .int .i64 mn, .slice ah mh.length ch] 64)
        have hbk := Blk.new wr 64 #[.int .i64 x, .int .i64 y, .int .i64 z, .int .i64 mn, .slice ah mh.length ch]
        have HIa := Lib.hid (fun W (kw : Kept Nil (wr.alloc (.cells #[.int .i64 x, .int .i64 y, .int .i64 z, .int .i64 mn, .slice ah mh.length ch] 64)).drew W) => itemsS_any (k := (x, y, z)) ((HQ.out.ps.sn.sto.keptN (HK.out.trans kb.drew (fun _ _ e => e))).keptN kw) hok (fun m hm => Nat.le_trans (HFew.out.1 m hm) (by omega)))
        have HWa := Lib.hid (fun W (kw : Kept Nil (wr.alloc (.cells #[.int .i64 x, .int .i64 y, .int .i64 z, .int .i64 mn, .slice ah mh.length ch] 64)).drew W) => wanted_any (k := (x, y, z)) ((HQ.out.ps.sn.sto.keptN (HK.out.trans kb.drew (fun _ _ e => e))).keptN kw) hok)
        have HHas := Lib.hid (fun W (kw : Kept Nil (wr.alloc (.cells #[.int .i64 x, .int .i64 y, .int .i64 z, .int .i64 mn, .slice ah mh.length ch] 64)).drew W) => ((hro.toIn cN_len (by decide)).kept (HK.out.trans kb.drew (fun _ _ e => e))).kept kw)
        rw [items_some (m := ⟨(x, y, z), mn, mh⟩) hmem] at HIa
        rw [wanted_some (m := ⟨(x, y, z), mn, mh⟩) hmem] at HWa
        simp only at HIa HWa
        have HInts := Lib.hid (fun (W : World) (a1 a2 : Option Addr) (c1 c2 : Nat) (h1 : In cN 1 W a1 mh.length mh) (h2 : In cN 1 W a2 mh.length mh) => decide_eq_true (rfl : mh = mh) ▸ ints_any (c := c1) (c' := c2) h1 h2 (by omega) (by omega))
        have S0 := Lib.hid (show Seen46 (wr.alloc (.cells #[.int .i64 x, .int .i64 y, .int .i64 z, .int .i64 mn, .slice ah mh.length ch] 64)).drew wr.heap.size (x, y, z) mn (.slice ah mh.length ch) (wr.alloc (.cells #[.int .i64 x, .int .i64 y, .int .i64 z, .int .i64 mn, .slice ah mh.length ch] 64)).drew from ⟨hbk.cell 0, hbk.cell 1, hbk.cell 2, hbk.cell 3, hbk.cell 4, Kept.refl _ _⟩)
        have HKb := Lib.hid (HK.out.trans kb.drew (fun _ _ e => e))
        generalize mh.length = n6 at *
        clear hx hro hmL hmem hok hmh kb hbk
        go_upto_region 46 with fail
        generalize wr.alloc (.cells #[.int .i64 x, .int .i64 y, .int .i64 z, .int .i64 mn, .slice ah n6 ch] 64) = wb at *
        generalize wr.heap.size = bb at *
        clear p0 p1 p2 p3 p4
        go_region_held3 (Seen46 wb.drew bb (x, y, z) mn (.slice ah n6 ch))
          (first | (with_reducible assumption) | (with_reducible exact S0.out) | (with_reducible exact seen46_kept k15 (by with_reducible assumption)) | (with_reducible exact seen46_kept k13 (by with_reducible assumption)) | (with_reducible exact seen46_kept k11 (by with_reducible assumption)))
          (first
            | (go_at_call 24; (with_reducible refine (HWa.out _ (seen46_k (by with_reducible assumption))).mono ?_); rintro e w11 ⟨rfl, k11⟩)
            | (go_at_call 27; (with_reducible refine (HIa.out _ (seen46_k (by with_reducible assumption))).mono ?_); rintro e w13 ⟨a13, c13, rfl, r13, k13⟩; have h13 := r13.toIn cN_len (by decide))
            | (go_at_call 26; (with_reducible refine (HInts.out _ _ _ _ _ h13 (HHas.out _ (seen46_k (by with_reducible assumption)))).mono ?_); rintro e w15 ⟨rfl, k15⟩))
        all_goals
          have HK2 := Lib.hid (show Kept Nil wb.drew _ from seen46_k (by with_reducible assumption))
          go_wp2_with fail
          go_roundw
          case rel => exact ⟨j3 + 1, hj3n, by go_num, HKb.out.trans HK2.out (fun _ _ e => e)⟩
          case measure => simp [intOf]; omega
end Go.Proofs.Ythiijlngoikhkaa
