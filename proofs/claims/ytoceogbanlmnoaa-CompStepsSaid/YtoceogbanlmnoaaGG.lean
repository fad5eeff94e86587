/- Layer comp: the program's rightConds, Compile, Step. – Layer comp: the program's Step. – Layer comp: the law's own example. -/
import Derived.Test.YtoceogbanlmnoaaGF
import Derived.Test.YtoceogbanlmnoaaRB
import Derived.Test.YtoceogbanlmnoaaGB
namespace Go.Proofs.Ytoceogbanlmnoaa
section
open Go.RowKit
set_option maxRecDepth 100000

abbrev nmAny : ByteArray := ⟨#[97, 110, 121]⟩
theorem okAny : okName nmAny = true := by decide +kernel
/-- Conditions may be gone through. -/
def Goes (l : List Sh) : Prop := countL l ≤ 16 ∧ chkL l 1 = 0
theorem chkRule_goes {l : List Sh} (h : Goes l) (h0 : l.length ≠ 0) : chkRule true l = 0 ∨ chkRule true l = 6 := by
  unfold chkRule
  rw [if_neg (by simp), if_neg h0, if_neg (by rw [h.2]; simp), if_neg (by have := h.1; omega)]
  split
  · exact .inr rfl
  · exact .inl rfl
set_option maxHeartbeats 1000000 in
theorem rightConds_any (l : List Sh) (hg : Goes l) (ok : Nat → Nat → Prop) (a : Option Addr) (cap : Nat) (w : World) (h : Holds cA w ok (.slice a l.length cap) l) :
    Calls Try.prog 32 #[.slice a l.length cap] w fun e w' => e = .returned (.bool true) ∧ Kept Nil w w' := by
  by_cases h0 : l.length = 0
  · rw [h0]
    go_enter Try.func32, Try.ntmps32
    go_wp2_with fail
    go_ret
    exact ⟨rfl, Kept.refl _ _⟩
  · have hl0 : ((l.length : Int) == 0) = false := by rw [beq_eq_false_iff_ne]; omega
    have CC := Lib.hid (ruleCheck_any nmAny l ok a cap w (by decide) (by have := hg.1; omega) h)
    rw [okAny] at CC
    have hr := chkRule_goes hg h0
    generalize chkRule true l = r at CC hr
    generalize l.length = len at CC hl0 ⊢
    clear h hg h0
    rcases hr with rfl | rfl
    · go_enter Try.func32, Try.ntmps32
      go_wp2_with fail
      refine CC.out.mono ?_
      rintro e w2 ⟨rfl, k2⟩
      go_wp2_with fail
      go_ret
      exact ⟨rfl, k2⟩
    · go_enter Try.func32, Try.ntmps32
      go_wp2_with fail
      refine CC.out.mono ?_
      rintro e w2 ⟨rfl, k2⟩
      go_wp2_with fail
      go_ret
      exact ⟨rfl, k2⟩
set_option maxHeartbeats 1000000 in
theorem compile_any (l : List Sh) (hg : Goes l) (ok : Nat → Nat → Prop) (a : Option Addr) (cap : Nat) (w : World) (h : Holds cA w ok (.slice a l.length cap) l) :
    Calls Try.prog 10 #[.slice a l.length cap] w (StsEnd (stL l []) w) := by
  have CR := Lib.hid (rightConds_any l hg ok a cap w h)
  have CB : Hid (∀ W, Kept Nil w W → Calls Try.prog 33 #[.slice none 0 0, .slice a l.length cap] W (StsEnd (stL l []) W)) := Lib.hid fun W kW => behind_all.2 l (fun _ _ => True) ok [] none 0 a cap W (.nil none 0) (h.keptN kW) (by have := hg.1; simp; omega) ⟨1, hg.2⟩
  unfold StsEnd at CB
  rw [stL_length] at CB
  have HL : Hid ((stL l []).length = l.length) := Lib.hid (stL_length l [])
  generalize stL l [] = sl at CB HL ⊢
  generalize l.length = len at CR CB HL ⊢
  clear h hg
  go_enter Try.func10, Try.ntmps10
  go_wp2_with fail
  refine CR.out.mono ?_
  rintro e w2 ⟨rfl, k2⟩
  have K2 := Lib.hid k2
  clear k2
  go_wp2_with fail
  refine (CB.out _ K2.out).mono ?_
  rintro e w3 ⟨a3, c3, rfl, h3, k3⟩
  have K3 := Lib.hid (K2.out.trans k3 (fun _ _ g => g))
  have H3 := Lib.hid (h3.mono fun b o hb => hb.less K2.out.size)
  clear h3 k3
  go_wp2_with fail
  go_ret
  exact ⟨a3, c3, by rw [HL.out]; rfl, by rw [HL.out]; exact H3.out, K3.out⟩
end
section
open Go.RowKit
set_option maxRecDepth 100000

/-- The condition is put behind the chain's copy, from the world's block that holds it. -/
theorem step_round {W w2 : World} {B e : Nat} {u : Value} {ps : Prs} {ok okc : Nat → Nat → Prop} (hB : B ≤ w2.heap.size) (ho : ORow cA 27 w2 B u ps) (hk : Kids cA w2 ok ps) (hd : Hd) (sb : List Sh) (vs : Value) (hE : Blk w2 e 27 (arrA hd vs)) (hs : Holds cA w2 okc vs sb) (hok : ∀ b o, ok b o → b < B) (hokc : ∀ b o, okc b o → b < B) (hl : ps.length ≤ 200) (hWB : W.heap.size ≤ B) (k : Kept Nil W w2) :
    ∃ a3 c3 w3, (Builtin.append_ #[22, 22] 22 #[u, .slice (some ⟨e, 0, none⟩) 1 1]).run Try.prog w2 = .ok (.slice a3 (ps.length + 1) c3) w3 ∧
      Holds cA w3 (fun b _ => b < w3.heap.size) (.slice a3 (ps.length + 1) c3) (tr ps ++ [.mk hd sb]) ∧ Kept Nil W w3 := by
  obtain ⟨v5, w5, r5, o5, k5, _⟩ := ORow.append (P := Try.prog) (qs := [(.mk hd sb, vs)]) (ok := fun b _ => b < B) elsA kindA 22 ho (⟨_, _, rfl, .inr ⟨_, _, rfl, fun j x hj => by rw [Nat.zero_add, hE.cell j, ← hj]; unfold flatC; simp [Sh.hd]⟩⟩) (fun p hp => by
    rw [List.mem_singleton] at hp; subst hp; exact hs.mono hokc) (by simp; omega) hB
  have ks := k5.size
  have hkk : Kids cA w5 (fun b _ => b < w5.heap.size) (ps ++ [(.mk hd sb, vs)]) := fun p hp => by
    have nf : ∀ b, b < B → ¬ (u.ownBlock = some b) := fun b hb e => by have := (ownsBlk ho b e).1; omega
    rcases List.mem_append.1 hp with hp | hp
    · exact ((hk p hp).kept k5 (fun b _ hb e => nf b (hok b _ hb) e)).mono (fun b o hb => by have := hok b o hb; omega)
    · rw [List.mem_singleton] at hp; subst hp
      exact (hs.kept k5 (fun b _ hb e => nf b (hokc b _ hb) e)).mono (fun b o hb => by have := hokc b o hb; omega)
  obtain ⟨a5, n5, c5, rfl⟩ : ∃ a n c, v5 = .slice a n c := by obtain ⟨x, y, e⟩ := (At.own o5).shape; exact ⟨x, _, y, e⟩
  obtain ⟨sn1, sn2, sn3⟩ := ORow.seen o5
  have hh := Lies.holds kindA (ok := fun b _ => b < w5.heap.size) (a := a5) (n := n5) (cap := c5) (by have := At.own o5; rw [sn1] at this ⊢; exact this) hkk sn2 (fun b o e => sn3 b o e)
  rw [tr_append] at hh
  rw [List.length_append] at sn1
  have sn1' : n5 = ps.length + 1 := sn1
  subst sn1'
  exact ⟨a5, c5, w5, r5, hh, k.trans k5 (fun i hi e => by have := (ownsBlk ho i e).1; omega)⟩
set_option maxHeartbeats 4000000 in
theorem stepP_any (chl : List Sh) (k : Int) (x0 x1 x2 : Bool) (n0 n1 n2 : Int) (subs : List Sh) (hg : Goes (chl ++ [.mk ⟨k, x0, x1, x2, n0, n1, n2⟩ subs])) (ok1 ok2 : Nat → Nat → Prop) (ac : Option Addr) (cc : Nat) (a : Option Addr) (cap : Nat) (w : World) (h1 : Holds cA w ok1 (.slice ac chl.length cc) chl) (h2 : Holds cA w ok2 (.slice a subs.length cap) subs) :
    Calls Try.prog 16 #[.slice ac chl.length cc, vA ⟨k, x0, x1, x2, n0, n1, n2⟩ (.slice a subs.length cap)] w (StEnd ((Sh.mk ⟨k, x0, x1, x2, n0, n1, n2⟩ subs).st chl).hd ((Sh.mk ⟨k, x0, x1, x2, n0, n1, n2⟩ subs).st chl).subs w) := by
  obtain ⟨hg1, hg2⟩ := hg
  have hgc := countL_append chl [Sh.mk ⟨k, x0, x1, x2, n0, n1, n2⟩ subs]
  have hc1 := length_countL chl
  obtain ⟨cps, hcps, hcl, hck⟩ := h1.inb.pairs kindA
  have hcn : cps.length = chl.length := by rw [← tr_len, hcps]
  have T0 := Lib.hid (Two2.start w 27 (arrA ⟨k, x0, x1, x2, n0, n1, n2⟩ (.slice a subs.length cap)) 42 zS)
  have CB : Hid (∀ W, Kept Nil w W → Calls Try.prog 37 #[.slice ac chl.length cc, vA ⟨k, x0, x1, x2, n0, n1, n2⟩ (.slice a subs.length cap)] W (StEnd ((Sh.mk ⟨k, x0, x1, x2, n0, n1, n2⟩ subs).st chl).hd ((Sh.mk ⟨k, x0, x1, x2, n0, n1, n2⟩ subs).st chl).subs W)) := Lib.hid fun W kW =>
    behind_all.1 (.mk ⟨k, x0, x1, x2, n0, n1, n2⟩ subs) ok1 ok2 chl ac cc a cap W (h1.keptN kW) (h2.keptN kW) (by simp only [countL] at hgc; omega) ⟨1, chkL_all.1 hg2 _ (by simp)⟩
  have CC : Hid (∀ W, Kept Nil w W → Calls Try.prog 36 #[.slice ac chl.length cc] W fun e w' => ∃ u, e = .returned u ∧ ORow cA 27 w' W.heap.size u cps ∧ Kept Nil W w') := Lib.hid fun W kW =>
    cloneAny_any (fun b _ => b < w.heap.size) W (by rw [← hcn] at hcl ⊢; exact At.keptN hcl kW) (fun p hp => (hck p hp).keptN kW) (by omega)
  have CR : Hid (∀ W a3 c3, Holds cA W (fun b _ => b < W.heap.size) (.slice a3 (chl.length + 1) c3) (chl ++ [.mk ⟨k, x0, x1, x2, n0, n1, n2⟩ subs]) → Calls Try.prog 32 #[.slice a3 (chl.length + 1) c3] W fun e w' => e = .returned (.bool true) ∧ Kept Nil W w') := Lib.hid fun W a3 c3 h => by
    have := rightConds_any (chl ++ [.mk ⟨k, x0, x1, x2, n0, n1, n2⟩ subs]) ⟨hg1, hg2⟩ _ a3 c3 W (by rw [List.length_append]; exact h)
    rw [List.length_append] at this
    exact this
  have H2 := Lib.hid h2.inb
  have HCK := Lib.hid hck
  have HTR : Hid (tr cps = chl) := Lib.hid hcps
  have hn100 : chl.length ≤ 100 := by omega
  have FIN : ∀ W, Kept Nil w W → ∀ W2, Kept Nil W W2 → ∀ e u, W.heap.size ≤ W2.heap.size → Blk W2 e 27 (arrA ⟨k, x0, x1, x2, n0, n1, n2⟩ (.slice a subs.length cap)) → ORow cA 27 W2 W.heap.size u cps → ∃ a3 c3 w3, (Builtin.append_ #[22, 22] 22 #[u, .slice (some ⟨e, 0, none⟩) 1 1]).run Try.prog W2 = .ok (.slice a3 (chl.length + 1) c3) w3 ∧
      Holds cA w3 (fun b _ => b < w3.heap.size) (.slice a3 (chl.length + 1) c3) (chl ++ [.mk ⟨k, x0, x1, x2, n0, n1, n2⟩ subs]) ∧ Kept Nil W w3 := fun W kW W2 k2 e u hWW hE ho => by
    have kw2 : Kept Nil w W2 := kW.trans k2 (fun _ _ g => g)
    have := kW.size
    obtain ⟨a3, c3, w3, r3, h3, k3⟩ := step_round (W := W) hWW ho (ok := fun b _ => b < w.heap.size) (fun p hp => (HCK.out p hp).keptN kw2) ⟨k, x0, x1, x2, n0, n1, n2⟩ subs _ hE (H2.out.keptN kw2) (fun b _ hb => by omega) (fun b _ hb => by omega) (by omega) (Nat.le_refl _) k2
    rw [HTR.out, hcn] at h3
    rw [hcn] at r3
    exact ⟨a3, c3, w3, r3, h3, k3⟩
  have HF := Lib.hid FIN
  unfold StEnd at CB
  generalize (Sh.mk ⟨k, x0, x1, x2, n0, n1, n2⟩ subs).st chl = sj at CB ⊢
  obtain ⟨⟨jk, jk0, jk1, jk2, jts⟩, jsb⟩ := sj
  replace CB : Hid (∀ W, Kept Nil w W → Calls Try.prog 37 #[.slice ac chl.length cc, vA ⟨k, x0, x1, x2, n0, n1, n2⟩ (.slice a subs.length cap)] W (fun e w' => ∃ ta tc a cap, e = .returned (vS ⟨jk, jk0, jk1, jk2, jts⟩ (.slice ta jts.length tc) (.slice a jsb.length cap)) ∧ TsAt w' (okM W.heap.size w') (.slice ta jts.length tc) jts ∧ SHolds w' (okM W.heap.size w') (.slice a jsb.length cap) jsb ∧ Kept Nil W w')) := CB
  clear hg1 hg2 hgc hc1 hcps hcl hck h1 h2 FIN
  generalize chl ++ [Sh.mk ⟨k, x0, x1, x2, n0, n1, n2⟩ subs] = all at CR HF
  generalize hn1 : chl.length = n1' at *
  clear hcn HTR
  generalize subs.length = len at *
  obtain ⟨jtn, hjt⟩ : ∃ n, jts.length = n := ⟨_, rfl⟩
  obtain ⟨jsn, hjs⟩ : ∃ n, jsb.length = n := ⟨_, rfl⟩
  rw [hjt, hjs] at CB
  have HJT := Lib.hid hjt
  have HJS := Lib.hid hjs
  clear hjt hjs hn1
  go_enter Try.func16, Try.ntmps16
  go_wp2_with fail
  obtain ⟨W1, hW1⟩ : ∃ W1, ((w.alloc (.cells (arrA ⟨k, x0, x1, x2, n0, n1, n2⟩ (.slice a len cap)) 27)).alloc (.cells zS 42)) = W1 := ⟨_, rfl⟩
  rw [hW1] at T0
  rw [show ((w.alloc (.cells #[.int .i64 k, .bool x0, .int .i64 n0, .bool x1, .int .i64 n1, .bool x2, .int .i64 n2, .slice a len cap] 27)).alloc (.cells #[.int .i64 0, .int .i64 0, .int .i64 0, .int .i64 0, .slice none 0 0, .slice none 0 0] 42)) = W1 from hW1]
  have KW1 : Kept Nil w W1.drew := T0.out.kept.drew
  have e0 := T0.out.b0.cell 0
  have e1 := T0.out.b0.cell 1
  have e2 := T0.out.b0.cell 2
  have e3 := T0.out.b0.cell 3
  have e4 := T0.out.b0.cell 4
  have e5 := T0.out.b0.cell 5
  have e6 := T0.out.b0.cell 6
  have e7 := T0.out.b0.cell 7
  simp at e0 e1 e2 e3 e4 e5 e6 e7
  clear hW1
  go_region_law (first
    | (refine step_append_run rfl (.tmp 6) (.tmp 8) 22 rfl _ _ rfl rfl r3 ?_)
    | (go_simp; go_at_call 36; refine (CC.out _ KW1).mono ?_; rintro e w7 ⟨u, rfl, ho, k7⟩; have T7 := T0.out.step (((Kept.refl Nil W1).drew).trans k7 (fun _ _ g => g)); have f0 := T7.b0.cell 0; have f1 := T7.b0.cell 1; have f2 := T7.b0.cell 2; have f3 := T7.b0.cell 3; have f4 := T7.b0.cell 4; have f5 := T7.b0.cell 5; have f6 := T7.b0.cell 6; have f7 := T7.b0.cell 7; simp at f0 f1 f2 f3 f4 f5 f6 f7; obtain ⟨a3, c3, w3, r3, h3, k3⟩ := HF.out _ KW1 (w7.alloc (.cells (arrA ⟨k, x0, x1, x2, n0, n1, n2⟩ (.slice a len cap)) 27)) (k7.trans ((Kept.refl Nil w7).alloc _) (fun _ _ g => g)) w7.heap.size u (Nat.le_trans k7.size (by simp)) (Blk.new _ _ _) (Kept.row ((Kept.refl Nil w7).alloc _) ho (fun _ _ g => g)); have KK3 := (Kept.refl Nil W1).drew.trans k3 (fun _ _ g => g))
    | (go_simp; go_at_call 36; refine (CC.out _ (KW1.trans ((Kept.refl Nil W1.drew).alloc (.cells (arrA ⟨k, x0, x1, x2, n0, n1, n2⟩ (.slice a len cap)) 27)) (fun _ _ g => g))).mono ?_; rintro e w7 ⟨u, rfl, ho, k7⟩; obtain ⟨a3, c3, w3, r3, h3, k3⟩ := HF.out _ (KW1.trans ((Kept.refl Nil W1.drew).alloc (.cells (arrA ⟨k, x0, x1, x2, n0, n1, n2⟩ (.slice a len cap)) 27)) (fun _ _ g => g)) w7 k7 W1.drew.heap.size u k7.size ((Blk.new _ _ _).kept k7 id) ho; have KK3 := ((Kept.refl Nil W1).drew.alloc _).trans k3 (fun _ _ g => g))
    | (go_simp; go_at_call 32; refine (CR.out _ _ _ h3).mono ?_; rintro e w9 ⟨rfl, k9⟩))
  all_goals
    have T9 := Lib.hid (T0.out.step (KK3.trans k9 (fun _ _ g => g)))
    clear T0 KK3 k9 k3 h3 r3 k7 ho HF CC CR
    go_wp2_with (first
      | ((with_reducible refine wpList_load_A rfl (.tmp 3) rfl _ _ rfl ⟨k, x0, x1, x2, n0, n1, n2⟩ (.slice a len cap) ?_ ?_)
         · exact World.rangeAt_of_block T9.out.b0 0 8))
    refine (CB.out _ T9.out.kept).mono ?_
    rintro e w4 ⟨ta, tc, sa, sc, rfl, ht, hs, k4⟩
    have T4 := Lib.hid (T9.out.step k4)
    have HTs := Lib.hid ht
    have HSs := Lib.hid hs
    have h94 : w.heap.size + 1 < w9.heap.size := T9.out.lt
    clear ht hs k4 T9
    go_wp2_with (first
      | ((with_reducible refine wpList_store_S rfl (.tmp 4) (.tmp 15) rfl _ ⟨jk, jk0, jk1, jk2, jts⟩ _ _ _ _ _ _ rfl rfl zS rfl ?_ ?_)
         · exact T4.out.b1
         intro W kW bW
         have KW := Lib.hid kW
         have BW := Lib.hid bW
         clear kW bW))
    refine bodyPost_ret (results_cell_row Try.results16 _ _ _ _ _ _ _ rfl BW.out Try.underlying42 rfl (by kernel_rfl)) rfl ?_
    have E1 := HJT.out
    have E2 := HJS.out
    subst E1 E2
    refine ⟨ta, tc, sa, sc, rfl, ?_, ?_, T4.out.kept.trans KW.out (fun i hi e => by omega)⟩
    · exact (HTs.out.kept KW.out (fun b o hb e => by have := hb.1; omega)).mono (fun b o hb => (hb.kept KW.out (fun e => by have := hb.1; omega)).less (by omega))
    · exact (HSs.out.kept KW.out (fun b o hb e => by have := hb.1; omega)).mono (fun b o hb => (hb.kept KW.out (fun e => by have := hb.1; omega)).less (by omega))
end
section
open Go.RowKit
set_option maxRecDepth 100000

abbrev hX1 : Hd := ⟨1, true, false, true, 1, 4, 2⟩
abbrev hX2 : Hd := ⟨1, true, false, true, 2, 4, 1⟩
def exC : List Sh := [.mk hX1 [], .mk hX2 []]
theorem exC_goes : Goes exC := ⟨by decide +kernel, by decide +kernel⟩
theorem exC_steps : stL exC [] = [.mk ⟨1, 0, 4, 0, []⟩ [], .mk ⟨1, 0, 4, 0, [(0, 0, 2), (2, 0, 0)]⟩ []] := by kernel_rfl
abbrev cellsX : Array Value := #[.int .i64 1, .bool true, .int .i64 1, .bool false, .int .i64 4, .bool true, .int .i64 2, .slice none 0 0, .int .i64 1, .bool true, .int .i64 2, .bool false, .int .i64 4, .bool true, .int .i64 1, .slice none 0 0]
theorem exC_holds {W : World} {G : Nat} (b : Blk W G 27 cellsX) : Holds cA W (fun _ _ => True) (.slice (some ⟨G, 0, none⟩) exC.length 2) exC := by
  refine .row G 0 2 _ (fun _ => .slice none 0 0) (by decide) trivial (fun i x hi => ?_) (fun i x hi => ?_)
  · have hl := (List.getElem?_eq_some_iff.1 hi).1
    have : i = 0 ∨ i = 1 := by simp [exC] at hl; omega
    rcases this with rfl | rfl
    · cases hi; exact World.rangeAt_of_block b 0 8
    · cases hi; exact World.rangeAt_of_block b 8 8
  · have hl := (List.getElem?_eq_some_iff.1 hi).1
    have : i = 0 ∨ i = 1 := by simp [exC] at hl; omega
    rcases this with rfl | rfl <;> (cases hi; exact .nil none 0)
set_option maxHeartbeats 4000000 in
theorem awakeComp_any (w : World) : Calls Try.prog 9 #[] w fun e w' => e = .returned (.bool true) ∧ Kept Nil w w' := by
  have CC : Hid (∀ W G, Blk W G 27 cellsX → Calls Try.prog 10 #[.slice (some ⟨G, 0, none⟩) 2 2] W (StsEnd [.mk ⟨1, 0, 4, 0, []⟩ [], .mk ⟨1, 0, 4, 0, [(0, 0, 2), (2, 0, 0)]⟩ []] W)) := Lib.hid fun W G b => by
    have := compile_any exC exC_goes _ (some ⟨G, 0, none⟩) 2 W (exC_holds b)
    rw [exC_steps] at this
    exact this
  have hq1 : ∀ W, (Op.equalIn 10000 39 (.agg #[.int .i64 0, .int .i64 4, .int .i64 0]) (.agg #[.int .i64 0, .int .i64 4, .int .i64 0])).run Try.prog W = .ok true W := fun W => eqKey 0 4 0 0 4 0 W
  have hq2 : ∀ W, (Op.equalIn 10000 74 (.agg #[.int .i64 2, .int .i64 0, .int .i64 0]) (.agg #[.int .i64 2, .int .i64 0, .int .i64 0])).run Try.prog W = .ok true W := fun W => eqTest 2 0 0 2 0 0 W
  go_enter Try.func9, Try.ntmps9
  go_wp2_with fail
  have B3 : Hid (Blk ((((w.alloc (.cells #[.bool true, .int .i64 1] 24)).alloc (.cells #[.bool true, .int .i64 2] 24)).alloc (.cells #[.bool false, .int .i64 4] 24)).alloc (.cells cellsX 27)) (w.heap.size + 1 + 1 + 1) 27 cellsX) := Lib.hid (by
    have := Blk.new (((w.alloc (.cells #[.bool true, .int .i64 1] 24)).alloc (.cells #[.bool true, .int .i64 2] 24)).alloc (.cells #[.bool false, .int .i64 4] 24)) 27 cellsX
    simpa using this)
  refine (CC.out _ _ B3.out).mono ?_
  rintro e w2 ⟨a2, c2, rfl, h2, k2⟩
  have HK : Hid (Kept Nil w w2) := Lib.hid ((((((Kept.refl Nil w).alloc _).alloc _).alloc _).alloc _).trans k2 (fun _ _ g => g))
  have h2' : SHolds w2 _ (.slice a2 2 c2) _ := h2
  obtain ⟨b, o, t0, d0, s0, e0, rfl, hok, hr0, _, _⟩ := h2'.at_ (i := 0) rfl
  obtain ⟨b', o', t1, d1, s1, e1, eb, _, hr1, ht1, _⟩ := h2'.at_ (i := 1) rfl
  cases eb
  obtain rfl := hok.2.2.1
  obtain ⟨b2, o2, rfl, hok2, hr2⟩ := ht1.at_ (i := 1) rfl
  obtain rfl := hok2.2.2.1
  have z4 := hr0 4 _ rfl
  have z7 := hr1 1 _ rfl
  have z8 := hr1 2 _ rfl
  have z9 := hr1 3 _ rfl
  have z10 := hr1 4 _ rfl
  have y0 := hr2 0 _ rfl
  have y1 := hr2 1 _ rfl
  have y2 := hr2 2 _ rfl
  simp at z4 z7 z8 z9 z10 y0 y1 y2
  clear B3 CC h2 h2' k2 hok hok2 hr0 hr1 hr2 ht1
  go_wp2_with fail
  go_ret
  exact ⟨rfl, HK.out⟩
end
end Go.Proofs.Ytoceogbanlmnoaa
