/- Layer cond: copied and Copy, of the program. -/
import Derived.Test.YtokpgpkdhcehbaaCRef
namespace Go.Proofs.Ytokpgpkdhcehbaa
open Go.RowKit

abbrev zA : Array Value := #[.int .i64 0, .bool false, .int .i64 0, .bool false, .int .i64 0, .bool false, .int .i64 0, .slice none 0 0]
theorem wpList_store_A2 {ops : Array Oper} {rest : List Oper} {o : Oper} {a : Act} {w : World} {Q : Exit → Act → World → Prop} (hgd : o.guard = none) (x y : Operand) (ho : o.op = .store 27 x y)
    (g : Nat) (h : Hd) (s : Option Addr) (n c : Nat) (hx : a.eval x = .pointer (some ⟨g, 0, none⟩)) (hy : a.eval y = vA h (.slice s n c)) (v0 : Array Value) (h8 : v0.size = 8) (hg : Blk w g 27 v0)
    (hn : ∀ W, Kept (fun k => k = g) w W → Blk W g 27 (arrA h (.slice s n c)) → wpList Try.prog ops Q rest (a.put o.dst undef) W) : wpList Try.prog ops Q (o :: rest) a w :=
  wpList_store_rowW hgd _ x y ho g _ hx hy _ _ hg infoA8 h8 (by simp [Value.oneCell']) hn
/-- The same, in new memory. -/
def CopyEnd (hd : Hd) (subs : List Sh) (w : World) (e : Ending) (w' : World) : Prop :=
  ∃ a' cap', e = .returned (vA hd (.slice a' subs.length cap')) ∧ Holds cA w' (okM w.heap.size w') (.slice a' subs.length cap') subs ∧ Kept Nil w w'
abbrev CopyIH (subs : List Sh) : Prop := ∀ hd sb, Sh.mk hd sb ∈ subs → ∀ ok a cap w, Holds cA w ok (.slice a sb.length cap) sb →
  Calls Try.prog 31 #[vA hd (.slice a sb.length cap)] w (CopyEnd hd sb w)
set_option maxHeartbeats 4000000 in
theorem copied_step (k : Int) (x0 x1 x2 : Bool) (n0 n1 n2 : Int) (subs : List Sh) (len : Nat) (HL : Hid (subs.length = len)) (hLen : len ≤ 5000) (IH : Hid (CopyIH subs))
    (ok : Nat → Nat → Prop) (a : Option Addr) (cap : Nat) (w : World) (HH : Hid (Holds cA w ok (.slice a len cap) subs)) :
    Calls Try.prog 31 #[vA ⟨k, x0, x1, x2, n0, n1, n2⟩ (.slice a len cap)] w (CopyEnd ⟨k, x0, x1, x2, n0, n1, n2⟩ subs w) := by
  obtain ⟨X, hXe⟩ : ∃ X, X = w.heap.size + 1 + 1 := ⟨_, rfl⟩
  have hX : w.heap.size + 1 < X := by omega
  have RX := Lib.hid ((RH.start w 27 zA ⟨k, x0, x1, x2, n0, n1, n2⟩ (.slice a len cap)).alloc (.cells (arrA ⟨k, x0, x1, x2, n0, n1, n2⟩ (.slice none 0 0)) 27))
  have BX : Hid (Blk (((w.alloc (.cells (arrA ⟨k, x0, x1, x2, n0, n1, n2⟩ (.slice a len cap)) 27)).alloc (.cells zA 27)).alloc (.cells (arrA ⟨k, x0, x1, x2, n0, n1, n2⟩ (.slice none 0 0)) 27)) X 27 (arrA ⟨k, x0, x1, x2, n0, n1, n2⟩ (.slice none 0 0))) := Lib.hid (by
    have := Blk.new ((w.alloc (.cells (arrA ⟨k, x0, x1, x2, n0, n1, n2⟩ (.slice a len cap)) 27)).alloc (.cells zA 27)) 27 (arrA ⟨k, x0, x1, x2, n0, n1, n2⟩ (.slice none 0 0))
    rw [hXe]
    simpa using this)
  have HXe := Lib.hid hXe
  go_enter Try.func31, Try.ntmps31
  go_wp2_with fail
  rw [← hXe]
  clear hXe
  go_loopw [14] (fun i wr => ∃ (j : Nat) (v : Value) (ps : List (Sh × Value)), j ≤ len ∧ i = .int .i64 j ∧ ps.map (·.1) = subs.take j ∧ RH w 27 zA ⟨k, x0, x1, x2, n0, n1, n2⟩ (.slice a len cap) wr ∧ Blk wr X 27 (arrA ⟨k, x0, x1, x2, n0, n1, n2⟩ v) ∧ CRow cA 27 wr (X + 1) v ps) (fun i _ => len - (intOf i).toNat)
  case atStart => exact ⟨0, .slice none 0 0, [], by omega, rfl, rfl, RX.out, BX.out, .nil _ _ _ _⟩
  case round =>
    obtain ⟨j, v, ps, hj, rfl, hps, hR, hB, hC⟩ := hrel
    have HR := Lib.hid hR
    have HB := Lib.hid hB
    have HC := Lib.hid hC
    have HP := Lib.hid hps
    have hXs : X < wr.heap.size := hB.lt
    clear hR hB hC hps RX BX
    by_cases hlt : j < len
    · obtain ⟨⟨⟨k', x0', x1', x2', n0', n1', n2'⟩, sb⟩, hx⟩ : ∃ x, subs[j]? = some x := ⟨_, List.getElem?_eq_getElem (by have := HL.out; omega)⟩
      obtain ⟨b, o, a', cap', rfl, hok, hr, hs⟩ := (HH.out.keptN HR.out.kept).at_ hx
      have HX := Lib.hid (IH.out _ _ (List.mem_of_getElem? hx))
      have HRow := Lib.hid hr
      have HS := Lib.hid hs
      have HN : Hid (subs.take (j + 1) = subs.take j ++ [Sh.mk ⟨k', x0', x1', x2', n0', n1', n2'⟩ sb]) := Lib.hid (by rw [List.take_add_one, hx]; rfl)
      clear hx hr hs hok
      have HX2 : Hid (∀ w, Holds cA w ok (.slice a' sb.length cap') sb → Calls Try.prog 31 #[vA ⟨k', x0', x1', x2', n0', n1', n2'⟩ (.slice a' sb.length cap')] w fun e w' => ∃ a2 c2, e = .returned (vA ⟨k', x0', x1', x2', n0', n1', n2'⟩ (.slice a2 sb.length c2)) ∧ Holds cA w' (okM w.heap.size w') (.slice a2 sb.length c2) sb ∧ Kept Nil w w') := Lib.hid fun w h => HX.out ok a' cap' w h
      clear HX
      obtain ⟨av, capv, rfl⟩ := HC.out.shape
      have HPL : Hid (ps.length ≤ 5000) := Lib.hid (by have := congrArg List.length HP.out; rw [List.length_map, List.length_take] at this; omega)
      generalize hl' : sb.length = len' at HRow HS HX2
      clear hl'
      generalize hpl : ps.length = pl at HB HC
      have HPl := Lib.hid hpl
      clear hpl
      go_wp2_with ((with_reducible refine wpList_load_A rfl (.tmp 16) rfl _ _ rfl ⟨k', x0', x1', x2', n0', n1', n2'⟩ (.slice a' len' cap') ?_ ?_)
                   · exact HRow.out)
      obtain ⟨W1, hW1⟩ : ∃ W1, wr.alloc (.cells (arrA ⟨k', x0', x1', x2', n0', n1', n2'⟩ (.slice a' len' cap')) 27) = W1 := ⟨_, rfl⟩
      have KW : Kept Nil wr W1 := by rw [← hW1]; exact (Kept.refl Nil wr).alloc _
      have by0 : Blk W1 wr.heap.size 27 (arrA ⟨k', x0', x1', x2', n0', n1', n2'⟩ (.slice a' len' cap')) := by rw [← hW1]; exact Blk.new _ _ _
      rw [show wr.alloc (.cells #[.int .i64 k', .bool x0', .int .i64 n0', .bool x1', .int .i64 n1', .bool x2', .int .i64 n2', .slice a' len' cap'] 27) = W1 from hW1]
      have RW := Lib.hid (HR.out.step KW)
      have BW := Lib.hid (HB.out.kept KW id)
      have CW1 := Lib.hid (HC.out.kept KW)
      have HSW := Lib.hid (HS.out.keptN KW)
      have hXW : X < W1.heap.size := by have := KW.size; omega
      have e0 := by0.cell 0
      have e1 := by0.cell 1
      have e2 := by0.cell 2
      have e3 := by0.cell 3
      have e4 := by0.cell 4
      have e5 := by0.cell 5
      have e6 := by0.cell 6
      have e7 := by0.cell 7
      have x7 := BW.out.cell 7
      simp at e0 e1 e2 e3 e4 e5 e6 e7 x7
      clear hW1 KW by0 HR HB HC HS HRow hXs
      obtain ⟨i0, hi, hz0, hz1, hz2⟩ := info_parts infoCA
      have RND : Hid (∀ a2 c2 w2, Holds cA w2 (okM W1.drew.heap.size w2) (.slice a2 len' c2) sb → Kept Nil W1.drew w2 → _) := Lib.hid fun a2 c2 w2 h2 k2 =>
        build_round (P := Try.prog) (t := 25) kindA Try.underlying25 hi hz0 hz1 hz2 rfl (by decide) hX RW.out BW.out rfl CW1.out HPl.out (by have := HPl.out; have := HPL.out; omega) ((Kept.refl Nil W1).drew) rfl k2 (.mk ⟨k', x0', x1', x2', n0', n1', n2'⟩ sb) (.slice a2 len' c2) h2 27 (arrA ⟨k', x0', x1', x2', n0', n1', n2'⟩ (.slice a2 len' c2)) rfl
      clear RW BW CW1 hi hz0 hz1 hz2
      go_region_law (first
        | (refine step_append_run rfl (.tmp 19) (.tmp 22) 25 rfl _ _ rfl rfl r3 ?_)
        | (go_simp; go_at_call 31; refine (HX2.out _ (HSW.out.keptN ((Kept.refl Nil _).drew))).mono ?_; rintro e w2 ⟨a2, c2, rfl, h2, k2⟩; obtain ⟨c72, hX2, g, cap3, w3, r3, c73, f73, F1, F2, F3⟩ := RND.out a2 c2 w2 h2 k2; have F1' := Lib.hid F1; have F2' := Lib.hid F2; have F3' := Lib.hid F3; clear F1 F2 F3 h2 k2))
      all_goals
        go_wp2_with fail
        go_roundw
        case rel =>
          refine ⟨j + 1, _, ps ++ [(.mk ⟨k', x0', x1', x2', n0', n1', n2'⟩ sb, .slice a2 len' c2)], by omega, by go_num, ?_, F1'.out, ?_, F3'.out⟩
          · rw [List.map_append, HP.out, HN.out]; rfl
          · exact F2'.out
        case measure => simp [intOf]; omega
    · obtain rfl : j = len := by omega
      have HE : Hid (ps.map (·.1) = subs) := Lib.hid (by rw [HP.out, ← HL.out]; simp)
      obtain ⟨av, capv, rfl⟩ := HC.out.shape
      have HPl : Hid (ps.length = subs.length) := Lib.hid (by rw [← HE.out]; simp)
      rw [HPl.out] at HB HC
      have HL2 := Lib.hid (rfl : subs.length = subs.length)
      generalize hsl : subs.length = sl at HB HC
      have HSl := Lib.hid hsl
      clear hsl
      go_wp2_with (first
        | ((with_reducible refine wpList_load_A rfl (.tmp 3) rfl _ _ rfl ⟨k, x0, x1, x2, n0, n1, n2⟩ (.slice av sl capv) ?_ ?_)
           · exact World.rangeAt_of_block HB.out 0 8)
        | ((with_reducible refine wpList_store_A2 rfl (.tmp 2) _ rfl _ ⟨k, x0, x1, x2, n0, n1, n2⟩ _ _ _ rfl rfl zA rfl ?_ ?_)
           · exact HR.out.b1
           intro W kW bW
           have KW := Lib.hid kW
           have BW := Lib.hid bW
           clear kW bW))
      refine bodyPost_ret (results_cell_row Try.results31 _ _ _ _ _ _ _ rfl BW.out Try.underlying27 rfl (by kernel_rfl)) rfl ?_
      have hh := HC.out.holds kindA
      rw [HE.out] at hh
      refine ⟨av, capv, by rw [HSl.out], ?_, HR.out.kept.trans KW.out (fun i hi e => by omega)⟩
      rw [HSl.out]
      exact (hh.kept KW.out (fun b o hb e => by have := hb.1; omega)).mono (fun b o hb => (hb.kept KW.out (fun e => by have := hb.1; omega)).less (by omega))
theorem copied_any : ∀ s : Sh, s.count ≤ 5000 → ∀ ok a cap w, Holds cA w ok (.slice a s.subs.length cap) s.subs →
    Calls Try.prog 31 #[vA s.hd (.slice a s.subs.length cap)] w (CopyEnd s.hd s.subs w) := by
  refine Sh.ind fun hd subs ih hc ok a cap w h => ?_
  have hc' : 1 + countL subs ≤ 5000 := by simpa [Sh.count] using hc
  have hl := length_countL subs
  exact copied_step hd.k hd.x0 hd.x1 hd.x2 hd.n0 hd.n1 hd.n2 subs _ rfl (by omega) (fun hd' sb hx => ih _ hx (by have := count_mem hx; omega)) ok a cap w h
set_option maxHeartbeats 2000000 in
theorem bigCopy_any (s : Sh) (hc : s.count ≤ 5000) (h1 : s.chk 1 = 0) (ok : Nat → Nat → Prop) (a : Option Addr) (cap : Nat) (w : World) (h : Holds cA w ok (.slice a s.subs.length cap) s.subs) :
    Calls Try.prog 18 #[vA s.hd (.slice a s.subs.length cap)] w (CopyEnd s.hd s.subs w) := by
  have C := Lib.hid (fun w' (k : Kept Nil w w') => right_any s hc ok a cap w' (h.keptN k))
  have D : Hid (∀ w', Kept Nil w w' → Calls Try.prog 31 #[vA s.hd (.slice a s.subs.length cap)] w' fun e w'' => ∃ a' cap', e = .returned (vA s.hd (.slice a' s.subs.length cap')) ∧ Holds cA w'' (okM w'.heap.size w'') (.slice a' s.subs.length cap') s.subs ∧ Kept Nil w' w'') := Lib.hid (fun w' k => copied_any s hc ok a cap w' (h.keptN k))
  unfold CopyEnd
  rw [h1] at C
  generalize s.subs = subs at C D ⊢
  obtain ⟨len, hlen⟩ : ∃ len, subs.length = len := ⟨_, rfl⟩
  rw [hlen] at C D ⊢
  clear hlen
  generalize s.hd = hd at C D ⊢
  obtain ⟨k, x0, x1, x2, n0, n1, n2⟩ := hd
  have R0 := Lib.hid (RH.start w 27 zA ⟨k, x0, x1, x2, n0, n1, n2⟩ (.slice a len cap))
  clear h h1
  go_enter Try.func18, Try.ntmps18
  go_wp2_with fail
  refine (C.out _ R0.out.kept).mono ?_
  rintro e w2 ⟨rfl, k2⟩
  have R2 := Lib.hid (R0.out.step k2)
  clear k2 R0
  go_wp2_with ((with_reducible refine wpList_load_A rfl (.tmp 1) rfl _ _ rfl ⟨k, x0, x1, x2, n0, n1, n2⟩ (.slice a len cap) ?_ ?_)
               · exact World.rangeAt_of_block R2.out.b0 0 8)
  refine (D.out _ R2.out.kept).mono ?_
  rintro e w3 ⟨a', cap', rfl, h3, k3⟩
  have R3 := Lib.hid (R2.out.step k3)
  have H3 := Lib.hid h3
  have hb1 := R2.out.b1.lt
  clear k3 h3
  go_wp2_with ((with_reducible refine wpList_store_A2 rfl (.tmp 2) _ rfl _ ⟨k, x0, x1, x2, n0, n1, n2⟩ _ _ _ rfl rfl zA rfl ?_ ?_)
               · exact R3.out.b1
               intro W kW bW
               have KW := Lib.hid kW
               have BW := Lib.hid bW
               clear kW bW)
  refine bodyPost_ret (results_cell_row Try.results18 _ _ _ _ _ _ _ rfl BW.out Try.underlying27 rfl (by kernel_rfl)) rfl ?_
  refine ⟨a', cap', rfl, ?_, R3.out.kept.trans KW.out (fun i hi e => by omega)⟩
  exact (H3.out.kept KW.out (fun b o hb e => by have := hb.1; omega)).mono (fun b o hb => (hb.kept KW.out (fun e => by have := hb.1; omega)).less (by omega))
end Go.Proofs.Ytokpgpkdhcehbaa
