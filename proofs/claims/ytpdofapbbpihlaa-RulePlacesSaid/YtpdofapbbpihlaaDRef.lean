/- Layer rule: the law's own Ref of a rule: the reference's rule, in new memory. -/
import Derived.Test.YtpdofapbbpihlaaDBuild
import Derived.Test.YtpdofapbbpihlaaDRefRule
namespace Go.Proofs.Ytpdofapbbpihlaa
open Go.RowKit

abbrev zRule : Array Value := #[.string ⟨#[]⟩, .slice none 0 0]
theorem infoRule : (Try.prog.info? 32).map (·.size) = some 2 := by kernel_rfl
theorem wpList_store_rule {ops : Array Oper} {rest : List Oper} {o : Oper} {a : Act} {w : World} {Q : Exit → Act → World → Prop} (hgd : o.guard = none) (x y : Operand) (ho : o.op = .store 32 x y)
    (g : Nat) (nm : ByteArray) (s : Option Addr) (n c : Nat) (hx : a.eval x = .pointer (some ⟨g, 0, none⟩)) (hy : a.eval y = vRule nm (.slice s n c)) (v0 : Array Value) (h8 : v0.size = 2) (hg : Blk w g 32 v0)
    (hn : ∀ W, Kept (fun k => k = g) w W → Blk W g 32 #[.string nm, .slice s n c] → wpList Try.prog ops Q rest (a.put o.dst undef) W) : wpList Try.prog ops Q (o :: rest) a w :=
  wpList_store_rowW hgd _ x y ho g _ hx hy _ _ hg infoRule h8 (by simp [Value.oneCell']) hn
/-- The reference's rule. -/
def RuleEnd (nm : ByteArray) (l : List Sh) (w : World) (e : Ending) (w' : World) : Prop :=
  ∃ a' cap', e = .returned (vRule nm (.slice a' l.length cap')) ∧ Holds cR w' (okM w.heap.size w') (.slice a' l.length cap') l ∧ Kept Nil w w'
set_option maxHeartbeats 4000000 in
theorem refRuleOf_any (nm : ByteArray) (l : List Sh) (hc : countL l ≤ 5000) (ok : Nat → Nat → Prop) (a : Option Addr) (cap : Nat) (w : World) (h : Holds cA w ok (.slice a l.length cap) l) :
    Calls Try.prog 11 #[vRule nm (.slice a l.length cap)] w (RuleEnd nm l w) := by
  have HH := Lib.hid h
  have HC := Lib.hid hc
  obtain ⟨len, hlen⟩ : ∃ len, l.length = len := ⟨_, rfl⟩
  rw [hlen] at HH ⊢
  have HL := Lib.hid hlen
  have hLen : len ≤ 5000 := by have := length_countL l; omega
  clear h hc hlen
  obtain ⟨X, hXe⟩ : ∃ X, X = w.heap.size + 1 + 1 := ⟨_, rfl⟩
  have hX : w.heap.size + 1 < X := by omega
  have RX := Lib.hid ((RG.start w 24 #[.string nm, .slice a len cap] 32 zRule).alloc (.cells #[.string nm, .slice none 0 0] 32))
  have BX : Hid (Blk (((w.alloc (.cells #[.string nm, .slice a len cap] 24)).alloc (.cells zRule 32)).alloc (.cells #[.string nm, .slice none 0 0] 32)) X 32 #[.string nm, .slice none 0 0]) := Lib.hid (by
    have := Blk.new ((w.alloc (.cells #[.string nm, .slice a len cap] 24)).alloc (.cells zRule 32)) 32 #[.string nm, .slice none 0 0]
    rw [hXe]
    simpa using this)
  go_enter Try.func11, Try.ntmps11
  go_wp2_with fail
  rw [← hXe]
  clear hXe
  go_loopw [12] (fun i wr => ∃ (j : Nat) (v : Value) (ps : List (Sh × Value)), j ≤ len ∧ i = .int .i64 j ∧ ps.map (·.1) = l.take j ∧ RG w 24 #[.string nm, .slice a len cap] 32 zRule wr ∧ Blk wr X 32 #[.string nm, v] ∧ CRow cR 59 wr (X + 1) v ps) (fun i _ => len - (intOf i).toNat)
  case atStart => exact ⟨0, .slice none 0 0, [], by omega, rfl, rfl, RX.out, BX.out, .nil _ _ _ _⟩
  case round =>
    obtain ⟨j, v, ps, hj, rfl, hps, hR, hB, hCr⟩ := hrel
    have HR := Lib.hid hR
    have HB := Lib.hid hB
    have HCr := Lib.hid hCr
    have HP := Lib.hid hps
    have hXs : X < wr.heap.size := hB.lt
    clear hR hB hCr hps RX BX
    by_cases hlt : j < len
    · obtain ⟨⟨⟨k', x0', x1', x2', n0', n1', n2'⟩, sb⟩, hx⟩ : ∃ x, l[j]? = some x := ⟨_, List.getElem?_eq_getElem (by have := HL.out; omega)⟩
      obtain ⟨b, o, a', cap', rfl, hok, hr, hs⟩ := (HH.out.keptN HR.out.kept).at_ hx
      have hcx : (Sh.mk ⟨k', x0', x1', x2', n0', n1', n2'⟩ sb).count ≤ 5000 := mem_count HC.out (List.mem_of_getElem? hx)
      have HX2 : Hid (∀ w, Holds cA w ok (.slice a' sb.length cap') sb → Calls Try.prog 28 #[vA ⟨k', x0', x1', x2', n0', n1', n2'⟩ (.slice a' sb.length cap')] w fun e w' => ∃ a2 c2, e = .returned (vR ⟨k', x0', x1', x2', n0', n1', n2'⟩ (.slice a2 sb.length c2)) ∧ Holds cR w' (okM w.heap.size w') (.slice a2 sb.length c2) sb ∧ Kept Nil w w') := Lib.hid fun w h => refT_any (.mk ⟨k', x0', x1', x2', n0', n1', n2'⟩ sb) hcx ok a' cap' w h
      have HRow := Lib.hid hr
      have HS := Lib.hid hs
      have HN : Hid (l.take (j + 1) = l.take j ++ [Sh.mk ⟨k', x0', x1', x2', n0', n1', n2'⟩ sb]) := Lib.hid (by rw [List.take_add_one, hx]; rfl)
      clear hx hr hs hok hcx
      obtain ⟨av, capv, rfl⟩ := HCr.out.shape
      have HPL : Hid (ps.length ≤ 5000) := Lib.hid (by have := congrArg List.length HP.out; rw [List.length_map, List.length_take] at this; omega)
      generalize hl' : sb.length = len' at HRow HS HX2
      clear hl'
      generalize hpl : ps.length = pl at HB HCr
      have HPl := Lib.hid hpl
      clear hpl
      go_wp2_with ((with_reducible refine wpList_load_A rfl (.tmp 14) rfl _ _ rfl ⟨k', x0', x1', x2', n0', n1', n2'⟩ (.slice a' len' cap') ?_ ?_)
                   · exact HRow.out)
      obtain ⟨W1, hW1⟩ : ∃ W1, wr.alloc (.cells (arrA ⟨k', x0', x1', x2', n0', n1', n2'⟩ (.slice a' len' cap')) 45) = W1 := ⟨_, rfl⟩
      have KW : Kept Nil wr W1 := by rw [← hW1]; exact (Kept.refl Nil wr).alloc _
      have by0 : Blk W1 wr.heap.size 45 (arrA ⟨k', x0', x1', x2', n0', n1', n2'⟩ (.slice a' len' cap')) := by rw [← hW1]; exact Blk.new _ _ _
      rw [show wr.alloc (.cells #[.int .i64 k', .bool x0', .int .i64 n0', .bool x1', .int .i64 n1', .bool x2', .int .i64 n2', .slice a' len' cap'] 45) = W1 from hW1]
      have RW := Lib.hid (HR.out.step KW)
      have BW := Lib.hid (HB.out.kept KW id)
      have CW1 := Lib.hid (HCr.out.kept KW)
      have HSW := Lib.hid (HS.out.keptN KW)
      have hXW : X < W1.heap.size := by have := KW.size; omega
      have e0 := by0.cell 0
      have e1 := by0.cell 1
      have e2 := by0.cell 2
      have e3 := by0.cell 3
      have e4 := by0.cell 4
      have e5 := by0.cell 5
      have e6 := by0.cell 6
      have e7 := by0.cell 7
      have x7 := BW.out.cell 1
      simp at e0 e1 e2 e3 e4 e5 e6 e7 x7
      clear hW1 KW by0 HR HB HCr HS HRow hXs
      obtain ⟨i0, hi, hz0, hz1, hz2⟩ := info_parts infoCR
      have RND : Hid (∀ a2 c2 w2, Holds cR w2 (okM W1.drew.heap.size w2) (.slice a2 len' c2) sb → Kept Nil W1.drew w2 → _) := Lib.hid fun a2 c2 w2 h2 k2 =>
        build_roundG (P := Try.prog) (t := 30) kindR Try.underlying30 hi hz0 hz1 hz2 rfl (by decide) 1 hX RW.out BW.out rfl CW1.out HPl.out (by have := HPl.out; have := HPL.out; omega) ((Kept.refl Nil W1).drew) rfl k2 (.mk ⟨k', x0', x1', x2', n0', n1', n2'⟩ sb) (.slice a2 len' c2) h2 59 (arrR ⟨k', x0', x1', x2', n0', n1', n2'⟩ (.slice a2 len' c2)) rfl
      clear RW BW CW1 hi hz0 hz1 hz2
      go_region_law (first
        | (refine step_append_run rfl (.tmp 17) (.tmp 20) 30 rfl _ _ rfl rfl r3 ?_)
        | (go_simp; go_at_call 28; refine (HX2.out _ (HSW.out.keptN ((Kept.refl Nil _).drew))).mono ?_; rintro e w2 ⟨a2, c2, rfl, h2, k2⟩; obtain ⟨c72, hX2, g, cap3, w3, r3, c73, f73, F1, F2, F3⟩ := RND.out a2 c2 w2 h2 k2; have F1' := Lib.hid F1; have F2' := Lib.hid F2; have F3' := Lib.hid F3; clear F1 F2 F3 h2 k2))
      all_goals
        go_wp2_with fail
        go_roundw
        case rel =>
          refine ⟨j + 1, _, ps ++ [(.mk ⟨k', x0', x1', x2', n0', n1', n2'⟩ sb, .slice a2 len' c2)], by omega, by go_num, ?_, F1'.out, ?_, F3'.out⟩
          · rw [List.map_append, HP.out, HN.out]; rfl
          · exact F2'.out
        case measure => simp [intOf]; omega
    · obtain rfl : j = len := by omega
      have HE : Hid (ps.map (·.1) = l) := Lib.hid (by rw [HP.out, ← HL.out]; simp)
      obtain ⟨av, capv, rfl⟩ := HCr.out.shape
      have HPl : Hid (ps.length = l.length) := Lib.hid (by rw [← HE.out]; simp)
      rw [HPl.out, HL.out] at HB HCr
      have c0 := HB.out.cell 0
      have c1 := HB.out.cell 1
      simp at c0 c1
      go_wp2_with (first
        | ((with_reducible refine wpList_store_rule rfl (.tmp 2) _ rfl _ nm _ _ _ rfl rfl zRule rfl ?_ ?_)
           · exact HR.out.b1
           intro W kW bW
           have KW := Lib.hid kW
           have BW := Lib.hid bW
           clear kW bW))
      refine bodyPost_ret (results_cell_row Try.results11 _ _ _ _ _ _ _ rfl BW.out Try.underlying32 rfl (by kernel_rfl)) rfl ?_
      have hh := HCr.out.holds kindR
      rw [HE.out] at hh
      refine ⟨av, capv, by rw [HL.out], ?_, HR.out.kept.trans KW.out (fun i hi e => by omega)⟩
      rw [HL.out]
      exact (hh.kept KW.out (fun b o hb e => by have := hb.1; omega)).mono (fun b o hb => (hb.kept KW.out (fun e => by have := hb.1; omega)).less (by omega))
end Go.Proofs.Ytpdofapbbpihlaa
