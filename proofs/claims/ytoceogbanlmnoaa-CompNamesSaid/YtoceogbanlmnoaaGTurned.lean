/- Layer comp: the law's own turned: a condition with other names of variables, in new memory. -/
import Derived.Test.YtoceogbanlmnoaaDBuild
import Derived.Test.YtoceogbanlmnoaaGTurn
import Derived.Test.YtoceogbanlmnoaaRB
import Derived.Lib.SliceRun
namespace Go.Proofs.Ytoceogbanlmnoaa
open Go.RowKit
set_option maxRecDepth 100000

theorem RG.set0 {w : World} {t0 : TypeId} {c0 : Array Value} {tz : TypeId} {z : Array Value} {W : World} (r : RG w t0 c0 tz z W) (i : Nat) (u : Value) : RG w t0 (c0.setIfInBounds i u) tz z (W.setCell ⟨w.heap.size, i, none⟩ u) :=
  ⟨r.kept.setCell _ (.inr (by show w.heap.size ≤ w.heap.size; omega)) _, r.b0.set_ i u, r.b1.far (by show w.heap.size + 1 ≠ w.heap.size; omega) _⟩
theorem RG.setSubs {w : World} {hd : Hd} {v0 v : Value} {tz : TypeId} {z : Array Value} {W : World} (r : RG w 27 (arrA hd v0) tz z W) : RG w 27 (arrA hd v) tz z (W.setCell ⟨w.heap.size, 7, none⟩ v) := by
  have := r.set0 7 v
  simpa using this
def TurnEnd (b : Int) (hd : Hd) (subs : List Sh) (w : World) (e : Ending) (w' : World) : Prop :=
  ∃ a' cap', e = .returned (vA (hd.turn b) (.slice a' subs.length cap')) ∧ Holds cA w' (okM w.heap.size w') (.slice a' subs.length cap') (turnL b subs) ∧ Kept Nil w w'
abbrev TurnIH (b : Int) (subs : List Sh) : Prop := ∀ hd sb, Sh.mk hd sb ∈ subs → (∃ d, (Sh.mk hd sb).chk d = 0) → ∀ ok a cap w, Holds cA w ok (.slice a sb.length cap) sb →
  Calls Try.prog 28 #[vA hd (.slice a sb.length cap), .int .i64 b] w (TurnEnd b hd sb w)
theorem turnT_yes {b n : Int} (h : 1 ≤ n ∧ n ≤ 32) : turnT b true n = turnN b n := if_pos ⟨rfl, h⟩
theorem turnT_no {b n : Int} {x : Bool} (h : ¬ (x = true ∧ 1 ≤ n ∧ n ≤ 32)) : turnT b x n = n := if_neg h
set_option maxHeartbeats 4000000 in
theorem turned_step (k : Int) (x0 x1 x2 : Bool) (n0 n1 n2 : Int) (subs : List Sh) (len : Nat) (HL : Hid (subs.length = len)) (hLen : len ≤ 5000) (b : Int) (hb0 : 0 ≤ b) (hb1 : b < 32) (IH : Hid (TurnIH b subs)) (HV : Hid ((⟨k, x0, x1, x2, n0, n1, n2⟩ : Hd).vok)) (HC : Hid (∃ d, chkL subs d = 0))
    (ok : Nat → Nat → Prop) (a : Option Addr) (cap : Nat) (w : World) (HH : Hid (Holds cA w ok (.slice a len cap) subs)) :
    Calls Try.prog 28 #[vA ⟨k, x0, x1, x2, n0, n1, n2⟩ (.slice a len cap), .int .i64 b] w (TurnEnd b ⟨k, x0, x1, x2, n0, n1, n2⟩ subs w) := by
  obtain ⟨i0, i1, i2⟩ := idxL3 x0 x1 x2 n0 n1 n2
  have R0 := Lib.hid (RG.start w 27 (arrA ⟨k, x0, x1, x2, n0, n1, n2⟩ (.slice a len cap)) 27 zA)
  have E0 : Hid (∀ q0 q1 q2 v, RG w 27 (arrA ⟨k, x0, x1, x2, q0, q1, q2⟩ v) 27 zA = RG w 27 (arrA ⟨k, x0, x1, x2, q0, q1, q2⟩ v) 27 zA) := Lib.hid fun _ _ _ _ => rfl
  generalize hm0 : turnT b x0 n0 = m0
  generalize hm1 : turnT b x1 n1 = m1
  generalize hm2 : turnT b x2 n2 = m2
  have HM : Hid ((⟨k, x0, x1, x2, n0, n1, n2⟩ : Hd).turn b = ⟨k, x0, x1, x2, m0, m1, m2⟩) := Lib.hid (by rw [← hm0, ← hm1, ← hm2]; rfl)
  have M0 := Lib.hid hm0
  have M1 := Lib.hid hm1
  have M2 := Lib.hid hm2
  clear hm0 hm1 hm2 E0
  go_enter Try.func28, Try.ntmps28
  go_wp2_with fail
  go_loopw [12] (fun i wr => (i = .int .i64 0 ∧ RG w 27 (arrA ⟨k, x0, x1, x2, n0, n1, n2⟩ (.slice a len cap)) 27 zA wr)
    ∨ (i = .int .i64 1 ∧ RG w 27 (arrA ⟨k, x0, x1, x2, m0, n1, n2⟩ (.slice a len cap)) 27 zA wr)
    ∨ (i = .int .i64 2 ∧ RG w 27 (arrA ⟨k, x0, x1, x2, m0, m1, n2⟩ (.slice a len cap)) 27 zA wr)
    ∨ (i = .int .i64 3 ∧ RG w 27 (arrA ⟨k, x0, x1, x2, m0, m1, m2⟩ (.slice a len cap)) 27 zA wr)) (fun i _ => (3 - intOf i).toNat)
  case atStart => exact .inl ⟨rfl, R0.out⟩
  case round =>
    rcases hrel with ⟨rfl, h⟩ | ⟨rfl, h⟩ | ⟨rfl, h⟩ | ⟨rfl, h⟩
    · have H := Lib.hid h
      have c2 := h.b0.cell 2
      have f2 := h.b0.frozen 2
      have hl : w.heap.size < wr.heap.size := h.b0.lt
      simp at c2
      clear h R0
      cases x0
      · have HQ : Hid (m0 = n0) := Lib.hid (by rw [← M0.out]; exact turnT_no (fun e => by cases e.1))
        go_wp2_with fail
        go_roundw
        case rel => exact .inr (.inl ⟨rfl, by rw [HQ.out]; exact H.out.alloc _⟩)
        case measure => decide
      · obtain ⟨h1, h2⟩ : 1 ≤ n0 ∧ n0 ≤ 32 := HV.out.1 rfl
        have ht : (n0 - 1 + b).tmod 32 = (n0 - 1 + b) % 32 := Int.tmod_eq_emod_of_nonneg (by omega)
        have HQ : Hid (m0 = (n0 - 1 + b) % 32 + 1) := Lib.hid (by rw [← M0.out]; exact turnT_yes ⟨h1, h2⟩)
        go_wp2_with fail
        go_roundw
        case rel => exact .inr (.inl ⟨rfl, by rw [HQ.out]; exact (H.out.set0 2 _).alloc _⟩)
        case measure => decide
    · have H := Lib.hid h
      have c4 := h.b0.cell 4
      have f4 := h.b0.frozen 4
      have hl : w.heap.size < wr.heap.size := h.b0.lt
      simp at c4
      clear h R0
      cases x1
      · have HQ : Hid (m1 = n1) := Lib.hid (by rw [← M1.out]; exact turnT_no (fun e => by cases e.1))
        go_wp2_with fail
        go_roundw
        case rel => exact .inr (.inr (.inl ⟨rfl, by rw [HQ.out]; exact H.out.alloc _⟩))
        case measure => decide
      · obtain ⟨h1, h2⟩ : 1 ≤ n1 ∧ n1 ≤ 32 := HV.out.2.1 rfl
        have ht : (n1 - 1 + b).tmod 32 = (n1 - 1 + b) % 32 := Int.tmod_eq_emod_of_nonneg (by omega)
        have HQ : Hid (m1 = (n1 - 1 + b) % 32 + 1) := Lib.hid (by rw [← M1.out]; exact turnT_yes ⟨h1, h2⟩)
        go_wp2_with fail
        go_roundw
        case rel => exact .inr (.inr (.inl ⟨rfl, by rw [HQ.out]; exact (H.out.set0 4 _).alloc _⟩))
        case measure => decide
    · have H := Lib.hid h
      have c6 := h.b0.cell 6
      have f6 := h.b0.frozen 6
      have hl : w.heap.size < wr.heap.size := h.b0.lt
      simp at c6
      clear h R0
      cases x2
      · have HQ : Hid (m2 = n2) := Lib.hid (by rw [← M2.out]; exact turnT_no (fun e => by cases e.1))
        go_wp2_with fail
        go_roundw
        case rel => exact .inr (.inr (.inr ⟨rfl, by rw [HQ.out]; exact H.out.alloc _⟩))
        case measure => decide
      · obtain ⟨h1, h2⟩ : 1 ≤ n2 ∧ n2 ≤ 32 := HV.out.2.2 rfl
        have ht : (n2 - 1 + b).tmod 32 = (n2 - 1 + b) % 32 := Int.tmod_eq_emod_of_nonneg (by omega)
        have HQ : Hid (m2 = (n2 - 1 + b) % 32 + 1) := Lib.hid (by rw [← M2.out]; exact turnT_yes ⟨h1, h2⟩)
        go_wp2_with fail
        go_roundw
        case rel => exact .inr (.inr (.inr ⟨rfl, by rw [HQ.out]; exact (H.out.set0 6 _).alloc _⟩))
        case measure => decide
    · have HR := Lib.hid h
      have c7 := h.b0.cell 7
      simp at c7
      clear h R0 i0 i1 i2
      go_wp2_with fail
      go_loopw [7, 33] (fun v i wr => ∃ (j : Nat) (ps : List (Sh × Value)), j ≤ len ∧ i = .int .i64 j ∧ ps.map (·.1) = (subs.take j).map (Sh.turn b) ∧ RG w 27 (arrA ⟨k, x0, x1, x2, m0, m1, m2⟩ (.slice a len cap)) 27 zA wr ∧ CRow cA 27 wr (w.heap.size + 2) v ps) (fun _ i _ => len - (intOf i).toNat)
      case atStart => exact ⟨0, [], by omega, rfl, rfl, HR.out, .nil _ _ _ _⟩
      case round =>
        obtain ⟨j, ps, hj, rfl, hps, hR, hCr⟩ := hrel
        have HR2 := Lib.hid hR
        have HCr := Lib.hid hCr
        have HP := Lib.hid hps
        clear hR hCr hps HR c7
        obtain ⟨av, capv, hv⟩ := HCr.out.shape
        have HPL : Hid (ps.length ≤ 5000) := Lib.hid (by have := congrArg List.length HP.out; rw [List.length_map, List.length_map, List.length_take] at this; omega)
        by_cases hlt : j < len
        · obtain ⟨⟨⟨k', x0', x1', x2', n0', n1', n2'⟩, sb⟩, hx⟩ : ∃ x, subs[j]? = some x := ⟨_, List.getElem?_eq_getElem (by have := HL.out; omega)⟩
          obtain ⟨bb, o, a', cap', rfl, hok, hr, hs⟩ := (HH.out.keptN HR2.out.kept).at_ hx
          have HX2 : Hid (∀ w, Holds cA w ok (.slice a' sb.length cap') sb → Calls Try.prog 28 #[vA ⟨k', x0', x1', x2', n0', n1', n2'⟩ (.slice a' sb.length cap'), .int .i64 b] w fun e w' => ∃ a2 c2, e = .returned (vA ((⟨k', x0', x1', x2', n0', n1', n2'⟩ : Hd).turn b) (.slice a2 sb.length c2)) ∧ Holds cA w' (okM w.heap.size w') (.slice a2 sb.length c2) (turnL b sb) ∧ Kept Nil w w') := Lib.hid fun w h => IH.out _ _ (List.mem_of_getElem? hx) (by obtain ⟨d, hd⟩ := HC.out; exact ⟨d, chkL_all.1 hd _ (List.mem_of_getElem? hx)⟩) ok a' cap' w h
          have HRow := Lib.hid hr
          have HS := Lib.hid hs
          have HN : Hid ((subs.take (j + 1)).map (Sh.turn b) = (subs.take j).map (Sh.turn b) ++ [Sh.mk ((⟨k', x0', x1', x2', n0', n1', n2'⟩ : Hd).turn b) (turnL b sb)]) := Lib.hid (by rw [List.take_add_one, hx, List.map_append]; simp [turn_mk])
          clear hx hr hs hok
          generalize hth : (⟨k', x0', x1', x2', n0', n1', n2'⟩ : Hd).turn b = th at HX2 HN
          clear hth
          generalize turnL b sb = tsb at HX2 HN
          generalize sb.length = len' at HRow HS HX2
          obtain ⟨tk, y0, y1, y2, q0, q1, q2⟩ := th
          subst hv
          go_wp2_with ((with_reducible refine wpList_load_A rfl (.tmp 35) rfl _ _ rfl ⟨k', x0', x1', x2', n0', n1', n2'⟩ (.slice a' len' cap') ?_ ?_)
                       · exact HRow.out)
          refine (HX2.out _ (HS.out.keptN ((Kept.refl Nil _).alloc _))).mono ?_
          rintro e w2 ⟨a2, c2, rfl, h2, k2⟩
          have k12 : Kept Nil wr w2 := ((Kept.refl Nil wr).alloc _).trans k2 (fun _ _ g => g)
          have ka := (Kept.refl Nil w2).alloc (.cells (arrA ⟨tk, y0, y1, y2, q0, q1, q2⟩ (.slice a2 len' c2)) 27)
          have hB2 : Blk (w2.alloc (.cells (arrA ⟨tk, y0, y1, y2, q0, q1, q2⟩ (.slice a2 len' c2)) 27)) w2.heap.size 27 (arrA ⟨tk, y0, y1, y2, q0, q1, q2⟩ (.slice a2 len' c2)) := Blk.new _ _ _
          have hB1 := HR2.out.b1.lt
          have hsz := k2.size
          have hsz2 := k12.size
          simp at hsz
          obtain ⟨g, cap3, w3, r3, cr3, k3⟩ := appendA ((HCr.out.kept k12).kept ka) (by have := HPL.out; omega) (by simp; omega) (.mk ⟨tk, y0, y1, y2, q0, q1, q2⟩ tsb) (.slice a2 len' c2) w2.heap.size (fun i x hi => by
            rw [hB2.cell i]
            change (cA ⟨tk, y0, y1, y2, q0, q1, q2⟩ (.slice a2 len' c2))[i]? = some x at hi
            simpa using hi)
            ((h2.keptN ka).mono (fun b' o hb' => ⟨(hb'.kept ka id).less (by simp; omega), fun eo => by have := HCr.out.lt b' eo; have := hb'.1; simp at this; omega⟩))
          have HOwn := Lib.hid (fun i (hi : (Value.slice av ps.length capv).ownBlock = some i) => HCr.out.base i hi)
          have FR := Lib.hid (((HR2.out.step k12).step ka).far k3 (fun i eo => by have := HOwn.out i eo; omega))
          have FC := Lib.hid cr3
          have R3 := Lib.hid r3
          clear k12 ka hB2 hB1 hsz hsz2 h2 k2 r3 cr3 k3 HOwn
          go_wp2_with (at_builtin; refine wpList_append_run rfl (.tmp 37) (.tmp 41) 22 rfl _ _ rfl rfl R3.out ?_)
          go_roundw
          case rel =>
            refine ⟨j + 1, ps ++ [(.mk ⟨tk, y0, y1, y2, q0, q1, q2⟩ tsb, .slice a2 len' c2)], by omega, by go_num, ?_, FR.out, ?_⟩
            · rw [List.map_append, HP.out, HN.out]; rfl
            · exact FC.out
          case measure => simp [intOf]; omega
        · obtain rfl : j = len := by omega
          have HE : Hid (ps.map (·.1) = turnL b subs) := Lib.hid (by rw [HP.out, ← HL.out, List.take_length, turnL_eq])
          have HPl : Hid (ps.length = subs.length) := Lib.hid (by have := congrArg List.length HE.out; rwa [List.length_map, turnL_length] at this)
          rw [HPl.out, HL.out] at hv
          subst hv
          have f7 := HR2.out.b0.frozen 7
          have c7 := HR2.out.b0.cell 7
          have hl0 : w.heap.size < wr.heap.size := HR2.out.b0.lt
          simp at c7
          have SR := Lib.hid (HR2.out.setSubs (v := .slice av j capv))
          have SC := Lib.hid (HCr.out.keptF ((Kept.refl (fun i => i = w.heap.size) wr).setCell ⟨w.heap.size, 7, none⟩ (.inl rfl) (.slice av j capv)) (fun i e => by omega))
          go_wp2_with (first
            | ((with_reducible refine wpList_load_A rfl (.tmp 2) rfl _ _ rfl ⟨k, x0, x1, x2, m0, m1, m2⟩ (.slice av j capv) ?_ ?_)
               · exact World.rangeAt_of_block SR.out.b0 0 8)
            | ((with_reducible refine wpList_store_A3 rfl (.tmp 4) _ rfl _ ⟨k, x0, x1, x2, m0, m1, m2⟩ _ _ _ rfl rfl zA rfl ?_ ?_)
               · exact SR.out.b1
               intro W kW bW
               have KW := Lib.hid kW
               have BW := Lib.hid bW
               clear kW bW))
          refine bodyPost_ret (results_cell_row Try.results28 _ _ _ _ _ _ _ rfl BW.out Try.underlying27 rfl (by kernel_rfl)) rfl ?_
          have hh := SC.out.holds kindA
          rw [HE.out] at hh
          refine ⟨av, capv, by rw [HL.out, HM.out], ?_, SR.out.kept.trans KW.out (fun i hi e => by omega)⟩
          rw [HL.out]
          exact (hh.kept KW.out (fun b o hb e => by have := hb.1; omega)).mono (fun b o hb => (hb.kept KW.out (fun e => by have := hb.1; omega)).less (by omega))
theorem chk_subs {hd : Hd} {subs : List Sh} {d : Int} (h : (Sh.mk hd subs).chk d = 0) : ∃ d, chkL subs d = 0 := by
  rcases chk_zero h with ⟨_, _, hs⟩ | ⟨_, e⟩
  · exact ⟨_, hs⟩
  · have e' : subs = [] := e
    exact ⟨0, by rw [e']; rfl⟩
theorem turned_any (b : Int) (hb0 : 0 ≤ b) (hb1 : b < 32) : ∀ s : Sh, s.count ≤ 5000 → (∃ d, s.chk d = 0) → ∀ ok a cap w, Holds cA w ok (.slice a s.subs.length cap) s.subs →
    Calls Try.prog 28 #[vA s.hd (.slice a s.subs.length cap), .int .i64 b] w (TurnEnd b s.hd s.subs w) := by
  refine Sh.ind fun hd subs ih hc hk ok a cap w h => ?_
  have hc' : 1 + countL subs ≤ 5000 := by simpa [Sh.count] using hc
  have hl := length_countL subs
  exact turned_step hd.k hd.x0 hd.x1 hd.x2 hd.n0 hd.n1 hd.n2 subs _ rfl (by omega) b hb0 hb1 (fun hd' sb hx hd2 => ih _ hx (by have := count_mem hx; omega) hd2) (by obtain ⟨d, hd'⟩ := hk; exact chk_vok hd') (by obtain ⟨d, hd'⟩ := hk; exact chk_subs hd') ok a cap w h
end Go.Proofs.Ytoceogbanlmnoaa
