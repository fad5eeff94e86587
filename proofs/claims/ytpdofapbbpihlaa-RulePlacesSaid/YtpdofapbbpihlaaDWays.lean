/- Layer rule: the contract of the program's ways: a walk over conditions, the way written in one buffer. -/
import Derived.Test.YtpdofapbbpihlaaDRows
namespace Go.Proofs.Ytpdofapbbpihlaa
open Go.RowKit

theorem Kid.shape {w : World} {B : Nat} {u : Value} {way : List Nat} (h : Kid w B u way) : ∃ a m c, u = .slice a m c := by
  obtain ⟨g, c, cs, e, _⟩ := h
  exact ⟨_, _, _, e⟩
/-- The ways are told, in new memory; the buffer alone is written, behind the beginning. -/
def WaysEnd (out : List (List Nat)) (b : Nat) (ab : List Nat) (w : World) (e : Ending) (w' : World) : Prop := ∃ r, e = .returned r ∧ WRow w' w.heap.size r out ∧ Kept (fun k => k = b) w w' ∧ Buf w' b ab
abbrev predV (S : Nat) : Value := .func (.func 46) #[] #[.pointer (some ⟨S, 0, none⟩)]
abbrev WaysIH (l : List Sh) (v : Int) (S b : Nat) : Prop := ∀ hd sb, Sh.mk hd sb ∈ l → ∀ ok a cap ab w, chkL sb ((ab.length : Int) + 1) = 0 → Holds cA w ok (.slice a sb.length cap) sb → (∀ x o, ok x o → x ≠ b) → S ≠ b → Blk w S 42 #[.bool true, .int .i64 v] → Buf w b ab →
  Calls Try.prog 45 #[.slice a sb.length cap, .slice (some ⟨b, 0, none⟩) ab.length 3, predV S] w (WaysEnd (wayL sb 0 v ab) b ab w)
set_option maxHeartbeats 1000000 in
theorem ways_step (l : List Sh) (len : Nat) (HL : Hid (l.length = len)) (HC : Hid (countL l ≤ 100)) (v : Int) (S b : Nat) (IH : Hid (WaysIH l v S b)) (ok : Nat → Nat → Prop) (a : Option Addr) (cap : Nat) (ab : List Nat) (n : Nat) (HN : Hid (ab.length = n)) (w : World)
    (HCk : Hid (chkL l ((ab.length : Int) + 1) = 0)) (HH : Hid (Holds cA w ok (.slice a len cap) l)) (HOk : Hid (∀ x o, ok x o → x ≠ b)) (HSb : Hid (S ≠ b)) (HS : Hid (Blk w S 42 #[.bool true, .int .i64 v])) (HBuf : Hid (Buf w b ab)) :
    Calls Try.prog 45 #[.slice a len cap, .slice (some ⟨b, 0, none⟩) n 3, predV S] w (WaysEnd (wayL l 0 v ab) b ab w) := by
  have hb0 : b < w.heap.size := by obtain ⟨cs, h, _⟩ := HBuf.out; exact h.lt
  have hLen : len ≤ 100 := by have := length_countL l; have := HL.out; have := HC.out; omega
  go_enter Try.func45, Try.ntmps45
  go_wp2_with fail
  go_loopw [7, 13] (fun u i wr => ∃ j : Nat, j ≤ len ∧ i = .int .i64 j ∧ WRow wr w.heap.size u (wayL (l.take j) 0 v ab) ∧ Kept (fun k => k = b) w wr ∧ Buf wr b ab) (fun _ i _ => len - (intOf i).toNat)
  case atStart => exact ⟨0, by omega, rfl, by rw [List.take_zero, wayL_nil]; exact WRow.nil _ _, Kept.refl _ _, HBuf.out⟩
  case round =>
    obtain ⟨j, hj, rfl, hR, hK, hBf⟩ := hrel
    have HR := Lib.hid hR
    have HK := Lib.hid hK
    have HBf := Lib.hid hBf
    clear hR hK hBf HBuf
    by_cases hlt : j < len
    · obtain ⟨⟨⟨k', x0', x1', x2', n0', n1', n2'⟩, sb⟩, hx⟩ : ∃ x, l[j]? = some x := ⟨_, List.getElem?_eq_getElem (by have := HL.out; omega)⟩
      have hck : (Sh.mk ⟨k', x0', x1', x2', n0', n1', n2'⟩ sb).chk ((ab.length : Int) + 1) = 0 := chkL_at HCk.out hx
      have HZ := Lib.hid (chk_zero hck)
      have hd3 : n < 3 := by have := HZ.out.1; have := HN.out; omega
      have hHr := HH.out.kept HK.out (fun x o hb hf => HOk.out x o hb hf)
      obtain ⟨bb, o, a', cap', rfl, hok, hr, hs⟩ := hHr.at_ hx
      have HX := Lib.hid (IH.out _ _ (List.mem_of_getElem? hx))
      have HRng := Lib.hid hr
      have HSub := Lib.hid hs
      have HT : Hid (wayL (l.take (j + 1)) 0 v ab = wayL (l.take j) 0 v ab ++ (if k' = 3 then wayL sb 0 v (ab ++ [j]) else if (Hd.mk k' x0' x1' x2' n0' n1' n2').own v = true then [ab ++ [j]] else [])) := Lib.hid (by
        have := wayL_take_succ (v := v) (ab := ab) l 0 j hx
        rw [Nat.zero_add] at this
        exact this)
      have HTl := Lib.hid (Nat.le_trans ((wayL_len v).2 (l.take j) 0 ab) (Nat.le_trans (countL_take_le l j) HC.out))
      have HTm := Lib.hid (Nat.le_trans ((wayL_len v).2 sb 0 (ab ++ [j])) (Nat.le_trans (show countL sb ≤ countL l by have h1 := count_mem (List.mem_of_getElem? hx); simp only [Sh.count] at h1; omega) HC.out))
      have HSk := Lib.hid (HS.out.kept HK.out (fun e => HSb.out e))
      have hblt : b < wr.heap.size := by obtain ⟨cs, h, _⟩ := HBf.out; exact h.lt
      clear hx hr hs hok hHr hck
      have HBc := Lib.hid (Blk.new wr 45 (arr8 ⟨k', x0', x1', x2', n0', n1', n2'⟩ (.slice a' sb.length cap')))
      have HBu1 := HBf.out.kept ((Kept.refl Nil wr).alloc (.cells (arr8 ⟨k', x0', x1', x2', n0', n1', n2'⟩ (.slice a' sb.length cap')) 45)) id
      obtain ⟨w2, r2, hb2, k2⟩ := appendB_one _ HBu1 (by rw [HN.out]; exact hd3) j
      rw [HN.out, show (wr.alloc (.cells (arr8 ⟨k', x0', x1', x2', n0', n1', n2'⟩ (.slice a' sb.length cap')) 45)).heap.size = wr.heap.size + 1 by simp] at r2
      have RR2 := Lib.hid r2
      have HB2 := Lib.hid hb2
      have HC2 := Lib.hid (HBc.out.kept k2 (fun e => by omega))
      have K02 := Lib.hid ((((Kept.refl (fun k => k = b) wr).alloc (.cells (arr8 ⟨k', x0', x1', x2', n0', n1', n2'⟩ (.slice a' sb.length cap')) 45))).trans k2 (fun _ _ g => g))
      clear r2 hb2 k2 HBu1 HBc
      by_cases hk3 : k' = 3
      · subst hk3
        have CX : Hid (Calls Try.prog 45 #[.slice a' sb.length cap', .slice (some ⟨b, 0, none⟩) (n + 1) 3, predV S] w2 (WaysEnd (wayL sb 0 v (ab ++ [j])) b (ab ++ [j]) w2)) := Lib.hid (by
          have hs0 : chkL sb ((ab.length : Int) + 1 + 1) = 0 := by
            rcases HZ.out.2 with ⟨_, _, h⟩ | ⟨h, _⟩
            · exact h
            · rcases h with h | h <;> cases h
          have hl2 : (ab ++ [j]).length = n + 1 := by rw [List.length_append, HN.out]; rfl
          have := HX.out ok a' cap' (ab ++ [j]) w2 (by rw [hl2, ← HN.out]; exact hs0) (HSub.out.kept K02.out (fun x o hb hf => HOk.out x o hb hf)) HOk.out HSb.out (HSk.out.kept K02.out (fun e => HSb.out e)) HB2.out
          rwa [hl2] at this)
        have c7 := HC2.out.cell 7
        have c0 := HC2.out.cell 0
        simp at c7 c0
        go_wp2_with (first
          | ((with_reducible refine wpList_load_A rfl (.tmp 16) rfl _ _ rfl ⟨3, x0', x1', x2', n0', n1', n2'⟩ (.slice a' sb.length cap') ?_ ?_)
             · exact HRng.out)
          | (at_builtin; refine wpList_append_run rfl (.tmp 18) (.tmp 20) 38 rfl _ _ rfl rfl RR2.out ?_))
        refine CX.out.mono ?_
        rintro e w3 ⟨r3, rfl, h3, k3, b3⟩
        have K03 := Lib.hid (K02.out.trans k3 (fun _ _ g => g))
        obtain ⟨v', w4, r4, o4, k4⟩ := appendW_all w3 (HR.out.kept K03.out (fun i hi => by have : i = b := hi; omega)) h3 (by have := HK.out.size; have := K03.out.size; omega) (by have := HK.out.size; have := K02.out.size; omega) (by have := HTl.out; have := HTm.out; omega)
        have RR4 := Lib.hid r4
        have O4 := Lib.hid o4
        have KE := Lib.hid ((HK.out.trans K03.out (fun _ _ g => g)).trans k4 (fun i hi e => by have := (HR.out.own i e).1; omega))
        have BE := Lib.hid (b3.less.kept k4 (fun e => by have := (HR.out.own b e).1; omega))
        clear h3 k3 b3 r4 o4 k4 c7 c0 CX RR2
        go_wp2_with (at_builtin; refine wpList_append_run rfl (.tmp 25) (.tmp 30) 36 rfl _ _ rfl rfl RR4.out ?_)
        go_roundw
        case rel => exact ⟨j + 1, by omega, by go_num, by rw [HT.out, if_pos trivial]; exact O4.out, KE.out, BE.out⟩
        case measure => simp [intOf]; omega
      · have hk3' : (k' == 3) = false := by simpa using hk3
        have HO := Lib.hid (stands_any k' x0' x1' x2' n0' n1' n2' (.slice a' sb.length cap') v S w2 (HSk.out.kept K02.out (fun e => HSb.out e)))
        generalize hq : ownN x0' x1' x2' n0' n1' n2' v = q at HO
        have HQ : Hid ((Hd.mk k' x0' x1' x2' n0' n1' n2').own v = q) := Lib.hid hq
        clear hq
        have c0 := HC2.out.cell 0
        simp at c0
        cases q
        · go_wp2_with (first
            | ((with_reducible refine wpList_load_A rfl (.tmp 16) rfl _ _ rfl ⟨k', x0', x1', x2', n0', n1', n2'⟩ (.slice a' sb.length cap') ?_ ?_)
               · exact HRng.out)
            | ((with_reducible refine wpList_load_A rfl (.tmp 9) rfl _ _ rfl ⟨k', x0', x1', x2', n0', n1', n2'⟩ (.slice a' sb.length cap') ?_ ?_)
               · exact World.rangeAt_of_block HC2.out 0 8)
            | (at_builtin; refine wpList_append_run rfl (.tmp 18) (.tmp 20) 38 rfl _ _ rfl rfl RR2.out ?_))
          refine HO.out.mono ?_
          rintro e w3 ⟨rfl, k3⟩
          have K03 := Lib.hid (K02.out.trans k3 (fun _ _ g => g.elim))
          have RE := Lib.hid (HR.out.kept K03.out (fun i hi => by have : i = b := hi; omega))
          have KE := Lib.hid (HK.out.trans K03.out (fun _ _ g => g))
          have BE := Lib.hid (HB2.out.less.kept k3 id)
          clear k3 c0 RR2
          go_wp2_with fail
          go_roundw
          case rel => exact ⟨j + 1, by omega, by go_num, by rw [HT.out, if_neg hk3, if_neg (by rw [HQ.out]; simp), List.append_nil]; exact RE.out, KE.out, BE.out⟩
          case measure => simp [intOf]; omega
        · go_wp2_with (first
            | ((with_reducible refine wpList_load_A rfl (.tmp 16) rfl _ _ rfl ⟨k', x0', x1', x2', n0', n1', n2'⟩ (.slice a' sb.length cap') ?_ ?_)
               · exact HRng.out)
            | ((with_reducible refine wpList_load_A rfl (.tmp 9) rfl _ _ rfl ⟨k', x0', x1', x2', n0', n1', n2'⟩ (.slice a' sb.length cap') ?_ ?_)
               · exact World.rangeAt_of_block HC2.out 0 8)
            | (at_builtin; refine wpList_append_run rfl (.tmp 18) (.tmp 20) 38 rfl _ _ rfl rfl RR2.out ?_))
          refine HO.out.mono ?_
          rintro e w3 ⟨rfl, k3⟩
          have K03 := Lib.hid (K02.out.trans k3 (fun _ _ g => g.elim))
          have B3 := Lib.hid (HB2.out.kept k3 id)
          have HCl := Lib.hid (clone_any w3 B3.out (by rw [List.length_append, HN.out]; exact ⟨by simp, by simp; omega⟩))
          rw [show (ab ++ [j]).length = n + 1 by rw [List.length_append, HN.out]; rfl] at HCl
          clear k3 c0 RR2
          go_wp2_with fail
          refine HCl.out.mono ?_
          rintro e w4 ⟨u4, rfl, h4, k4⟩
          obtain ⟨a4, m4, c4, rfl⟩ := h4.shape
          have K04 := Lib.hid (K03.out.trans k4 (fun _ _ g => g.elim))
          obtain ⟨v', w5, r5, o5, k5⟩ := appendW_one w4 (HR.out.kept K04.out (fun i hi => by have : i = b := hi; omega)) (by have := HK.out.size; have := K04.out.size; omega) (by have := HTl.out; omega) (h4.less (by have := HK.out.size; have := K03.out.size; omega))
          have RR5 := Lib.hid r5
          have O5 := Lib.hid o5
          have KE := Lib.hid ((HK.out.trans K04.out (fun _ _ g => g)).trans k5 (fun i hi e => by have := (HR.out.own i e).1; omega))
          have BE := Lib.hid ((B3.out.less.kept k4 id).kept k5 (fun e => by have := (HR.out.own b e).1; omega))
          clear h4 k4 r5 o5 k5 HCl
          go_wp2_with (at_builtin; refine wpList_append_run rfl (.tmp 35) (.tmp 38) 36 rfl _ _ rfl rfl RR5.out ?_)
          go_roundw
          case rel => exact ⟨j + 1, by omega, by go_num, by rw [HT.out, if_neg hk3, if_pos HQ.out]; exact O5.out, KE.out, BE.out⟩
          case measure => simp [intOf]; omega
    · obtain rfl : j = len := by omega
      have HE : Hid (l.take j = l) := Lib.hid (by rw [← HL.out]; simp)
      go_wp2_with fail
      go_ret
      exact ⟨_, rfl, by have := HR.out; rwa [HE.out] at this, HK.out, HBf.out⟩
theorem ways_tree (v : Int) (S b : Nat) : ∀ s : Sh, s.count ≤ 101 → ∀ ok a cap ab w, chkL s.subs ((List.length ab : Int) + 1) = 0 → Holds cA w ok (.slice a s.subs.length cap) s.subs → (∀ x o, ok x o → x ≠ b) → S ≠ b → Blk w S 42 #[.bool true, .int .i64 v] → Buf w b ab →
    Calls Try.prog 45 #[.slice a s.subs.length cap, .slice (some ⟨b, 0, none⟩) ab.length 3, predV S] w (WaysEnd (wayL s.subs 0 v ab) b ab w) := by
  refine Sh.ind fun hd subs ih hc ok a cap ab w hk hh hok hsb hs hb => ?_
  have hc' : 1 + countL subs ≤ 101 := by simpa [Sh.count] using hc
  exact ways_step subs _ rfl (show _ ≤ _ by omega) v S b (fun hd' sb hx => ih _ hx (by have := count_mem hx; omega)) ok a cap ab _ rfl w hk hh hok hsb hs hb
end Go.Proofs.Ytpdofapbbpihlaa
