/- The law's Ref; the reference's Less, One, Has. -/
import Derived.Test.YtkffcpjaciomjaaDoorXRise
import Derived.BigRegion
namespace Go.Proofs.YtkffcpjaciomjaaDoor
open Go.RowKit Go.Shelf Go.Sort
set_option maxRecDepth 100000

theorem Tryd.infoRM : (Tryd.prog.info? 39).map (fun i => (i.zero, i.size, i.bytes)) = some (some (.agg #[.string .empty, .slice none 0 0]), 2, 40) := by kernel_rfl
theorem elsR : Els Tryd.prog 25 39 2 := Els.of Tryd.underlying25 Tryd.infoRM rfl (by decide) (by decide)
/-- append as one step of a region that draws, by an equation on its run. -/
theorem step_append_run {P : Program} {ops : Array Oper} {o : Oper} {a : Act} {w : World} {K : Act → World → Prop} {Q : Exit → Act → World → Prop} {E' : Prop} (hgd : o.guard = none) (s x : Operand) (t : TypeId)
    (ho : o.op = .call { callee := .builtin .append, args := #[s, x], argTypes := #[t, t] }) (v y : Value) (hs : a.eval s = v) (hx : a.eval x = y) {v' : Value} {w' : World}
    (hr : (Builtin.append_ #[t, t] o.type #[v, y]).run P w = .ok v' w') (h : K (a.put o.dst v') w') : if Region.wanted o (yielded ops a.tmps) = true then Oper.wp P o a w K Q else E' := by
  rw [if_pos (by simp [Region.wanted, hgd])]
  unfold Oper.wp execOp
  simp only [ho, resolve, invoke, builtin, Sem.run_bind, Sem.run_pure, Result.andThen_ok, List.map_toArray, List.map_cons, List.map_nil, hs, hx, hr]
  exact h
/-- Ids in blocks of ints of the call's own. -/
def OwnI (w : World) (B : Nat) (l : List MC) : Prop := ∀ m ∈ l, Row cN 3 1 w B (.slice m.a m.n m.c) m.ids ∧ m.n ≤ 1000 ∧ m.r.size ≤ 1000
theorem OwnI.mok {w : World} {B : Nat} {l : List MC} (h : OwnI w B l) : ∀ m ∈ l, Mok w m := fun m hm => ⟨(h m hm).1.toIn cN_len (by decide), (h m hm).1.cap, (h m hm).2.1, (h m hm).2.2⟩
/-- They stay where a row of matches grows. -/
theorem OwnI.far {w w' : World} {B B' : Nat} {l l2 : List MC} {v : Value} {e : TypeId} (h : OwnI w B l) (hr : Row cM e 2 w B' v l2) (he : e ≠ 3) (k : Kept (fun b => v.ownBlock = some b) w w') : OwnI w' B l := fun m hm => by
  obtain ⟨h1, h2, h3⟩ := h m hm
  refine ⟨h1.keptF k (fun b hb hv => ?_), h2, h3⟩
  obtain ⟨c1, e1⟩ := h1.block hb
  obtain ⟨c2, e2⟩ := hr.block hv
  rw [e1] at e2
  injection e2 with e3
  injection e3 with _ e4
  exact he e4.symm

set_option maxHeartbeats 4000000 in
theorem refL_any {w : World} {a : Option Addr} {n c : Nat} {l : List MC} (h : Ms w a n l) (hn : n ≤ 4000) :
    Calls Tryd.prog 11 #[.slice a n c] w fun e w' => ∃ a' c' l', e = .returned (.slice a' n c') ∧ Ms w' a' n l' ∧ l'.map MC.val = l.map MC.val ∧ Kept Nil w w' := by
  have HH := Lib.hid h
  have HL := Lib.hid h.row.1
  clear h
  go_enter Tryd.func11, Tryd.ntmps11
  go_wp2_with fail
  go_loopw [3, 5, 8] (fun r _ i wr => ∃ (j : Nat) (a2 : Option Addr) (c2 : Nat) (l2 : List MC), j ≤ n ∧ i = .int .i64 j ∧ r = .slice a2 j c2 ∧ Hid (Row cM 39 2 wr w.heap.size (.slice a2 j c2) l2) ∧ Hid (OwnI wr w.heap.size l2) ∧ Hid (l2.map MC.val = (l.take j).map MC.val) ∧ Hid (Kept Nil w wr)) (fun _ _ i _ => n - (intOf i).toNat)
  case atStart => exact ⟨0, none, 0, [], Nat.zero_le _, rfl, rfl, Row.nil _ _, fun m hm => (by cases hm), rfl, Kept.refl _ _⟩
  case round =>
    obtain ⟨j, a2, c2, l2, hj, rfl, rfl, HR, HO, HV, HK⟩ := hrel
    by_cases hlt : j < n
    · obtain ⟨m, hm⟩ : ∃ m, l[j]? = some m := ⟨_, List.getElem?_eq_getElem (by have := HL.out; omega)⟩
      obtain ⟨b0, o0, rfl, hb0, hc0⟩ := (HH.out.row.kept HK.out).at_ hm
      have q0 := hc0 0 _ rfl
      have q1 := hc0 1 _ rfl
      rw [Nat.add_zero] at q0
      have htk : l.take (j + 1) = l.take j ++ [m] := take_succ' hm
      have hmok := (HH.out.ok m (List.mem_of_getElem? hm)).kept HK.out
      obtain ⟨r, ids, mn, ma, mc⟩ := m
      have KA := Lib.hid (((Kept.refl Nil wr).alloc (.cells #[.string r, .slice ma mn mc] 37)).drew)
      have hbox := (Blk.new wr 37 #[.string r, .slice ma mn mc]).drew
      have hsz : (wr.alloc (.cells #[.string r, .slice ma mn mc] 37)).drew.heap.size = wr.heap.size + 1 := by show (wr.alloc _).heap.size = _; simp
      generalize hW0 : (wr.alloc (.cells #[.string r, .slice ma mn mc] 37)).drew = W0 at KA hbox hsz
      have o1 : (W0.alloc (.cells #[] 3)).ownsRow W0.heap.size 3 1 (.slice (some ⟨W0.heap.size, 0, none⟩) 0 0) 0 [] := World.ownsRow_made W0 #[] 0 (Nat.le_refl _) (Nat.zero_le _) (by simp)
      have hin : In cN 1 (W0.alloc (.cells #[] 3)) ma mn ids := hmok.ids.kept (KA.out.alloc _)
      have hmn : ids.length = mn := hmok.ids.1
      obtain ⟨v1, w1, r1, o1', k1, _⟩ := append_any elsI 35 o1 (hin.toAt (cap := mc) cN_len (by decide)) (by rw [flat_len cN_len, hmn]) (flatN_one ids) (by have := hmok.few; simp only at this; omega) (by simp)
      have hr1 : Row cN 3 1 w1 W0.heap.size v1 ids := by rw [← hmn] at o1'; simpa [Row] using o1'
      obtain ⟨a1, c1, e1⟩ := hr1.shape
      rw [hmn] at e1
      subst e1
      have kW01 : Kept Nil W0 w1 := ((Kept.refl Nil W0).alloc (.cells #[] 3)).trans k1 (fun i hi e => by simp [Value.ownBlock] at e; omega)
      have HK1 := Lib.hid (HK.out.trans (KA.out.trans kW01 (fun _ _ e => e)) (fun _ _ e => e))
      have KW1 := Lib.hid (KA.out.trans kW01 (fun _ _ e => e))
      have hnl : j = l2.length := by
        obtain ⟨_, _, e⟩ := HR.out.shape
        exact (Value.slice.inj e).2.1
      have HR1 := Lib.hid (HR.out.keptN KW1.out)
      have HO1 : Hid (OwnI w1 w.heap.size l2) := Lib.hid fun x hx => ⟨(HO.out x hx).1.keptN KW1.out, (HO.out x hx).2⟩
      obtain ⟨a3, c3, w2, r3, hr3, hk3, hk4⟩ := Row.push elsR cM_len cM_one 25 HK1.out HR1.out hnl (by omega) ⟨r, ids, mn, a1, c1⟩ #[.string r, .slice a1 mn c1] rfl
      have hbox1 := hbox.kept kW01 (fun e => e)
      have z0 : w1.cell? ⟨wr.heap.size, 0, none⟩ = some (.string r) := hbox1.cell 0
      have z1 : w1.cell? ⟨wr.heap.size, 1, none⟩ = some (.slice ma mn mc) := hbox1.cell 1
      have HR3 := Lib.hid hr3
      have HK3 := Lib.hid hk3
      have HO3 : Hid (OwnI w2 w.heap.size (l2 ++ [⟨r, ids, mn, a1, c1⟩])) := Lib.hid (by
        have h4 : OwnI w2 w.heap.size l2 := HO1.out.far HR1.out (by decide) hk4
        intro x hx
        rcases List.mem_append.1 hx with h | h
        · exact h4 x h
        · rw [List.mem_singleton.1 h]
          have hnew : OwnI w1 w.heap.size [⟨r, ids, mn, a1, c1⟩] := fun y hy => by
            rw [List.mem_singleton.1 hy]
            exact ⟨hr1.down (Nat.le_trans HK.out.size KA.out.size), hmok.few, hmok.small⟩
          exact hnew.far HR1.out (by decide) hk4 _ (List.mem_singleton.2 rfl))
      have HV3 : Hid ((l2 ++ [(⟨r, ids, mn, a1, c1⟩ : MC)]).map MC.val = (l.take (j + 1)).map MC.val) := Lib.hid (by rw [htk, List.map_append, List.map_append, HV.out]; rfl)
      rw [hsz] at r1
      rw [← hW0] at r1
      have R1 := Lib.hid r1
      have R3 := Lib.hid r3
      clear hc0 hm htk hmok KA hbox hsz o1 hin o1' k1 hr1 kW01 hnl hr3 hk3 hk4 hbox1 r1 r3 hW0
      simp only at q0 q1
      go_wp2_with fail
      go_region_law (first
        | (refine step_append_run (v' := .slice a1 mn c1) (w' := w1) rfl (.tmp 15) (.tmp 17) 35 rfl (.slice (some ⟨wr.heap.size + 1, 0, none⟩) 0 0) (.slice ma mn mc) rfl rfl (by exact R1.out) ?_)
        | (refine step_append_run (v' := .slice a3 (j + 1) c3) (w' := w2) rfl (.tmp 12) (.tmp 20) 25 rfl (.slice a2 j c2) (.slice (some ⟨w1.heap.size, 0, none⟩) 1 1) rfl rfl (by exact R3.out) ?_))
      all_goals
        go_wp2_with fail
        go_roundw
        case rel => exact ⟨j + 1, a3, c3, _, hlt, by go_num, rfl, HR3, HO3, HV3, HK3⟩
        case measure => simp [intOf]; omega
    · have e : j = n := by omega
      subst e
      have HV2 : Hid (l2.map MC.val = l.map MC.val) := Lib.hid (by have := HV.out; rwa [List.take_of_length_le (by have := HL.out; omega)] at this)
      go_wp2_with fail
      go_ret
      exact ⟨a2, c2, l2, rfl, ⟨HR.out.toIn cM_len (by decide), HO.out.mok⟩, HV2.out, HK.out⟩
end Go.Proofs.YtkffcpjaciomjaaDoor
