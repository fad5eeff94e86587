/- The contract of the reference's Parse. -/
import Derived.Test.YtkffcpjaciomjaaDoorXRefT
namespace Go.Proofs.YtkffcpjaciomjaaDoor
open Go.RowKit Go.Shelf Go.Sort
set_option maxRecDepth 100000

/-- What the reference's Parse hands back. -/
def RParseEnd (s : ByteArray) (w : World) (e : Ending) (w' : World) : Prop := Kept Nil w w' ∧ ((parseE s = none ∧ ∃ r a n c, e = .returned (.tuple #[.agg #[.string r, .slice a n c], .bool false])) ∨ ∃ m, parseE s = some m.val ∧ Mok w' m ∧ e = .returned (.tuple #[vM m, .bool true]))
theorem rx (x : ByteArray) : (⟨x.data.toList.toArray⟩ : ByteArray) = x := by apply ByteArray.ext; simp
/-- Between two rounds. -/
structure QS (s : ByteArray) (w4 : World) (w : World) (R mb : Nat) (ws : List ByteArray) (g : Nat) (a : Option Addr) (j c : Nat) (wr : World) : Prop where
  kept : Kept Nil w wr
  res : Blk wr R 39 #[.string ⟨#[]⟩, .slice none 0 0]
  box : Blk wr mb 39 #[.string (ws.getD 0 ⟨#[]⟩), .slice a j c]
  row : Row cN 3 1 wr w4.heap.size (.slice a j c) (((ws.drop 1).take j).map fun x => numL x.data.toList)
  names : ∀ (i : Nat) x, ws[i]? = some x → wr.cell? ⟨g, i, none⟩ = some (.string x)
  good : ∀ x ∈ (ws.drop 1).take j, 1 ≤ numL x.data.toList
theorem wl_ws {s : ByteArray} {ws : List ByteArray} (h : L8 ws = wl s.data.toList) : ∃ x r, ws = x :: r ∧ wl s.data.toList = x.data.toList :: r.map (fun y => y.data.toList) := by
  cases ws with
  | nil => exact absurd h.symm (wl_ne _)
  | cons x r => exact ⟨x, r, rfl, h.symm⟩
set_option maxHeartbeats 8000000 in
theorem refParse_any (s : ByteArray) (hs : s.size ≤ 900) (w : World) :
    Calls Tryd.prog 24 #[.string s] w (RParseEnd s w) := by
  have K0 := Lib.hid ((Kept.refl Nil w).alloc (.cells #[.string ⟨#[]⟩, .slice none 0 0] 39))
  have hR0 := Lib.hid (Blk.new w 39 #[.string ⟨#[]⟩, .slice none 0 0])
  have CW := Lib.hid (fun W => words_any s (by omega) W)
  have CN : Hid (∀ x : ByteArray, x.size ≤ 1000 → ∀ W, Calls Tryd.prog 44 #[.string x] W fun e w' => e = .returned (.int .i64 (numL x.data.toList)) ∧ W = w') := Lib.hid fun x hx W => refNumber_any x (by omega) W
  go_enter Tryd.func24, Tryd.ntmps24
  go_wp2_with fail
  refine (CW.out _).mono ?_
  rintro e w1 ⟨v, ws, rfl, hsr, hl8, hwl, k1⟩
  have hR1 := Lib.hid (hR0.out.kept k1 (fun e => e))
  have K1 := Lib.hid (K0.out.trans k1 (fun _ _ e => e))
  have HSR := Lib.hid hsr
  obtain ⟨x, r, hws, hwx⟩ := wl_ws hl8
  have hlen : ws.length = r.length + 1 := by rw [hws]; rfl
  have h0 : ws[0]? = some x := by rw [hws]; rfl
  obtain ⟨g, cap, rfl, hx0⟩ := ownName hsr h0
  have HNM : Hid (∀ (i : Nat) y, ws[i]? = some y → w1.cell? ⟨g, i, none⟩ = some (.string y)) := Lib.hid fun i y hi => by
    obtain ⟨g2, c2, e2, hc⟩ := ownName hsr hi
    cases e2
    exact hc
  have HSZ : Hid (∀ y ∈ ws, y.size ≤ 1000) := Lib.hid fun y hy => by
    have h1 : y.data.toList ∈ wl s.data.toList := by rw [← hl8]; exact List.mem_map.2 ⟨y, hy, rfl⟩
    have key : ∀ (l : List UInt8) (z : List UInt8), z ∈ wl l → z.length ≤ l.length := by
      intro l
      induction l with
      | nil => intro z hz; simp [wl] at hz; subst hz; exact Nat.le_refl _
      | cons c t ih =>
        intro z hz
        unfold wl at hz
        by_cases hc : c = 32
        · rw [if_pos hc] at hz
          rcases List.mem_cons.1 hz with h | h
          · rw [h]; exact Nat.zero_le _
          · have := ih z h; rw [List.length_cons]; omega
        · rw [if_neg hc] at hz
          cases ht : wl t with
          | nil => exact absurd ht (wl_ne t)
          | cons q qs =>
            rw [ht] at hz
            simp only at hz
            rcases List.mem_cons.1 hz with h | h
            · have := ih q (by rw [ht]; exact List.mem_cons_self ..); rw [h, List.length_cons, List.length_cons]; omega
            · have := ih z (by rw [ht]; exact List.mem_cons_of_mem _ h); rw [List.length_cons]; omega
    have h2 := key _ _ h1
    have h3 : s.data.toList.length = s.size := by simp
    have h4 : y.data.toList.length = y.size := by simp
    omega
  obtain ⟨nl, hnl⟩ : ∃ nl, ws.length = nl := ⟨_, rfl⟩
  obtain ⟨n1, hn1⟩ : ∃ n1, nl - 1 = n1 := ⟨_, rfl⟩
  rw [hnl]
  have HNL := Lib.hid hnl
  have HN1 : Hid (n1 = r.length) := Lib.hid (by omega)
  have hnl1 : nl = n1 + 1 := by omega
  have hcap : nl ≤ cap := by
    rcases hsr.2 with ⟨e1, _⟩ | ⟨g', c', cur, e1, _, _, hc, _⟩
    · cases e1
    · cases e1; omega
  have hn1b : n1 ≤ 1000 := by omega
  have HNL1 := Lib.hid hnl1
  have hi1 : (1 : Int) ≤ (nl : Int) := by omega
  have hi2 : (0 : Int) < (nl : Int) := by omega
  have HCAP := Lib.hid hcap
  have HR0 : Hid (w.heap.size < w1.heap.size) := Lib.hid hR1.out.lt
  have P0 : Hid (QS s (w1.alloc (.cells #[.string x, .slice none 0 0] 39)) w w.heap.size w1.heap.size ws g none 0 0 (w1.alloc (.cells #[.string x, .slice none 0 0] 39))) := Lib.hid
    ⟨K1.out.alloc _, hR1.out.alloc _, by rw [hws]; exact Blk.new _ _ _, Row.nil _ _, fun i y hi => by
      have h := HNM.out i y hi
      rw [((Kept.refl Nil w1).alloc (.cells #[.string x, .slice none 0 0] 39)).cell (World.block_lt_of_cell? w1 _ h) (fun e => e)]; exact h, fun y hy => by simp at hy⟩
  have HMB : Hid ((w1.alloc (.cells #[.string x, .slice none 0 0] 39)).heap.size = w1.heap.size + 1) := Lib.hid (by simp)
  have HWX := Lib.hid hwx
  have HWS := Lib.hid hws
  have HG : Hid (g < w1.heap.size) := Lib.hid (World.block_lt_of_cell? w1 _ hx0)
  clear k1 hsr hl8 hwl hwx hlen h0 hnl hn1 hR0 hR1 K0 K1 CW hws
  generalize hmb : w1.heap.size = mb at *
  generalize hW4 : w1.alloc (.cells #[.string x, .slice none 0 0] 39) = w4 at P0 HMB
  have HW4 := Lib.hid hW4
  clear hW4 HNM HSR
  go_wp2_with fail
  all_goals
    clear hnl1 hmb hx0 hi1 hi2
    go_loopw [7, 8, 18] (fun _ _ i wr => ∃ (j : Nat) (a : Option Addr) (c : Nat), j ≤ n1 ∧ i = .int .i64 j ∧ Hid (QS s w4 w w.heap.size mb ws g a j c wr)) (fun _ _ i _ => n1 - (intOf i).toNat)
    case atStart => exact ⟨0, none, 0, Nat.zero_le _, rfl, by rw [HW4.out]; exact P0⟩
    case round =>
      obtain ⟨j, a, c, hj, rfl, HP⟩ := hrel
      have hR := HP.out.res
      have hM := HP.out.box
      have r0 := hR.cell 0
      have r1 := hR.cell 1
      have r2 := hR.frozen 0
      have r3 := hR.frozen 1
      have m0 := hM.cell 0
      have m1 := hM.cell 1
      have m2 := hM.frozen 1
      have hg0 : ws.getD 0 ⟨#[]⟩ = x := by rw [HWS.out]; rfl
      rw [hg0] at m0
      simp at r0 r1 m0 m1
      clear hg0
      by_cases hlt : j < n1
      · first
        | (exfalso; have := HNL1.out; omega)
        | (obtain ⟨y, hy⟩ : ∃ y, ws[1 + j]? = some y := ⟨_, List.getElem?_eq_getElem (by have := HNL.out; have := HNL1.out; omega)⟩
           have q0 := HP.out.names _ _ hy
           have hyr : (ws.drop 1)[j]? = some y := by rw [List.getElem?_drop]; exact hy
           have CNY := Lib.hid (CN.out y (HSZ.out y (List.mem_of_getElem? hy)))
           have hjj : (j : Int) < (n1 : Int) := by omega
           by_cases hn : numL y.data.toList < 1
           · have HB : Hid (parseE s = none) := Lib.hid (parseE_bad HWX.out (y := y.data.toList) (by
               rw [HWS.out] at hyr
               exact List.mem_map.2 ⟨y, List.mem_of_getElem? hyr, rfl⟩) (by omega))
             have K4 := Lib.hid HP.out.kept
             obtain ⟨nv, hnv⟩ : ∃ nv, numL y.data.toList = nv := ⟨_, rfl⟩
             rw [hnv] at CNY hn
             clear hnv hR hM hy hyr
             go_wp2_with fail
             refine (CNY.out _).mono ?_
             rintro e w5 ⟨rfl, rfl⟩
             go_wp2_with fail
             refine bodyPost_ret (v := .tuple #[.agg #[.string ⟨#[]⟩, .slice none 0 0], .bool false]) (by simp [results, Tryd.results24, go_sem, r0, r1]) rfl ⟨?_, .inl ⟨HB.out, _, _, _, _, rfl⟩⟩
             exact (K4.out.setCell _ (.inr (Nat.le_refl _)) _).setCell _ (.inr (Nat.le_refl _)) _
           · have hlenr : (((ws.drop 1).take j).map fun x => numL x.data.toList).length = j := by
               rw [List.length_map, List.length_take, List.length_drop]
               have := HNL.out
               have := HNL1.out
               omega
             obtain ⟨v7, w7, r7, o7, k7, _⟩ := append_any elsI 35 (HP.out.row.keptN ((Kept.refl Nil wr).alloc (.cells #[.int .i64 (numL y.data.toList)] 3))) (At.lit wr 3 #[.int .i64 (numL y.data.toList)] (cN (numL y.data.toList)) rfl) rfl (cN_one _) (by rw [hlenr]; omega) (by
                 have h3 := HMB.out
                 have h4 := hM.lt
                 simp; omega)
             have htk : (ws.drop 1).take (j + 1) = (ws.drop 1).take j ++ [y] := by rw [List.take_add_one, hyr]; rfl
             have hrow7 : Row cN 3 1 w7 w4.heap.size v7 (((ws.drop 1).take (j + 1)).map fun x => numL x.data.toList) := by
               rw [htk, List.map_append]
               simpa [Row] using o7
             obtain ⟨a7, c7, e7⟩ := hrow7.shape
             have e7' : v7 = .slice a7 (j + 1) c7 := by
               rw [e7, htk, List.map_append, List.length_append, hlenr]; rfl
             clear e7
             subst e7'
             have hno : ∀ q, q ≤ mb → ¬ (Value.slice a j c).ownBlock = some q := fun q hq e => by
               have h1 := (HP.out.row.lt q e).1
               have h3 := HMB.out
               omega
             have K7 := Lib.hid (((Kept.refl (fun q => (Value.slice a j c).ownBlock = some q) wr).alloc (.cells #[.int .i64 (numL y.data.toList)] 3)).trans k7 (fun _ _ e => e))
             have hR7 := hR.kept K7.out (hno _ (Nat.le_of_lt HR0.out))
             have hM7 := hM.kept K7.out (hno _ (Nat.le_refl _))
             have m7 := hM7.cell 1
             have f7 := hM7.frozen 1
             simp at m7
             have hM8 := hM7.set_ 1 (.slice a7 (j + 1) c7)
             have hgl := HG.out
             have P8 : Hid (QS s w4 w w.heap.size mb ws g a7 (j + 1) c7 (w7.setCell ⟨mb, 1, none⟩ (.slice a7 (j + 1) c7))) := Lib.hid (by
               have KK : Kept Nil w w7 := HP.out.kept.trans K7.out (fun i hi e => absurd ((HP.out.row.lt i e).1) (by have := HMB.out; have := HR0.out; omega))
               refine ⟨KK.setCell _ (.inr (Nat.le_of_lt HR0.out)) _, hR7.far (by have := HR0.out; show w.heap.size ≠ mb; omega) _, hM8, ?_, ?_, ?_⟩
               · exact hrow7.keptF (Kept.setCell (F := fun q => q = mb) (Kept.refl _ w7) ⟨mb, 1, none⟩ (.inl rfl) _) (fun q hq e => by
                   have h1 := (hrow7.lt q hq).1
                   have h3 := HMB.out
                   omega)
               · intro i z hz
                 have h5 := HP.out.names i z hz
                 have h6 : w7.cell? ⟨g, i, none⟩ = some (.string z) := by
                   rw [K7.out.cell (World.block_lt_of_cell? wr _ h5) (hno _ (Nat.le_of_lt hgl))]; exact h5
                 rw [(Kept.setCell (F := fun q => q = mb) (Kept.refl _ w7) ⟨mb, 1, none⟩ (.inl rfl) (.slice a7 (j + 1) c7)).cell (p := ⟨g, i, none⟩) (World.block_lt_of_cell? w7 _ h6) (fun e => by have e' : g = mb := e; omega)]
                 exact h6
               · intro z hz
                 rw [htk] at hz
                 rcases List.mem_append.1 hz with h | h
                 · exact HP.out.good z h
                 · rw [List.mem_singleton.1 h]; omega)
             have R7 := Lib.hid r7
             obtain ⟨nv, hnv⟩ : ∃ nv, numL y.data.toList = nv := ⟨_, rfl⟩
             rw [hnv] at CNY hn R7
             clear hnv hR hM hR7 hM7 hM8 r7 o7 k7 hrow7 hno hlenr htk hy hyr hgl K7
             go_wp2_with fail
             refine (CNY.out _).mono ?_
             rintro e w5 ⟨rfl, rfl⟩
             go_wp2_with (at_builtin; refine wpList_append_run rfl (.tmp 28) (.tmp 30) 35 rfl _ _ rfl rfl R7.out ?_)
             go_roundw
             case rel => exact ⟨j + 1, a7, c7, hlt, by go_num, P8⟩
             case measure => simp [intOf]; omega)
      · have e : j = n1 := by omega
        subst e
        have CR := Lib.hid (fun W => refRight_any x W (by have := HSZ.out x (by rw [HWS.out]; exact List.mem_cons_self ..); unfold maxLen; omega))
        have HV : Hid (((ws.drop 1).take j).map (fun x => numL x.data.toList) = (r.map fun y => y.data.toList).map numL) := Lib.hid (by
          have hn1 := HN1.out
          rw [HWS.out, hn1]
          show (r.take r.length).map _ = _
          rw [List.take_length, List.map_map]; rfl)
        have HGD : Hid (okName x = true → parseE s = some (x, (r.map fun y => y.data.toList).map numL)) := Lib.hid fun hx => by
          have := parseE_good HWX.out (by rw [rx]; exact hx) (fun y hy => by
            obtain ⟨z, hz, rfl⟩ := List.mem_map.1 hy
            refine HP.out.good z ?_
            have hn1 := HN1.out
            rw [HWS.out, hn1]
            show z ∈ r.take r.length
            rw [List.take_length]; exact hz)
          rw [rx] at this
          exact this
        have HNG : Hid (okName x = false → parseE s = none) := Lib.hid fun hx => parseE_name HWX.out (by rw [rx]; exact hx)
        have HM2 : Hid (∀ W, Kept (fun k => k = w.heap.size) wr W → Mok W ⟨x, (r.map fun y => y.data.toList).map numL, j, a, c⟩) := Lib.hid fun W kW => by
          have hrow := HP.out.row.keptF kW (fun b hb e => by
            have h1 := (HP.out.row.lt b hb).1
            have := HMB.out
            have := HR0.out
            omega)
          rw [HV.out] at hrow
          refine ⟨hrow.toIn cN_len (by decide), hrow.cap, by show j ≤ 1000; omega, ?_⟩
          exact HSZ.out x (by rw [HWS.out]; exact List.mem_cons_self ..)
        have K4 := Lib.hid HP.out.kept
        obtain ⟨ok, hok⟩ : ∃ ok, okName x = ok := ⟨_, rfl⟩
        rw [hok] at CR HGD HNG
        have hmbR : mb ≠ w.heap.size := by have := HR0.out; omega
        have HMR := Lib.hid hmbR
        clear hok hM hmbR
        go_wp2_with fail
        go_region_law (first
          | (go_simp; go_at_call 38; (with_reducible refine (CR.out _).mono ?_); rintro e W2 ⟨rfl, rfl⟩))
        all_goals
          clear m0 m1 m2 r0 r1 r2 r3
          go_wp2_with fail
          have hR9 := (((hR.set_ 0 (.string x)).set_ 1 (.slice a j c)).drew)
          have z0 := hR9.cell 0
          have z1 := hR9.cell 1
          simp at z0 z1
          have KF := Lib.hid ((Kept.setCell (F := fun k => k = w.heap.size) (Kept.setCell (F := fun k => k = w.heap.size) (Kept.refl _ wr) ⟨w.heap.size, 0, none⟩ (.inl rfl) (.string x)) ⟨w.heap.size, 1, none⟩ (.inl rfl) (.slice a j c)).drew)
          refine bodyPost_ret (v := .tuple #[.agg #[.string x, .slice a j c], .bool ok]) (by simp [results, Tryd.results24, go_sem, z0, z1]) (by simp [go_sem]) ⟨?_, ?_⟩
          · exact K4.out.trans KF.out (fun i hi e => by omega)
          · cases ok with
            | true => exact .inr ⟨⟨x, (r.map fun (y : ByteArray) => y.data.toList).map numL, j, a, c⟩, HGD.out rfl, HM2.out _ KF.out, rfl⟩
            | false => exact .inl ⟨HNG.out rfl, _, _, _, _, rfl⟩
end Go.Proofs.YtkffcpjaciomjaaDoor
