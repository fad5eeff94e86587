/- Blocks (block.Blocks[string,int]): Block, Free. -/
import Derived.Test.YtodghgeghpbdlaaBpG
namespace Go.Proofs.Ytodghgeghpbdlaa
open Go.RowKit Go.Maps Go.WideMaps
set_option maxRecDepth 100000

/-- What a call on Blocks that may write leaves. -/
def GBP (w w' : World) (B pb : Nat) (R : List ByteArray) (Ps : List (ByteArray × Int)) (n : Nat) : Prop := BTP w' B pb R Ps n ∧ Kept (FBP w B) w w'
section
variable {w w' : World} {B pb n : Nat} {R : List ByteArray} {Ps : List (ByteArray × Int)} {s : SP}
theorem GBP.ofN (h : BSP w B pb R Ps n s) (k : Kept Nil w w') {n' : Nat} (hn : n ≤ n') : GBP w w' B pb R Ps n' := ⟨⟨s, (h.keptN k).more hn⟩, k.mono (fun _ _ e => e.elim)⟩
set_option maxHeartbeats 1000000 in
theorem block_gone_p (h : BSP w B pb R Ps n s) {k : ByteArray} (hok : KS.ok k) (hk : k ∉ R) {v : Int} (hv : KI.ok v) :
    Calls Try.prog 33 #[.pointer (some ⟨pb, 0, none⟩), .string k, .int .i64 v] w fun e w' => e = .returned (.tuple #[.bool false, .bool false]) ∧ Kept Nil w w' := by
  have HH := Lib.hid h
  have HX := Lib.hid hk
  have HO := Lib.hid hok
  have HV := Lib.hid hv
  have hnil := fun W : World => run_eql_map_nil (P := Try.prog) W _ _ _ none Try.underlying134
  clear h hk hok hv
  have HK := Lib.hid (Kept.refl Nil w)
  have H0 := HH
  go_enter Try.func33, Try.ntmps33
  go_wp2_with fail
  refine (blockers_out_p H0.out HO.out HX.out).mono ?_
  rintro e w1 ⟨rfl, k1⟩
  go_wp2_with fail
  refine (has_nil_p HV.out).mono ?_
  rintro e w2 ⟨rfl, rfl⟩
  go_wp2_with fail
  go_ret2
  exact ⟨rfl, HK.out.trans k1 (fun _ _ e => e)⟩
set_option maxHeartbeats 1000000 in
theorem block_had_p (h : BSP w B pb R Ps n s) (hn : n ≤ 5000) {k : ByteArray} (hk : k ∈ R) {v : Int} (hv : (k, v) ∈ Ps) :
    Calls Try.prog 33 #[.pointer (some ⟨pb, 0, none⟩), .string k, .int .i64 v] w fun e w' => e = .returned (.tuple #[.bool false, .bool false]) ∧ Kept Nil w w' := by
  have HH := Lib.hid h
  have HX := Lib.hid hk
  have HV := Lib.hid hv
  have hnil := fun W : World => run_eql_map_nil (P := Try.prog) W _ _ _ (some (s.Mb k)) Try.underlying134
  clear h hk hv
  have HK := Lib.hid (Kept.refl Nil w)
  have H0 := HH
  go_enter Try.func33, Try.ntmps33
  go_wp2_with fail
  refine (blockers_in_p H0.out hn HX.out).mono ?_
  rintro e w1 ⟨rfl, k1⟩
  go_wp2_with fail
  refine ((H0.out.keptN k1).has_in HX.out HV.out).mono ?_
  rintro e w2 ⟨rfl, rfl⟩
  go_wp2_with fail
  go_ret2
  exact ⟨rfl, HK.out.trans k1 (fun _ _ e => e)⟩
theorem BSP.pairMore (h : BSP w B pb R Ps n s) {k : ByteArray} (hk : k ∈ R) {v : Int} (hv : (k, v) ∉ Ps) {w2 : World} (hm : MapF KI (.bool false) w2 (s.Mb k) (bls Ps k ++ [v]) (fun _ => .bool true)) (hg : w.grownBy w2 (some (s.Mb k))) :
    BSP (w2.setCell ⟨pb, 2, none⟩ (.int .i64 ((Ps.length : Int) + 1))) B pb R (Ps ++ [(k, v)]) (n + 1) s ∧ Kept (FBP w B) w (w2.setCell ⟨pb, 2, none⟩ (.int .i64 ((Ps.length : Int) + 1))) := by
  have hl := h.lp
  refine h.turn hk (fun k' _ e => ?_) ?_ (fun x hx => ?_) (by simp; omega) (by omega) ?_ hg (by simp)
  · rw [bls_snoc, if_neg (fun e' => e e'.symm)]
  · rw [List.nodup_append]
    exact ⟨h.ndP, by simp, fun a ha b hb e => hv (by rw [← List.mem_singleton.1 hb, ← e]; exact ha)⟩
  · rcases List.mem_append.1 hx with hx | hx
    · exact h.sub x hx
    · rw [List.mem_singleton.1 hx]; exact hk
  · rw [bls_snoc, if_pos rfl]; exact hm
set_option maxHeartbeats 1000000 in
theorem block_new_p (h : BSP w B pb R Ps n s) (hn : n ≤ 5000) {k : ByteArray} (hk : k ∈ R) {v : Int} (ho : KI.ok v) (hv : (k, v) ∉ Ps) :
    Calls Try.prog 33 #[.pointer (some ⟨pb, 0, none⟩), .string k, .int .i64 v] w fun e w' => e = .returned (.tuple #[.bool (decide ((bls Ps k).length = 0)), .bool true]) ∧ GBP w w' B pb R (Ps ++ [(k, v)]) (n + 1) := by
  have HH := Lib.hid h
  have HX := Lib.hid hk
  have HO := Lib.hid ho
  have HV := Lib.hid hv
  have hnil := fun W : World => run_eql_map_nil (P := Try.prog) W _ _ _ (some (s.Mb k)) Try.underlying134
  clear h hk ho hv
  have HK := Lib.hid (Kept.refl Nil w)
  have H0 := HH
  go_enter Try.func33, Try.ntmps33
  go_wp2_with fail
  refine (blockers_in_p H0.out hn HX.out).mono ?_
  rintro e w1 ⟨rfl, k1⟩
  have H1 := Lib.hid (H0.out.keptN k1)
  have K1 := Lib.hid (HK.out.trans k1 (fun _ _ e => e))
  clear k1
  go_wp2_with fail
  refine (H1.out.has_out HX.out HO.out HV.out).mono ?_
  rintro e w1' ⟨rfl, rfl⟩
  obtain ⟨w2, hrun, hm2, hg2⟩ := (H1.out.bl k HX.out).2.add (tM := 134) (f' := fun _ => .bool true) (val := .bool true) Try.underlying134 (by have := bls_le Ps k; have := H1.out.lp; omega) HO.out (fun hm => HV.out (mem_bls.1 hm)) (fun _ _ => rfl) rfl
  have HT := Lib.hid (H1.out.pairMore HX.out HV.out hm2 hg2)
  change (Instr.mapUpdate 134 (.map (some (s.Mb k))) (.int .i64 v) (.bool true)).run Try.prog _ = _ at hrun
  have hlp := H1.out.lp
  have hp2 : Blk w2 pb _ _ := H1.out.here.kept ((Kept.refl (fun b => b = s.Mb k) _).grown hg2 (fun j e => .inl (by cases e; rfl))) (H1.out.pb_ne.2 k HX.out)
  have c2 := hp2.cell 2
  have f2 := hp2.frozen 2
  simp only [List.getElem?_toArray, List.getElem?_cons_zero, List.getElem?_cons_succ] at c2
  have hlen := fun ty => len_map_p HT.out.1 HX.out ty
  rw [bls_snoc, if_pos rfl, List.length_append] at hlen
  obtain ⟨L, hL⟩ : ∃ L, (bls Ps k).length = L := ⟨_, rfl⟩
  simp only [hL, List.length_cons, List.length_nil, Nat.zero_add] at hlen
  obtain ⟨L1, hL1⟩ : ∃ L1, L + 1 = L1 := ⟨_, rfl⟩
  simp only [hL1] at hlen
  have hd : ((L1 : Int) == 1) = decide (L = 0) := by
    by_cases e : L = 0
    · subst e; subst hL1; rfl
    · rw [decide_eq_false e]; simp; omega
  have HL := Lib.hid hL
  clear hL hL1 hm2 hg2 hp2
  go_wp2_with fail
  go_ret2
  exact ⟨by rw [HL.out]; rfl, ⟨s, HT.out.1⟩, FBP.after K1.out HT.out.2⟩
set_option maxHeartbeats 1000000 in
theorem free_gone_p (h : BSP w B pb R Ps n s) {k : ByteArray} (hok : KS.ok k) (hk : k ∉ R) {v : Int} (hv : KI.ok v) :
    Calls Try.prog 35 #[.pointer (some ⟨pb, 0, none⟩), .string k, .int .i64 v] w fun e w' => e = .returned (.tuple #[.bool false, .bool false]) ∧ Kept Nil w w' := by
  have HH := Lib.hid h
  have HX := Lib.hid hk
  have HO := Lib.hid hok
  have HV := Lib.hid hv
  clear h hk hok hv
  go_enter Try.func35, Try.ntmps35
  go_wp2_with fail
  refine (blockers_out_p HH.out HO.out HX.out).mono ?_
  rintro e w1 ⟨rfl, k1⟩
  go_wp2_with fail
  refine (has_nil_p HV.out).mono ?_
  rintro e w2 ⟨rfl, rfl⟩
  go_wp2_with fail
  go_ret2
  exact ⟨rfl, k1⟩
set_option maxHeartbeats 1000000 in
theorem free_not_p (h : BSP w B pb R Ps n s) (hn : n ≤ 5000) {k : ByteArray} (hk : k ∈ R) {v : Int} (ho : KI.ok v) (hv : (k, v) ∉ Ps) :
    Calls Try.prog 35 #[.pointer (some ⟨pb, 0, none⟩), .string k, .int .i64 v] w fun e w' => e = .returned (.tuple #[.bool false, .bool false]) ∧ Kept Nil w w' := by
  have HH := Lib.hid h
  have HX := Lib.hid hk
  have HO := Lib.hid ho
  have HV := Lib.hid hv
  clear h hk ho hv
  go_enter Try.func35, Try.ntmps35
  go_wp2_with fail
  refine (blockers_in_p HH.out hn HX.out).mono ?_
  rintro e w1 ⟨rfl, k1⟩
  go_wp2_with fail
  refine ((HH.out.keptN k1).has_out HX.out HO.out HV.out).mono ?_
  rintro e w2 ⟨rfl, rfl⟩
  go_wp2_with fail
  go_ret2
  exact ⟨rfl, k1⟩
theorem BSP.pairLess (h : BSP w B pb R Ps n s) {k : ByteArray} {v : Int} (hv : (k, v) ∈ Ps) {w2 : World} (hm : MapF KI (.bool false) w2 (s.Mb k) (wo v (bls Ps k)) (fun _ => .bool true)) (hg : w.grownBy w2 (some (s.Mb k))) :
    BSP (w2.setCell ⟨pb, 2, none⟩ (.int .i64 ((Ps.length : Int) - 1))) B pb R (wo (k, v) Ps) n s ∧ Kept (FBP w B) w (w2.setCell ⟨pb, 2, none⟩ (.int .i64 ((Ps.length : Int) - 1))) := by
  have hl := h.lp
  have hw := wo_length h.ndP hv
  refine h.turn (h.sub _ hv) (fun k' _ e => ?_) (wo_nodup h.ndP) (fun x hx => h.sub x (mem_wo.1 hx).1) (by omega) (Nat.le_refl _) ?_ hg (by omega)
  · rw [bls_wo, if_neg (fun e' => e e'.symm)]
  · rw [bls_wo, if_pos rfl]; exact hm
set_option maxHeartbeats 1000000 in
theorem free_had_p (h : BSP w B pb R Ps n s) (hn : n ≤ 5000) {k : ByteArray} {v : Int} (ho : KI.ok v) (hv : (k, v) ∈ Ps) :
    Calls Try.prog 35 #[.pointer (some ⟨pb, 0, none⟩), .string k, .int .i64 v] w fun e w' => e = .returned (.tuple #[.bool (decide ((bls Ps k).length = 1)), .bool true]) ∧ GBP w w' B pb R (wo (k, v) Ps) n := by
  have HH := Lib.hid h
  have HX := Lib.hid (h.sub _ hv)
  have HO := Lib.hid ho
  have HV := Lib.hid hv
  clear h ho hv
  go_enter Try.func35, Try.ntmps35
  go_wp2_with fail
  refine (blockers_in_p HH.out hn HX.out).mono ?_
  rintro e w1 ⟨rfl, k1⟩
  have H1 := Lib.hid (HH.out.keptN k1)
  have K1 := Lib.hid k1
  clear k1
  go_wp2_with fail
  refine (H1.out.has_in HX.out HV.out).mono ?_
  rintro e w1' ⟨rfl, rfl⟩
  obtain ⟨w2, hrun, hm2, hg2⟩ := (H1.out.bl k HX.out).2.del (tM := 134) (k := v) Try.underlying134 HO.out 0
  have HT := Lib.hid (H1.out.pairLess HV.out hm2 hg2)
  have hlp := H1.out.lp
  have hl0 := wo_length H1.out.ndP HV.out
  have hp2 : Blk w2 pb _ _ := H1.out.here.kept ((Kept.refl (fun b => b = s.Mb k) _).grown hg2 (fun j e => .inl (by cases e; rfl))) (H1.out.pb_ne.2 k HX.out)
  have c2 := hp2.cell 2
  have f2 := hp2.frozen 2
  simp only [List.getElem?_toArray, List.getElem?_cons_zero, List.getElem?_cons_succ] at c2
  have hlen := fun ty => len_map_p HT.out.1 HX.out ty
  have hwl := wo_length (bls_nodup H1.out.ndP k) (mem_bls.2 HV.out)
  rw [bls_wo, if_pos rfl] at hlen
  obtain ⟨L, hL⟩ : ∃ L, (bls Ps k).length = L := ⟨_, rfl⟩
  obtain ⟨L1, hL1⟩ : ∃ L1, (wo v (bls Ps k)).length = L1 := ⟨_, rfl⟩
  simp only [hL, hL1] at hlen hwl
  have hd : ((L1 : Int) == 0) = decide (L = 1) := by
    by_cases e : L = 1
    · subst e
      obtain rfl : L1 = 0 := by omega
      rfl
    · rw [decide_eq_false e]; simp; omega
  change (Builtin.delete_ #[134, 3] 0 #[.map (some (s.Mb k)), .int .i64 v]).run Try.prog _ = _ at hrun
  have hl1 : 1 ≤ Ps.length := by omega
  have HL := Lib.hid hL
  clear hL hL1 hm2 hg2 hp2 hwl hl0
  go_wp2_with fail
  go_ret2
  exact ⟨by rw [HL.out]; rfl, ⟨s, HT.out.1⟩, FBP.after K1.out HT.out.2⟩
end
end Go.Proofs.Ytodghgeghpbdlaa
