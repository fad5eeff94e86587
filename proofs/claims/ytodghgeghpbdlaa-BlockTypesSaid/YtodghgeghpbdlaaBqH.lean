/- Blocks (block.Blocks[retiary/api.Triple,string]): Block, Free. -/
import Derived.Test.YtodghgeghpbdlaaBqG
namespace Go.Proofs.Ytodghgeghpbdlaa
open Go.RowKit Go.Maps Go.WideMaps
set_option maxRecDepth 100000

/-- What a call on Blocks that may write leaves. -/
def GBQ (w w' : World) (B pb : Nat) (R : List (Int × Int × Int)) (Ps : List ((Int × Int × Int) × ByteArray)) (n : Nat) : Prop := BTQ w' B pb R Ps n ∧ Kept (FBQ w B) w w'
section
variable {w w' : World} {B pb n : Nat} {R : List (Int × Int × Int)} {Ps : List ((Int × Int × Int) × ByteArray)} {s : SQ}
theorem GBQ.ofN (h : BSQ w B pb R Ps n s) (k : Kept Nil w w') {n' : Nat} (hn : n ≤ n') : GBQ w w' B pb R Ps n' := ⟨⟨s, (h.keptN k).more hn⟩, k.mono (fun _ _ e => e.elim)⟩
set_option maxHeartbeats 1000000 in
theorem block_gone_q (h : BSQ w B pb R Ps n s) {k : (Int × Int × Int)} (hok : K3.ok k) (hk : k ∉ R) {v : ByteArray} (hv : KS.ok v) :
    Calls Try.prog 47 #[.pointer (some ⟨pb, 0, none⟩), .agg #[.int .i64 k.1, .int .i64 k.2.1, .int .i64 k.2.2], .string v] w fun e w' => e = .returned (.tuple #[.bool false, .bool false]) ∧ Kept Nil w w' := by
  have HH := Lib.hid h
  have HX := Lib.hid hk
  have HO := Lib.hid hok
  have HV := Lib.hid hv
  have hnil := fun W : World => run_eql_map_nil (P := Try.prog) W _ _ _ none Try.underlying151
  clear h hk hok hv
  go_enter Try.func47, Try.ntmps47
  go_upto_region 1 with fail
  have HK := Lib.hid ((Kept.refl Nil w).alloc (.cells #[.int .i64 k.1, .int .i64 k.2.1, .int .i64 k.2.2] 38))
  have BK := Lib.hid (Blk.new w 38 #[.int .i64 k.1, .int .i64 k.2.1, .int .i64 k.2.2])
  have H0 := Lib.hid (HH.out.keptN HK.out)
  generalize w.alloc (.cells #[.int .i64 k.1, .int .i64 k.2.1, .int .i64 k.2.2] 38) = w0 at *
  generalize w.heap.size = b3 at *
  have q0 := BK.out.cell 0
  have q1 := BK.out.cell 1
  have q2 := BK.out.cell 2
  go_wp2_with fail
  refine (blockers_out_q H0.out HO.out HX.out).mono ?_
  rintro e w1 ⟨rfl, k1⟩
  go_wp2_with fail
  refine (has_nil_q HV.out).mono ?_
  rintro e w2 ⟨rfl, rfl⟩
  go_wp2_with fail
  go_ret2
  exact ⟨rfl, HK.out.trans k1 (fun _ _ e => e)⟩
set_option maxHeartbeats 1000000 in
theorem block_had_q (h : BSQ w B pb R Ps n s) (hn : n ≤ 5000) {k : (Int × Int × Int)} (hk : k ∈ R) {v : ByteArray} (hv : (k, v) ∈ Ps) :
    Calls Try.prog 47 #[.pointer (some ⟨pb, 0, none⟩), .agg #[.int .i64 k.1, .int .i64 k.2.1, .int .i64 k.2.2], .string v] w fun e w' => e = .returned (.tuple #[.bool false, .bool false]) ∧ Kept Nil w w' := by
  have HH := Lib.hid h
  have HX := Lib.hid hk
  have HV := Lib.hid hv
  have hnil := fun W : World => run_eql_map_nil (P := Try.prog) W _ _ _ (some (s.Mb k)) Try.underlying151
  clear h hk hv
  go_enter Try.func47, Try.ntmps47
  go_upto_region 1 with fail
  have HK := Lib.hid ((Kept.refl Nil w).alloc (.cells #[.int .i64 k.1, .int .i64 k.2.1, .int .i64 k.2.2] 38))
  have BK := Lib.hid (Blk.new w 38 #[.int .i64 k.1, .int .i64 k.2.1, .int .i64 k.2.2])
  have H0 := Lib.hid (HH.out.keptN HK.out)
  generalize w.alloc (.cells #[.int .i64 k.1, .int .i64 k.2.1, .int .i64 k.2.2] 38) = w0 at *
  generalize w.heap.size = b3 at *
  have q0 := BK.out.cell 0
  have q1 := BK.out.cell 1
  have q2 := BK.out.cell 2
  go_wp2_with fail
  refine (blockers_in_q H0.out hn HX.out).mono ?_
  rintro e w1 ⟨rfl, k1⟩
  go_wp2_with fail
  refine ((H0.out.keptN k1).has_in HX.out HV.out).mono ?_
  rintro e w2 ⟨rfl, rfl⟩
  go_wp2_with fail
  go_ret2
  exact ⟨rfl, HK.out.trans k1 (fun _ _ e => e)⟩
theorem BSQ.pairMore (h : BSQ w B pb R Ps n s) {k : (Int × Int × Int)} (hk : k ∈ R) {v : ByteArray} (hv : (k, v) ∉ Ps) {w2 : World} (hm : MapF KS (.bool false) w2 (s.Mb k) (bls Ps k ++ [v]) (fun _ => .bool true)) (hg : w.grownBy w2 (some (s.Mb k))) :
    BSQ (w2.setCell ⟨pb, 2, none⟩ (.int .i64 ((Ps.length : Int) + 1))) B pb R (Ps ++ [(k, v)]) (n + 1) s ∧ Kept (FBQ w B) w (w2.setCell ⟨pb, 2, none⟩ (.int .i64 ((Ps.length : Int) + 1))) := by
  have hl := h.lp
  refine h.turn hk (fun k' _ e => ?_) ?_ (fun x hx => ?_) (by simp; omega) (by omega) ?_ hg (by simp)
  · rw [bls_snoc, if_neg (fun e' => e e'.symm)]
  · rw [List.nodup_append]
    exact ⟨h.ndP, by simp, fun a ha b hb e => hv (by rw [← List.mem_singleton.1 hb, ← e]; exact ha)⟩
  · rcases List.mem_append.1 hx with hx | hx
    · exact h.sub x hx
    · rw [List.mem_singleton.1 hx]; exact hk
  · rw [bls_snoc, if_pos rfl]; exact hm
set_option maxHeartbeats 1000000 in
theorem block_new_q (h : BSQ w B pb R Ps n s) (hn : n ≤ 5000) {k : (Int × Int × Int)} (hk : k ∈ R) {v : ByteArray} (ho : KS.ok v) (hv : (k, v) ∉ Ps) :
    Calls Try.prog 47 #[.pointer (some ⟨pb, 0, none⟩), .agg #[.int .i64 k.1, .int .i64 k.2.1, .int .i64 k.2.2], .string v] w fun e w' => e = .returned (.tuple #[.bool (decide ((bls Ps k).length = 0)), .bool true]) ∧ GBQ w w' B pb R (Ps ++ [(k, v)]) (n + 1) := by
  have HH := Lib.hid h
  have HX := Lib.hid hk
  have HO := Lib.hid ho
  have HV := Lib.hid hv
  have hnil := fun W : World => run_eql_map_nil (P := Try.prog) W _ _ _ (some (s.Mb k)) Try.underlying151
  clear h hk ho hv
  go_enter Try.func47, Try.ntmps47
  go_upto_region 1 with fail
  have HK := Lib.hid ((Kept.refl Nil w).alloc (.cells #[.int .i64 k.1, .int .i64 k.2.1, .int .i64 k.2.2] 38))
  have BK := Lib.hid (Blk.new w 38 #[.int .i64 k.1, .int .i64 k.2.1, .int .i64 k.2.2])
  have H0 := Lib.hid (HH.out.keptN HK.out)
  generalize w.alloc (.cells #[.int .i64 k.1, .int .i64 k.2.1, .int .i64 k.2.2] 38) = w0 at *
  generalize w.heap.size = b3 at *
  have q0 := BK.out.cell 0
  have q1 := BK.out.cell 1
  have q2 := BK.out.cell 2
  go_wp2_with fail
  refine (blockers_in_q H0.out hn HX.out).mono ?_
  rintro e w1 ⟨rfl, k1⟩
  have H1 := Lib.hid (H0.out.keptN k1)
  have K1 := Lib.hid (HK.out.trans k1 (fun _ _ e => e))
  clear k1
  go_wp2_with fail
  refine (H1.out.has_out HX.out HO.out HV.out).mono ?_
  rintro e w1' ⟨rfl, rfl⟩
  obtain ⟨w2, hrun, hm2, hg2⟩ := (H1.out.bl k HX.out).2.add (tM := 151) (f' := fun _ => .bool true) (val := .bool true) Try.underlying151 (by have := bls_le Ps k; have := H1.out.lp; omega) HO.out (fun hm => HV.out (mem_bls.1 hm)) (fun _ _ => rfl) rfl
  have HT := Lib.hid (H1.out.pairMore HX.out HV.out hm2 hg2)
  change (Instr.mapUpdate 151 (.map (some (s.Mb k))) (.string v) (.bool true)).run Try.prog _ = _ at hrun
  have hlp := H1.out.lp
  have hp2 : Blk w2 pb _ _ := H1.out.here.kept ((Kept.refl (fun b => b = s.Mb k) _).grown hg2 (fun j e => .inl (by cases e; rfl))) (H1.out.pb_ne.2 k HX.out)
  have c2 := hp2.cell 2
  have f2 := hp2.frozen 2
  simp only [List.getElem?_toArray, List.getElem?_cons_zero, List.getElem?_cons_succ] at c2
  have hlen := fun ty => len_map_q HT.out.1 HX.out ty
  rw [bls_snoc, if_pos rfl, List.length_append] at hlen
  obtain ⟨L, hL⟩ : ∃ L, (bls Ps k).length = L := ⟨_, rfl⟩
  simp only [hL, List.length_cons, List.length_nil, Nat.zero_add] at hlen
  obtain ⟨L1, hL1⟩ : ∃ L1, L + 1 = L1 := ⟨_, rfl⟩
  simp only [hL1] at hlen
  have hd : ((L1 : Int) == 1) = decide (L = 0) := by
    by_cases e : L = 0
    · subst e; subst hL1; rfl
    · rw [decide_eq_false e]; simp; omega
  have HL := Lib.hid hL
  clear hL hL1 hm2 hg2 hp2
  go_wp2_with fail
  go_ret2
  exact ⟨by rw [HL.out]; rfl, ⟨s, HT.out.1⟩, FBQ.after K1.out HT.out.2⟩
end
end Go.Proofs.Ytodghgeghpbdlaa
