/- The document's own tree: Len, Add, Below, Delete, Up, Facts. -/
import Derived.Test.YtbaplplaokbnnaaMRefK
namespace Go.Proofs.Ytbaplplaokbnnaa
open Go.RowKit Go.Maps Go.WideMaps
set_option maxRecDepth 100000

section
variable {w : World} {B q : Nat} {a : Option Addr} {cap : Nat} {L : List TokS}
set_option maxHeartbeats 4000000 in
theorem refLen_any (h : RTx w B q a cap L) (hl : L.length ≤ 1000) :
    Calls Try.prog 35 #[.pointer (some ⟨q, 0, none⟩)] w fun e w' => e = .returned (.int .i64 (liveN L)) ∧ Kept Nil w w' := by
  have HR := Lib.hid h
  have c0 := h.cell
  obtain ⟨n, hn⟩ : ∃ n, L.length = n := ⟨_, rfl⟩
  rw [hn] at c0 hl
  have HL := Lib.hid hn
  clear h hn
  go_enter Try.func35, Try.ntmps35
  go_wp2_with fail
  go_loopw [3, 11] (fun ov i wr => ∃ (j m : Nat), j ≤ n ∧ i = .int .i64 j ∧ ov = .int .i64 m ∧ m = liveN (L.take j) ∧ Kept Nil w wr) (fun _ i _ => n - (intOf i).toNat)
  case atStart => exact ⟨0, 0, Nat.zero_le _, rfl, rfl, by rw [List.take_zero]; rfl, Kept.refl _ _⟩
  case round =>
    obtain ⟨j, m, hj, rfl, rfl, hM, hK⟩ := hrel
    have HM := Lib.hid hM
    have HK := Lib.hid hK
    have hmj : m ≤ j := by rw [hM]; refine Nat.le_trans (ids_length _ _) ?_; rw [List.length_take]; omega
    clear hM hK
    by_cases hlt : j < n
    · obtain ⟨⟨xp, xl, xf, xo⟩, hx⟩ : ∃ x, L[j]? = some x := ⟨_, List.getElem?_eq_getElem (by rw [HL.out]; exact hlt)⟩
      obtain ⟨b, o, rfl, z0, z1, z2, z3⟩ := (HR.out.keptN HK.out).at_ hx
      have kA := (Kept.refl Nil wr).alloc (.cells #[.int .i64 xp, .string xl, .int .i64 xf, .int .i64 (outI xo)] 43)
      have KA := Lib.hid (HK.out.trans kA (fun _ _ e => e))
      have HBA := Lib.hid (Blk.new wr 43 #[.int .i64 xp, .string xl, .int .i64 xf, .int .i64 (outI xo)])
      have HT := Lib.hid (ids_take L (fun _ => true) hx)
      clear hx kA HK
      go_upto_region 5 with fail
      clear z0 z1 z2 z3
      generalize wr.alloc (.cells #[.int .i64 xp, .string xl, .int .i64 xf, .int .i64 (outI xo)] 43) = WA at *
      have y3 := HBA.out.cell 3
      simp at y3
      cases xo
      rotate_left
      · have ho : (outI true == 0) = false := by rfl
        have HE : Hid (liveN (L.take (j + 1)) = m) := Lib.hid (by unfold liveN; rw [HT.out, if_neg (by simp), List.append_nil]; exact HM.out.symm)
        go_wp2_with fail
        go_roundw
        case rel => exact ⟨j + 1, m, by omega, by go_num, rfl, HE.out.symm, KA.out⟩
        case measure => simp [intOf]; omega
      · have ho : (outI false == 0) = true := by rfl
        have HE : Hid (liveN (L.take (j + 1)) = m + 1) := Lib.hid (by unfold liveN; rw [HT.out, if_pos (by simp), List.length_append]; rw [HM.out]; rfl)
        go_wp2_with fail
        go_roundw
        case rel => exact ⟨j + 1, m + 1, by omega, by go_num, by go_num, HE.out.symm, KA.out⟩
        case measure => simp [intOf]; omega
    · obtain rfl : j = n := by omega
      have HTk : Hid (liveN L = m) := Lib.hid (by rw [HM.out, List.take_of_length_le (by rw [HL.out]; exact Nat.le_refl _)])
      go_wp2_with fail
      go_ret
      rw [HTk.out]
      exact ⟨rfl, HK.out⟩
/-- What a call that writes leaves of the document's own tree. -/
def RG (w w' : World) (B q : Nat) (a : Option Addr) (n cap : Nat) (L' : List TokS) : Prop :=
  ∃ a' cap', RTx w' B q a' cap' L' ∧ (∀ b, RF q a' L'.length cap' b → RF q a n cap b ∨ w.heap.size ≤ b) ∧ Kept (RF q a n cap) w w'
set_option maxHeartbeats 4000000 in
theorem refAdd_any (h : RTx w B q a cap L) (hB : B ≤ w.heap.size) (hl : L.length ≤ 1000) (pa : Int) (k : ByteArray) (f : Int) :
    Calls Try.prog 11 #[.pointer (some ⟨q, 0, none⟩), .int .i64 pa, .string k, .int .i64 f] w fun e w' => e = .returned (.int .i64 (if tok L pa = none then 0 else (L.length : Int) + 1)) ∧ RG w w' B q a L.length cap (addL L pa k f) := by
  have HR := Lib.hid h
  have CT := Lib.hid (refThere_any h hl pa)
  by_cases ht : tok L pa = none
  · rw [ht] at CT
    rw [if_pos ht]
    unfold addL
    rw [if_pos ht]
    clear h ht
    go_enter Try.func11, Try.ntmps11
    go_wp2_with fail
    refine CT.out.mono ?_
    rintro e w1 ⟨rfl, rfl⟩
    go_wp2_with fail
    go_ret
    exact ⟨rfl, a, cap, HR.out, fun b e => .inl e, Kept.refl _ _⟩
  · rw [Option.isSome_iff_ne_none.2 ht] at CT
    rw [if_neg ht]
    unfold addL
    rw [if_neg ht]
    have c0 := h.cell
    have f0 := h.here.frozen 0
    have hql := h.here.lt
    obtain ⟨a2, c2, W2, r2, o2, k2, own2⟩ := h.row.push2 elsR cR_len cR_one 44 hB (by omega) (⟨pa, k, f, false⟩ : TokS) #[.int .i64 pa, .string k, .int .i64 f, .int .i64 0] rfl
    have b2 := h.here.kept k2 (fun e => h.ne e rfl)
    have b3 := b2.set_ 0 (.slice a2 (L.length + 1) c2)
    have hne : ∀ b, (Value.slice a2 (L.length + 1) c2).ownBlock = some b → b ≠ q := fun b e => by
      rcases own2 b e with e | e
      · exact h.ne e
      · omega
    have k3 : Kept (fun b => b = q) W2 (W2.setCell ⟨q, 0, none⟩ (.slice a2 (L.length + 1) c2)) := Kept.setCell (F := fun b => b = q) (Kept.refl _ W2) ⟨q, 0, none⟩ (.inl rfl) _
    have HG : Hid (RG w (W2.setCell ⟨q, 0, none⟩ (.slice a2 (L.length + 1) c2)) B q a L.length cap (L ++ [⟨pa, k, f, false⟩])) := Lib.hid ⟨a2, c2, ⟨by simpa using b3, h.low, by
        have := o2.keptF k3 hne
        rw [List.length_append]; exact this⟩, fun b e => by
        rcases e with e | e
        · exact .inl (.inl e)
        · rw [List.length_append] at e
          exact (own2 b e).imp .inr (fun e => e), (k2.mono (fun b _ e => .inr e)).trans k3 (fun b _ e => .inl e)⟩
    have R2 := Lib.hid r2
    have z2 := b2.cell 0
    have f2 := b2.frozen 0
    have y0 := b3.cell 0
    simp at z2 y0
    obtain ⟨n, hn⟩ : ∃ n, L.length = n := ⟨_, rfl⟩
    rw [hn] at R2 HG c0 y0 z2 ⊢
    clear h ht r2 o2 k2 own2 b2 b3 hne k3 hn HR
    go_enter Try.func11, Try.ntmps11
    go_wp2_with fail
    refine CT.out.mono ?_
    rintro e w1 ⟨rfl, rfl⟩
    go_wp2_with (at_builtin; refine wpList_append_run rfl (.tmp 17) (.tmp 22) 44 rfl _ _ rfl rfl R2.out ?_)
    go_ret
    exact ⟨rfl, HG.out⟩
set_option maxHeartbeats 4000000 in
theorem refBelow_any (hwf : WF L) (hl : L.length ≤ 1000) : ∀ id, tok L id ≠ none → ∀ w, RTx w B q a cap L → Calls Try.prog 14 #[.pointer (some ⟨q, 0, none⟩), .int .i64 id] w fun e w' => ∃ a' n' c', e = .returned (.slice a' n' c') ∧ Row cN 3 1 w' w.heap.size (.slice a' n' c') (below L id) ∧ Kept Nil w w' := by
  refine below_ind hwf (fun id ih hid w h => ?_)
  have h1 : 1 ≤ id := by
    cases e : tok L id with
    | none => exact absurd e hid
    | some z => exact (tok_bound e).1
  have HR := Lib.hid h
  have CK := Lib.hid (refKids_any h hl h1)
  have IH : Hid (∀ k, k ∈ kids L id → ∀ w, RTx w B q a cap L → Calls Try.prog 14 #[.pointer (some ⟨q, 0, none⟩), .int .i64 k] w fun e w' => ∃ a' n' c', e = .returned (.slice a' n' c') ∧ Row cN 3 1 w' w.heap.size (.slice a' n' c') (below L k) ∧ Kept Nil w w') := Lib.hid fun k hk => ih k hk (by obtain ⟨_, z, e, _⟩ := mem_kids.1 hk; rw [e]; simp)
  have HB := Lib.hid (below_length hwf hid)
  have HE := Lib.hid (below_eq hwf id)
  have HKl : Hid ((kids L id).length ≤ 1000) := Lib.hid (Nat.le_trans (ids_length _ _) hl)
  generalize kids L id = ks at *
  obtain ⟨n, hn⟩ : ∃ n, ks.length = n := ⟨_, rfl⟩
  rw [hn] at CK HKl
  have HN := Lib.hid hn
  have hn1 : n ≤ 1000 := HKl.out
  have HFl : Hid (∀ j, ((ks.take j).flatMap (below L)).length ≤ 1000) := Lib.hid fun j => by
    have e := congrArg List.length HE.out
    rw [List.length_append] at e
    have e2 := congrArg List.length (show (ks.take j ++ ks.drop j).flatMap (below L) = _ from by rw [List.flatMap_append])
    rw [List.take_append_drop, List.length_append] at e2
    have := HB.out
    omega
  clear h ih hid h1 hn
  go_enter Try.func14, Try.ntmps14
  go_wp2_with fail
  refine CK.out.mono ?_
  rintro e w1 ⟨ak, ck, rfl, rk, k1⟩
  have RK := Lib.hid (rk.toIn cN_len (by decide))
  have HR1 := Lib.hid (HR.out.keptN k1)
  have K1 := Lib.hid k1
  have hsz1 := k1.size
  clear rk k1 CK
  go_wp2_with fail
  go_loopw [5, 12] (fun ov i wr => ∃ (j : Nat) (a1 : Option Addr) (n1 c1 : Nat), j ≤ n ∧ i = .int .i64 j ∧ ov = .slice a1 n1 c1 ∧ Row cN 3 1 wr w1.heap.size (.slice a1 n1 c1) ((ks.take j).flatMap (below L)) ∧ Kept Nil w1 wr) (fun _ i _ => n - (intOf i).toNat)
  case atStart => exact ⟨0, none, 0, 0, Nat.zero_le _, rfl, rfl, by rw [List.take_zero]; exact Row.nil _ _, Kept.refl _ _⟩
  case round =>
    obtain ⟨j, a1, n1, c1, hj, rfl, rfl, hRow, hK⟩ := hrel
    have HRow := Lib.hid hRow
    have HK := Lib.hid hK
    have hsz := hK.size
    clear hRow hK
    by_cases hlt : j < n
    · obtain ⟨x, hx⟩ : ∃ x, ks[j]? = some x := ⟨_, List.getElem?_eq_getElem (by rw [HN.out]; exact hlt)⟩
      obtain ⟨b, o, rfl, _, hc⟩ := (RK.out.kept HK.out).at_ hx
      have z0 := hc 0 _ rfl
      simp only [Nat.mul_one, Nat.add_zero] at z0
      have CB := Lib.hid (IH.out x (List.mem_of_getElem? hx) wr (HR1.out.keptN HK.out))
      have HE2 : Hid ((ks.take (j + 1)).flatMap (below L) = (ks.take j).flatMap (below L) ++ below L x) := Lib.hid (by rw [List.take_add_one, hx, List.flatMap_append]; simp)
      have hxl : (below L x).length ≤ 1000 := by
        have e := HFl.out (j + 1)
        rw [HE2.out, List.length_append] at e
        omega
      have hcl := HFl.out j
      have HXl := Lib.hid (And.intro hxl hcl)
      clear hx hc hxl hcl
      go_wp2_with fail
      refine CB.out.mono ?_
      rintro e w2 ⟨a2, n2, c2, rfl, r2, k2⟩
      have HRow2 := Lib.hid (HRow.out.keptN k2)
      have K2 := Lib.hid (HK.out.trans k2 (fun _ _ e => e))
      obtain ⟨a3, c3, W3, r3, o3, k3, _⟩ := HRow2.out.pushAll2 elsI1 cN_len cN_one (by decide) 38 K2.out.size (by have := HXl.out.2; omega) (r2.toIn cN_len (by decide)) (c2 := c2) (by have := HXl.out.1; omega)
      have R3 := Lib.hid r3
      have O3 := Lib.hid o3
      have K3 := Lib.hid (K2.out.trans k3 (fun b hb e => by have := (HRow2.out.lt b e).1; omega))
      clear r2 k2 r3 o3 k3 CB
      go_wp2_with (at_builtin; refine wpList_append_run rfl (.tmp 16) (.tmp 19) 38 rfl _ _ rfl rfl R3.out ?_)
      go_roundw
      case rel => exact ⟨j + 1, a3, n1 + n2, c3, by omega, by go_num, rfl, by rw [HE2.out]; exact O3.out, K3.out⟩
      case measure => simp [intOf]; omega
    · obtain rfl : j = n := by omega
      have HE3 : Hid (below L id = (ks.take j).flatMap (below L) ++ [id]) := Lib.hid (by rw [HE.out, List.take_of_length_le (by rw [HN.out]; exact Nat.le_refl _)])
      obtain ⟨a3, c3, W3, r3, o3, k3, _⟩ := HRow.out.push2 elsI1 cN_len cN_one 38 hsz (by have := HFl.out j; omega) id #[.int .i64 id] rfl
      have R3 := Lib.hid r3
      have O3 := Lib.hid o3
      have K3 := Lib.hid (HK.out.trans k3 (fun b hb e => by have := (HRow.out.lt b e).1; omega))
      clear r3 o3 k3
      go_wp2_with (at_builtin; refine wpList_append_run rfl (.tmp 22) (.tmp 24) 38 rfl _ _ rfl rfl R3.out ?_)
      go_ret
      exact ⟨a3, n1 + 1, c3, rfl, by rw [HE3.out]; exact O3.out.down hsz1, K1.out.trans K3.out (fun _ _ e => e)⟩
end
end Go.Proofs.Ytbaplplaokbnnaa
