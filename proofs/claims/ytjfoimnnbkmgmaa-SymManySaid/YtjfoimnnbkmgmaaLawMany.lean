/- Whatever the name, SymMany returns true, and writes nothing that was there. No condition. -/
import Derived.Test.YtjfoimnnbkmgmaaLawOrder
import Derived.Laws.BytesString
import Derived.Laws.IdiomStrings
namespace Go.Proofs.Ytjfoimnnbkmgmaa
open Go.RowKit Go.ChangeShapes Go.WideShapes Go.ChangeAt
open Go.ChangeMaps (open_string shut_string)

def nmL (j : Nat) : List UInt8 := [UInt8.ofNat (97 + j / 256), UInt8.ofNat (97 + j / 16 % 16), UInt8.ofNat (97 + j % 16)]
/-- The law's j-th name. -/
def nm (j : Nat) : ByteArray := ⟨(nmL j).toArray⟩
def nms (j : Nat) : List ByteArray := (List.range j).map nm
theorem nm_inj {i j : Nat} (hi : i < 4096) (hj : j < 4096) (h : nm i = nm j) : i = j := by
  have h1 : nmL i = nmL j := by
    have h2 : (nm i).data = (nm j).data := by rw [h]
    have h3 : (nmL i).toArray = (nmL j).toArray := h2
    simpa using h3
  unfold nmL at h1
  simp only [List.cons.injEq, ← UInt8.toNat_inj, UInt8.toNat_ofNat'] at h1
  omega
theorem nm_ok {j : Nat} (hj : j < 4096) : okName (nm j) = true := by
  have e : okBytes (nmL j) = true := by
    unfold okBytes nmL okSign
    simp only [List.all_cons, List.all_nil, UInt8.toNat_ofNat', Bool.and_true, Bool.and_eq_true, decide_eq_true_eq]
    omega
  unfold okName
  have e2 : (nm j).data.toList = nmL j := by unfold nm; simp
  have e3 : (nm j).size = 3 := rfl
  rw [e2, e, e3]; rfl
theorem nms_fresh {j : Nat} (hj : j < 4096) : pos (nms j) (nm j) = 0 := by
  refine pos_zero.2 (fun h => ?_)
  obtain ⟨i, hi, he⟩ := List.mem_map.1 h
  have hi' := List.mem_range.1 hi
  have := nm_inj (by omega) hj he
  omega
theorem nms_succ (j : Nat) : nms (j + 1) = nms j ++ [nm j] := by simp [nms, List.range_succ]
theorem nms_len (j : Nat) : (nms j).length = j := by simp [nms]
theorem conv_nm (w : World) (j : Nat) (hj : j < 4096) :
    (convert 40 9 (.slice (some ⟨w.heap.size, 0, none⟩) 3 3)).run Try.prog (w.alloc (.cells #[.int .u8 (97 + (j : Int) / 256), .int .u8 (97 + (j : Int) / 16 % 16), .int .u8 (97 + (j : Int) % 16)] 5)) =
      .ok (.string (nm j)) (w.alloc (.cells #[.int .u8 (97 + (j : Int) / 256), .int .u8 (97 + (j : Int) / 16 % 16), .int .u8 (97 + (j : Int) % 16)] 5)) := by
  refine run_convert_bytes_back (P := Try.prog) _ 40 9 5 ⟨w.heap.size, 0, none⟩ 3 (nmL j) Try.underlying40 Try.underlying5 Try.underlying9 ?_
  intro i hi
  have ea : (⟨w.heap.size, 0, none⟩ : Addr).add i = ⟨w.heap.size, i, none⟩ := by unfold Addr.add; split <;> simp_all
  rw [ea, World.cell?_alloc_mark]
  have hi3 : i < 3 := hi
  match i, hi3 with
  | 0, _ => simp [nmL]; omega
  | 1, _ => simp [nmL]; omega
  | 2, _ => simp [nmL]; omega

set_option maxRecDepth 100000 in
set_option maxHeartbeats 4000000 in
theorem symMany_any (s : ByteArray) (w : World) (hs : s.size ≤ maxLen) :
    Calls Try.prog 6 #[.string s] w fun e w' => e = .returned (.bool true) ∧ Kept Nil w w' := by
  have hs' := hs
  unfold maxLen at hs'
  by_cases hbig : 60 < s.size
  · go_enter Try.func6, Try.ntmps6
    go_wp2_with fail
    refine (new_any _).mono ?_
    rintro e w1 ⟨rfl, t1, k1⟩
    go_wp2_with fail
    refine (awake_any _).mono ?_
    rintro e w2 ⟨rfl, k2⟩
    go_wp2_with fail
    go_ret
    exact ⟨rfl, k1.trans k2 (fun _ _ g => g)⟩
  · have hd : decide (60 < (s.size : Int)) = false := decide_eq_false (by omega)
    go_enter Try.func6, Try.ntmps6
    go_wp2_with fail
    refine (new_any _).mono ?_
    rintro e w1 ⟨rfl, t1, k1⟩
    have A1 := Lib.hid (At.start t1 k1)
    clear t1 k1
    go_wp2_with fail
    go_loopw [25] (fun i wr => ∃ j : Nat, j ≤ 4096 ∧ i = .int .i64 j ∧ At w wr (nms j)) (fun i _ => 4096 - (intOf i).toNat)
    case atStart => exact ⟨0, Nat.zero_le _, rfl, A1.out⟩
    case round =>
      obtain ⟨j, hj, rfl, hA⟩ := hrel
      obtain ⟨m, sv, hT⟩ := hA.tab
      by_cases hlt : j < 4096
      · have hcv := conv_nm wr j hlt
        have HN := Lib.hid (nms_len j)
        generalize hnm : nm j = x at hcv
        have HX := Lib.hid hnm
        clear hnm
        go_wp2_with fail
        have k2 : Kept Nil wr (wr.alloc (.cells #[.int .u8 (97 + (j : Int) / 256), .int .u8 (97 + (j : Int) / 16 % 16), .int .u8 (97 + (j : Int) % 16)] 5)) := (Kept.refl _ _).alloc _
        have hA2 := hA.step k2
        have hT2 := hT.kept k2 (fun _ _ g => g)
        refine (intern_new hT2 x (by rw [← HX.out]; exact (by decide : 3 ≤ 32)) (by rw [← HX.out]; exact nm_ok hlt) (by rw [← HX.out]; exact nms_fresh hlt) (by rw [HN.out]; exact hlt)).mono ?_
        rintro e w3 ⟨rfl, g3⟩
        have hA3 := hA2.grew hT2 g3
        rw [HN.out]
        clear g3
        go_wp2_with fail
        go_roundw
        case rel => exact ⟨j + 1, hlt, by go_num, by rw [nms_succ, HX.out]; exact hA3⟩
        case measure => simp [intOf]; omega
      · obtain rfl : j = 4096 := by omega
        clear hlt hj
        have HL : Hid ((nms 4096).length = 4096) := nms_len 4096
        generalize nms 4096 = l at hA hT HL
        cases hok : okName s
        · have HO := Lib.hid hok
          clear hok
          go_wp2_with fail
          refine (intern_bad hT s hs HO.out).mono ?_
          rintro e w2 ⟨rfl, k2⟩
          go_wp2_with fail
          refine (find_any (hT.kept k2 (fun _ _ g => g)) s hs).mono ?_
          rintro e w3 ⟨rfl, rfl⟩
          go_wp2_with fail
          refine (refRight_any s _ hs).mono ?_
          rintro e w3 ⟨rfl, rfl⟩
          rw [HO.out]
          go_wp2_with fail
          refine (awake_any _).mono ?_
          rintro e w3 ⟨rfl, k3⟩
          go_wp2_with fail
          go_ret
          exact ⟨rfl, (hA.kept.trans k2 (fun _ _ g => g)).trans k3 (fun _ _ g => g)⟩
        have HO := Lib.hid hok
        have hs32 : s.size ≤ 32 := by
          unfold okName at hok
          simp at hok
          omega
        clear hok
        by_cases hp : 0 < pos l s
        · go_wp2_with fail
          refine (intern_there hT s hs HO.out hp).mono ?_
          rintro e w2 ⟨rfl, k2⟩
          go_wp2_with fail
          refine (find_any (hT.kept k2 (fun _ _ g => g)) s hs).mono ?_
          rintro e w3 ⟨rfl, rfl⟩
          rw [decide_eq_true hp]
          go_wp2_with fail
          refine (refRight_any s _ hs).mono ?_
          rintro e w3 ⟨rfl, rfl⟩
          rw [HO.out]
          go_wp2_with fail
          refine (awake_any _).mono ?_
          rintro e w3 ⟨rfl, k3⟩
          go_wp2_with fail
          go_ret
          exact ⟨rfl, (hA.kept.trans k2 (fun _ _ g => g)).trans k3 (fun _ _ g => g)⟩
        · have HP := Lib.hid (show pos l s = 0 by omega)
          clear hp
          go_wp2_with fail
          refine (intern_full hT s hs HO.out HP.out (by rw [HL.out]; exact Nat.le_refl _)).mono ?_
          rintro e w2 ⟨rfl, k2⟩
          have hT2 := hT.kept k2 (fun _ _ g => g)
          go_wp2_with fail
          refine (find_any hT2 s hs).mono ?_
          rintro e w3 ⟨rfl, rfl⟩
          rw [HP.out]
          go_wp2_with fail
          refine (refRight_any s _ hs).mono ?_
          rintro e w3 ⟨rfl, rfl⟩
          rw [HO.out]
          go_wp2_with fail
          refine (len_any hT2).mono ?_
          rintro e w3 ⟨rfl, rfl⟩
          rw [HL.out]
          go_wp2_with fail
          refine (awake_any _).mono ?_
          rintro e w3 ⟨rfl, k3⟩
          go_wp2_with fail
          go_ret
          exact ⟨rfl, (hA.kept.trans k2 (fun _ _ g => g)).trans k3 (fun _ _ g => g)⟩

set_option maxRecDepth 100000 in
theorem symMany_lifted (os : Os) (started : os.Started) (H : Type) (enc : TypeId × Value → H) :
    ReturnsInHanded {} Try.checked os 6 .any (Rows.symManySpec.pre6 enc Try.prog Try.f6 Rows.symManyRow.domain false) (Rows.symManySpec.post enc Try.prog Try.f6 false true false false) := by
  refine returnsInHanded_of_change (C := Try.checked) own started (by kernel_rfl) Try.func6
    (ChangeSpec.witness6 (enc := enc) (C := Try.checked) false ⟨#[], #[.string .empty], []⟩ 8 (by kernel_rfl) (by kernel_rfl) (by kernel_rfl) (by kernel_rfl)) ?_
  intro W base args ds gs before hval0 hW hcnd _
  have hval : ∀ (j : Nat) t v, Try.f6.params[j]? = some t → args[j]? = some v → Value.okWide Try.prog W .any base t v := hval0
  have hW' := hW
  obtain ⟨p, q, hA0, hV, rfl, hfz, hnd⟩ := hW
  have hA : DataW.TrodAll enc Try.prog W 0 (fun _ => true) true Try.f6.params.toList args.toList ds p := hA0
  rw [Try.params6] at hA hval
  obtain ⟨v0, d0, rfl, rfl, h0⟩ := trodAll_one hA
  obtain ⟨rfl, rfl⟩ := trodVars_none hV
  obtain ⟨s, rfl, rfl, rfl, hs⟩ := open_string Try.underlying9 (hval 0 9 v0 rfl rfl) h0
  refine (symMany_any s W hs).mono fun e W' ⟨he, hk⟩ => ?_
  subst he
  exact ⟨_, rfl, _, _, _, [], [], [], hW', trodAll_mk1 (shut_bool Try.underlying4 _), trodAll_mk1 (shut_string Try.underlying9 hs), rfl, hk.toBelow.frame _, fun h => by cases h⟩

theorem symMany_holds : Rows.SymManySaid :=
  OpenClaim.holds_of_wide 6 Try.f6 rfl rfl rfl rfl rfl rfl rfl ⟨rfl, rfl, rfl, rfl, rfl⟩ rfl rfl rfl rfl rfl (by kernel_rfl) Try.func6 (by kernel_rfl)
    (of_decide_eq_true (by kernel_rfl)) (by unfold Func.isWrapper; rw [if_neg (of_decide_eq_false (by kernel_rfl))]; exact ⟨rfl, rfl⟩)
    (fun os started H enc _ => symMany_lifted os started H enc)
#print axioms symMany_holds
end Go.Proofs.Ytjfoimnnbkmgmaa
