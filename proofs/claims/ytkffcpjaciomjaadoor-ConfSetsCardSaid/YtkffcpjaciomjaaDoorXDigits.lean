/- The reference's numerals: Digits of a number from 0 to 999999999. -/
import Derived.Test.YtkffcpjaciomjaaDoorXParse
import Derived.Deep.RegionWith
import Derived.Laws.IdiomStrings
import Derived.IntWalk
import Derived.Lib.ItoaLen
namespace Go.Proofs.YtkffcpjaciomjaaDoor
open Go.RowKit

theorem nstr_size {n : Int} (h0 : 1 ≤ n) (h1 : n ≤ 999999999) : (nstr n).size ≤ 21 := by
  have := Lib.itoa_length_le n (by omega) (by omega)
  show (Lib.itoa n).toArray.size ≤ 21
  simpa using this
theorem ret_str {a b : ByteArray} (h : a = b) : Ending.returned (.string a) = .returned (.string b) := by rw [h]
theorem conv1 {d : Nat} (hd : d < 10) (B : Nat) (W : World) (h : W.cell? ⟨B, 0, none⟩ = some (.int .u8 (48 + (d : Int)))) :
    (convert 59 9 (.slice (some ⟨B, 0, none⟩) 1 1)).run Tryd.prog W = .ok (.string ⟨#[D d]⟩) W :=
  run_convert_bytes_back W 59 9 5 ⟨B, 0, none⟩ 1 [D d] Tryd.underlying59 Tryd.underlying5 Tryd.underlying9 (fun j hj => by
    obtain rfl : j = 0 := by simpa using hj
    show W.cell? ⟨B, 0, none⟩ = some (.int .u8 ((D d).toNat : Int))
    rw [h, D_nat hd]
    simp)

set_option maxRecDepth 100000 in
theorem digits_small (n : Nat) (h : n < 10) (w : World) :
    Calls Tryd.prog 39 #[.int .i64 n] w fun e w' => e = .returned (.string (nstr n)) ∧ Kept Nil w w' := by
  have H := Lib.hid (show nstr n = ⟨#[D n]⟩ by unfold nstr; rw [itoa_dec (by omega), Int.toNat_natCast, dec_small h])
  have cv := fun B W => conv1 h B W
  go_enter Tryd.func39, Tryd.ntmps39
  go_wp2
  go_ret
  exact ⟨ret_str H.out.symm, (Kept.refl _ _).alloc _⟩

set_option maxRecDepth 100000 in
set_option maxHeartbeats 1000000 in
theorem digits_big (m : Int) (q d : Nat) (hm : m = q * 10 + d) (hd : d < 10) (hq : 1 ≤ q) (hqq : q ≤ 100000000)
    (ih : ∀ W, Calls Tryd.prog 39 #[.int .i64 q] W fun e w' => e = .returned (.string (nstr q)) ∧ Kept Nil W w') (w : World) :
    Calls Tryd.prog 39 #[.int .i64 m] w fun e w' => e = .returned (.string (nstr m)) ∧ Kept Nil w w' := by
  have H := Lib.hid (show nstr m = nstr q ++ ⟨#[D d]⟩ by
    obtain rfl : m = ((q * 10 + d : Nat) : Int) := by omega
    apply ByteArray.ext
    apply Array.toList_inj.1
    unfold nstr
    rw [itoa_dec (by omega), itoa_dec (by omega), Int.toNat_natCast, Int.toNat_natCast, dec_snoc hq hd]
    simp)
  have IH := Lib.hid ih
  have zq : (nstr q).size ≤ 21 := nstr_size (by omega) (by omega)
  have cv := fun B W => conv1 hd B W
  have hm10 : 10 ≤ m := by omega
  have e1 : m.tdiv 10 = q := by rw [Int.tdiv_eq_ediv_of_nonneg (by omega)]; omega
  have e2 : m.tmod 10 = d := by rw [Int.tmod_eq_emod_of_nonneg (by omega)]; omega
  have e3 : IntKind.i64.wrap (q : Int) = q := IntWalk.i64_in _ (by omega)
  have e4 : IntKind.i64.wrap (d : Int) = d := IntWalk.i64_in _ (by omega)
  have e5 : IntKind.i64.wrap (48 + (d : Int)) = 48 + d := IntWalk.i64_in _ (by omega)
  have e6 : IntKind.u8.wrap (48 + (d : Int)) = 48 + d := by simp [IntKind.wrap, IntKind.bits, IntKind.signed]; omega
  clear ih hm
  go_enter Tryd.func39, Tryd.ntmps39
  go_wp2_with fail
  (first | go_region_with (go_at_call 39; refine (IH.out _).mono ?_; rintro e w1 ⟨rfl, hk⟩; first | (have hc1 : w1.cell? ⟨w.heap.size, 0, none⟩ = some (.int .u8 (48 + (d : Int))) := by (rw [hk.cell (by simp) id]; go_simp)) | skip) | fail)
  all_goals go_wp2_with fail
  all_goals go_ret
  all_goals refine ⟨ret_str H.out.symm, ?_⟩
  all_goals first
    | exact (((Kept.refl _ _).drew.trans hk (fun _ _ g => g)).alloc _)
    | exact (((Kept.refl _ _).drew.alloc _).trans hk (fun _ _ g => g))

theorem digits_any : ∀ (n : Nat), n ≤ 999999999 → ∀ w, Calls Tryd.prog 39 #[.int .i64 n] w fun e w' => e = .returned (.string (nstr n)) ∧ Kept Nil w w' := by
  intro n
  induction n using Nat.strongRecOn with
  | _ n ih =>
    intro hn w
    by_cases h : n < 10
    · exact digits_small n h w
    · exact digits_big n (n / 10) (n % 10) (by omega) (by omega) (by omega) (by omega) (ih (n / 10) (by omega) (by omega)) w
theorem digits_int (m : Int) (h0 : 1 ≤ m) (h1 : m ≤ 999999999) (w : World) : Calls Tryd.prog 39 #[.int .i64 m] w fun e w' => e = .returned (.string (nstr m)) ∧ Kept Nil w w' := by
  obtain ⟨n, rfl⟩ : ∃ n : Nat, m = n := ⟨m.toNat, by omega⟩
  exact digits_any n (by omega) w
end Go.Proofs.YtkffcpjaciomjaaDoor
