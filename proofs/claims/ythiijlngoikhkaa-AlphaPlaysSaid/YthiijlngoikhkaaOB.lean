/- A store: Items: slices.Sorted(maps.Keys(..)) of a memory's map, nil or not. -/
import Derived.Test.YthiijlngoikhkaaOA
import Derived.Test.YthiijlngoikhkaaOShelf
import Derived.StillTailTactics
namespace Go.Proofs.Ythiijlngoikhkaa
open Go.RowKit Go.Maps Go.WideMaps Go.Sort Go.Shelf
set_option maxRecDepth 100000

theorem sortsI (m : Nat) : AnyZI.SortsIn Try.prog Try.sortedA_ren Fence.wide m :=
  ⟨fun blk off cap ss W hH hblk hsz => callsIn_wide.2 (AnyM.slices_Sort_int Try.sortI blk off cap ss W hH hblk hsz),
   fun p cap W => callsIn_wide.2 (AnyM.slices_Sort_int_none Try.sortI p cap W)⟩
theorem keysC (mb : Option Nat) (W : World) : Calls Try.prog 44 #[.map mb] W fun e w' => e = .returned (.func (.func 50) #[] #[.pointer (some ⟨W.heap.size, 0, none⟩)]) ∧ w' = W.alloc (.cells #[.map mb] 86) :=
  (callsIn_wide (n := 5)).1 (AnyZI.keys_in Try.keysA Fence.wide 5 trivial rfl mb W)
/-- The ids of a datum that has just these. -/
theorem SetD.keysI {w : World} {b n : Nat} {D : DataW Unit} {l : List Int} (ho : w.ownsMap (H := Unit) Try.prog 3 boolE b n D) (hD : SetD D l) (hr : Rise l) : l.Perm (intKeys D) := by
  refine CollectedI.perm (left := fun _ => false) ⟨hr.nodup, fun x => ?_⟩ ho lawI Try.underlying3 (fun _ => rfl)
  rw [hD.has]
  simp
theorem sorted_rise {l ss : List Int} (hr : Rise l) (hp : ss.Perm l) : ss.mergeSort (fun x y => decide (x ≤ y)) = l := by
  have tr : ∀ a b c : Int, decide (a ≤ b) = true → decide (b ≤ c) = true → decide (a ≤ c) = true := fun a b c h1 h2 => by simp only [decide_eq_true_eq] at *; omega
  have to : ∀ a b : Int, (decide (a ≤ b) || decide (b ≤ a)) = true := fun a b => by simp only [Bool.or_eq_true, decide_eq_true_eq]; omega
  have hp2 := (List.mergeSort_perm ss (fun x y => decide (x ≤ y))).trans hp
  refine rise_eq ?_ hr (fun x => hp2.mem_iff)
  have h1 := List.pairwise_mergeSort (le := fun (x y : Int) => decide (x ≤ y)) tr to ss
  have h2 : (ss.mergeSort (fun x y => decide (x ≤ y))).Nodup := (hp2.nodup_iff).2 hr.nodup
  exact (h1.and h2).imp (fun {a b} h => by have := of_decide_eq_true h.1; have := h.2; omega)
theorem map_flat (l : List Int) : l.map encZ = l.flatMap cN := by
  induction l with
  | nil => rfl
  | cons x r ih => rw [List.map_cons, ih]; rfl

/-- slices.Sorted of the keys of a memory's map. -/
theorem sortedC {w : World} {b : Nat} {l : List Int} (h : SetM w b l) (hl : l.length ≤ 5000) :
    Calls Try.prog 43 #[.func (.func 50) #[] #[.pointer (some ⟨w.heap.size, 0, none⟩)]] (w.alloc (.cells #[.map (some b)] 86)) fun e w' => ∃ a cap, e = .returned (.slice a l.length cap) ∧ Row cN 3 1 w' w.heap.size (.slice a l.length cap) l ∧ Kept Nil w w' := by
  obtain ⟨D, ho, hD⟩ := h.mp
  have hmax : Maps.size D ≤ maxLen := by rw [hD.size]; unfold maxLen; omega
  have hbytes : Maps.size D * 8 ≤ 140737488355328 := by rw [hD.size]; omega
  have hbl := h.lt
  have hseq : SeqGives Fence.wide 2 Try.prog 50 #[.pointer (some ⟨w.heap.size, 0, none⟩)] encZ (fun ss => ss.Perm (intKeys D)) (Maps.size D) (w.alloc (.cells #[.map (some b)] 86)) :=
    AnyZI.keys_gives (ρ := Try.keysA_ren) { Try.keysA with } Fence.wide _ trivial rfl (by omega) w.heap.size b l.length D _ (by simp) (by simp) (ho.alloc _)
  have cS := AnyZI.sorted_in Try.sortedA Fence.wide 5 trivial trivial trivial trivial rfl (by omega) (sortsI _) (enters_of Try.func49 (by kernel_rfl) rfl) 50 #[.pointer (some ⟨w.heap.size, 0, none⟩)] trivial (enters_of Try.func50 (by kernel_rfl) rfl) _ _ hmax hbytes _ hseq
  change CallsIn _ _ Try.prog 43 _ _ _ at cS
  refine ((callsIn_wide (n := 5)).1 cS).mono ?_
  rintro e w' ⟨v, ss, rfl, hS, hrow, hnil, hb⟩
  have hp : ss.Perm l := hS.trans (SetD.keysI ho hD h.rise).symm
  have hrow' : Row cN 3 1 w' w.heap.size v l := by
    have e1 : ss.length = l.length := hp.length_eq
    rw [sorted_rise h.rise hp, e1, map_flat] at hrow
    exact Row.down hrow (by simp)
  obtain ⟨a, cap, rfl⟩ := hrow'.shape
  exact ⟨a, cap, rfl, hrow', Kept.ofBelow (((Below.refl _ w).alloc (Nat.le_refl _) _).trans (hb.mono (by simp)))⟩
theorem sortedN (w : World) :
    Calls Try.prog 43 #[.func (.func 50) #[] #[.pointer (some ⟨w.heap.size, 0, none⟩)]] (w.alloc (.cells #[.map none] 86)) fun e w' => e = .returned (.slice none 0 0) ∧ Kept Nil w w' := by
  have hseq : SeqGives Fence.wide 2 Try.prog 50 #[.pointer (some ⟨w.heap.size, 0, none⟩)] encZ (fun ss : List Int => ss = []) 0 (w.alloc (.cells #[.map none] 86)) :=
    AnyZI.keys_gives_nil (ρ := Try.keysA_ren) { Try.keysA with } Fence.wide _ trivial rfl w.heap.size _ (by simp) (by simp)
  have cS := AnyZI.sorted_in Try.sortedA Fence.wide 5 trivial trivial trivial trivial rfl (by omega) (sortsI _) (enters_of Try.func49 (by kernel_rfl) rfl) 50 #[.pointer (some ⟨w.heap.size, 0, none⟩)] trivial (enters_of Try.func50 (by kernel_rfl) rfl) _ 0 (Nat.zero_le _) (by omega) _ hseq
  change CallsIn _ _ Try.prog 43 _ _ _ at cS
  refine ((callsIn_wide (n := 5)).1 cS).mono ?_
  rintro e w' ⟨v, ss, rfl, hS, hrow, hnil, hb⟩
  obtain rfl : v = .slice none 0 0 := hnil.2 hS
  exact ⟨rfl, Kept.ofBelow (((Below.refl _ w).alloc (Nat.le_refl _) _).trans (hb.mono (by simp)))⟩

section
variable {w : World} {F : Nat → Prop} {p : Nat} {l : List T3} {L : List Mem}
set_option maxHeartbeats 1000000 in
theorem itemsS_any (h : Sto w F p l L) {k : T3} (hk : K3.ok k) (hle : ∀ m ∈ L, m.has.length ≤ 5000) :
    Calls Try.prog 27 #[.pointer (some ⟨p, 0, none⟩), av k] w fun e w' => ∃ a cap, e = .returned (.slice a (items L k).length cap) ∧ Row cN 3 1 w' w.heap.size (.slice a (items L k).length cap) (items L k) ∧ Kept Nil w w' := by
  obtain ⟨hc, hp, mm, x, g, h3⟩ := h
  have B1 := Lib.hid (Box.new w k)
  have h1 := Lib.hid (h3.keptN B1.out.kept)
  clear h3 hc hp
  go_enter Try.func27, Try.ntmps27
  go_wp2_with fail
  generalize w.alloc (.cells #[.int .i64 k.1, .int .i64 k.2.1, .int .i64 k.2.2] 31) = w1 at *
  generalize w.heap.size = b at *
  refine wp_region_still_tail 6 (by kernel_rfl) (by kernel_rfl) ?_
  have K1 := Lib.hid (show Kept Nil w1 { w1 with drawn := w1.drawn + 1 } from (Kept.refl _ w1).drew)
  generalize { w1 with drawn := w1.drawn + 1 } = W at *
  have H := Lib.hid (h1.out.keptN K1.out)
  have ⟨b0, b1, b2⟩ := B1.out.three.kept K1.out (fun e => e)
  have cx := H.out.tal.cell2
  have hl := H.out.look hk
  have KW := Lib.hid (B1.out.kept.trans K1.out (fun _ _ e => e))
  clear h1 B1 K1
  simp only [List.take_succ_cons, List.take_zero, List.drop_succ_cons, List.drop_zero]
  repeat still_step
  refine wpStill_nil ?_
  cases hm : mem L k with
  | none =>
    have hh : han L g k = none := by unfold han; rw [hm]; rfl
    have e1 := Lib.hid (items_none hm)
    rw [hh]
    clear hm hh hl
    go_wp2_with fail
    refine (keysC none W).mono ?_
    rintro e w2 ⟨rfl, rfl⟩
    go_wp2_with fail
    refine (sortedN W).mono ?_
    rintro e w3 ⟨rfl, k3⟩
    go_wp2_with fail
    go_ret
    rw [e1.out]
    exact ⟨none, 0, rfl, Row.nil _ _, KW.out.trans k3 (fun _ _ e => e)⟩
  | some m =>
    have hh : han L g k = some (g k) := by unfold han; rw [hm]; rfl
    obtain ⟨hmL, e⟩ := mem_some hm
    obtain ⟨fg, ng, mg, sm⟩ := H.out.mems m hmL
    rw [e] at sm
    have e1 := Lib.hid (items_some hm)
    have HC := Lib.hid (sortedC sm (hle m hmL))
    rw [hh]
    clear hm hh hl hle hmL e fg ng mg sm
    go_wp2_with fail
    refine (keysC (some (g k)) W).mono ?_
    rintro e w2 ⟨rfl, rfl⟩
    go_wp2_with fail
    refine HC.out.mono ?_
    rintro e w3 ⟨a, cap, rfl, r3, k3⟩
    have H3 := Lib.hid (And.intro r3 k3)
    clear r3 k3 HC
    go_wp2_with fail
    go_ret
    rw [e1.out]
    exact ⟨a, cap, rfl, H3.out.1.down KW.out.size, KW.out.trans H3.out.2 (fun _ _ e => e)⟩
end
end Go.Proofs.Ythiijlngoikhkaa
