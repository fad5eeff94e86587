/- slices.Sorted(maps.Keys(..)) of a set of numbers, nil or not (out of XOB). -/
import Derived.Test.YtbaplplaokbnnaaMSto
import Derived.Test.YtbaplplaokbnnaaMShelf
import Derived.StillTailTactics
namespace Go.Proofs.Ytbaplplaokbnnaa
open Go.RowKit Go.Maps Go.WideMaps Go.Sort Go.Shelf
set_option maxRecDepth 100000

theorem sortsI (m : Nat) : AnyZI.SortsIn Try.prog Try.sortedA_ren Fence.wide m :=
  ⟨fun blk off cap ss W hH hblk hsz => callsIn_wide.2 (AnyM.slices_Sort_int Try.sortI blk off cap ss W hH hblk hsz),
   fun p cap W => callsIn_wide.2 (AnyM.slices_Sort_int_none Try.sortI p cap W)⟩
theorem keysC (mb : Option Nat) (W : World) : Calls Try.prog 58 #[.map mb] W fun e w' => e = .returned (.func (.func 62) #[] #[.pointer (some ⟨W.heap.size, 0, none⟩)]) ∧ w' = W.alloc (.cells #[.map mb] 106) :=
  (callsIn_wide (n := 5)).1 (AnyZI.keys_in Try.keysA Fence.wide 5 trivial rfl mb W)
/-- The ids of a datum that has just these. -/
theorem SetD.keysI {w : World} {b n : Nat} {D : DataW Unit} {l : List Int} (ho : w.ownsMap (H := Unit) Try.prog 3 boolE b n D) (hD : SetD D l) (hr : Rise l) : l.Perm (intKeys D) := by
  refine CollectedI.perm (left := fun _ => false) ⟨hr.nodup, fun x => ?_⟩ ho lawI Try.underlying3 (fun _ => rfl)
  rw [hD.has]
  simp
theorem sorted_rise {l ss : List Int} (hr : Rise l) (hp : ss.Perm l) : ss.mergeSort (fun x y => decide (x ≤ y)) = l := by
  have tr : ∀ a b c : Int, decide (a ≤ b) = true → decide (b ≤ c) = true → decide (a ≤ c) = true := fun a b c h1 h2 => by simp only [decide_eq_true_eq] at *; omega
  have to : ∀ a b : Int, (decide (a ≤ b) || decide (b ≤ a)) = true := fun a b => by simp only [Bool.or_eq_true, decide_eq_true_eq]; omega
  have hp2 := (List.mergeSort_perm ss (fun x y => decide (x ≤ y))).trans hp
  refine rise_eq ?_ hr (fun x => hp2.mem_iff)
  have h1 := List.pairwise_mergeSort (le := fun (x y : Int) => decide (x ≤ y)) tr to ss
  have h2 : (ss.mergeSort (fun x y => decide (x ≤ y))).Nodup := (hp2.nodup_iff).2 hr.nodup
  exact (h1.and h2).imp (fun {a b} h => by have := of_decide_eq_true h.1; have := h.2; omega)
theorem map_flat (l : List Int) : l.map encZ = l.flatMap cN := by
  induction l with
  | nil => rfl
  | cons x r ih => rw [List.map_cons, ih]; rfl

/-- slices.Sorted of the keys of a memory's map. -/
theorem sortedC {w : World} {b : Nat} {l : List Int} (h : SetM w b l) (hl : l.length ≤ 5000) :
    Calls Try.prog 57 #[.func (.func 62) #[] #[.pointer (some ⟨w.heap.size, 0, none⟩)]] (w.alloc (.cells #[.map (some b)] 106)) fun e w' => ∃ a cap, e = .returned (.slice a l.length cap) ∧ Row cN 3 1 w' w.heap.size (.slice a l.length cap) l ∧ Kept Nil w w' := by
  obtain ⟨D, ho, hD⟩ := h.mp
  have hmax : Maps.size D ≤ maxLen := by rw [hD.size]; unfold maxLen; omega
  have hbytes : Maps.size D * 8 ≤ 140737488355328 := by rw [hD.size]; omega
  have hbl := h.lt
  have hseq : SeqGives Fence.wide 2 Try.prog 62 #[.pointer (some ⟨w.heap.size, 0, none⟩)] encZ (fun ss => ss.Perm (intKeys D)) (Maps.size D) (w.alloc (.cells #[.map (some b)] 106)) :=
    AnyZI.keys_gives (ρ := Try.keysA_ren) { Try.keysA with } Fence.wide _ trivial rfl (by omega) w.heap.size b l.length D _ (by simp) (by simp) (ho.alloc _)
  have cS := AnyZI.sorted_in Try.sortedA Fence.wide 5 trivial trivial trivial trivial rfl (by omega) (sortsI _) (enters_of Try.func61 (by kernel_rfl) rfl) 62 #[.pointer (some ⟨w.heap.size, 0, none⟩)] trivial (enters_of Try.func62 (by kernel_rfl) rfl) _ _ hmax hbytes _ hseq
  change CallsIn _ _ Try.prog 57 _ _ _ at cS
  refine ((callsIn_wide (n := 5)).1 cS).mono ?_
  rintro e w' ⟨v, ss, rfl, hS, hrow, hnil, hb⟩
  have hp : ss.Perm l := hS.trans (SetD.keysI ho hD h.rise).symm
  have hrow' : Row cN 3 1 w' w.heap.size v l := by
    have e1 : ss.length = l.length := hp.length_eq
    rw [sorted_rise h.rise hp, e1, map_flat] at hrow
    exact Row.down hrow (by simp)
  obtain ⟨a, cap, rfl⟩ := hrow'.shape
  exact ⟨a, cap, rfl, hrow', Kept.ofBelow (((Below.refl _ w).alloc (Nat.le_refl _) _).trans (hb.mono (by simp)))⟩
theorem sortedN (w : World) :
    Calls Try.prog 57 #[.func (.func 62) #[] #[.pointer (some ⟨w.heap.size, 0, none⟩)]] (w.alloc (.cells #[.map none] 106)) fun e w' => e = .returned (.slice none 0 0) ∧ Kept Nil w w' := by
  have hseq : SeqGives Fence.wide 2 Try.prog 62 #[.pointer (some ⟨w.heap.size, 0, none⟩)] encZ (fun ss : List Int => ss = []) 0 (w.alloc (.cells #[.map none] 106)) :=
    AnyZI.keys_gives_nil (ρ := Try.keysA_ren) { Try.keysA with } Fence.wide _ trivial rfl w.heap.size _ (by simp) (by simp)
  have cS := AnyZI.sorted_in Try.sortedA Fence.wide 5 trivial trivial trivial trivial rfl (by omega) (sortsI _) (enters_of Try.func61 (by kernel_rfl) rfl) 62 #[.pointer (some ⟨w.heap.size, 0, none⟩)] trivial (enters_of Try.func62 (by kernel_rfl) rfl) _ 0 (Nat.zero_le _) (by omega) _ hseq
  change CallsIn _ _ Try.prog 57 _ _ _ at cS
  refine ((callsIn_wide (n := 5)).1 cS).mono ?_
  rintro e w' ⟨v, ss, rfl, hS, hrow, hnil, hb⟩
  obtain rfl : v = .slice none 0 0 := hnil.2 hS
  exact ⟨rfl, Kept.ofBelow (((Below.refl _ w).alloc (Nat.le_refl _) _).trans (hb.mono (by simp)))⟩

end Go.Proofs.Ytbaplplaokbnnaa
