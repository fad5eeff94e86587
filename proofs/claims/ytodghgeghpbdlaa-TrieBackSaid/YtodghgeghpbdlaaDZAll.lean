/- Layer trie: All: the numbers that there are, in their order. -/
import Derived.Test.YtodghgeghpbdlaaDZBackM
import Derived.Test.YtodghgeghpbdlaaA15
import Derived.Test.YtodghgeghpbdlaaZShelf
import Derived.StillTailTactics
namespace Go.Proofs.Ytodghgeghpbdlaa
open Go.RowKit Go.Maps Go.WideMaps Go.Sort Go.Shelf
set_option maxRecDepth 100000

theorem sortsZ (m : Nat) : AnyZI.SortsIn Try.prog Try.sortedA_ren Fence.wide m :=
  ⟨fun blk off cap ss W hH hblk hsz => callsIn_wide.2 (AnyM.slices_Sort_int Try.sortI blk off cap ss W hH hblk hsz),
   fun p cap W => callsIn_wide.2 (AnyM.slices_Sort_int_none Try.sortI p cap W)⟩
theorem keysZ (mb : Option Nat) (W : World) : Calls Try.prog 65 #[.map mb] W fun e w' => e = .returned (.func (.func 103) #[] #[.pointer (some ⟨W.heap.size, 0, none⟩)]) ∧ w' = W.alloc (.cells #[.map mb] 88) :=
  (callsIn_wide (n := 5)).1 (AnyZI.keys_in Try.keysA Fence.wide 5 trivial rfl mb W)
abbrev zN (l : List Nat) : List Int := l.map fun n : Nat => (n : Int)
theorem sorted_riseN {l : List Nat} {ss : List Int} (hr : l.Pairwise (· < ·)) (hp : ss.Perm (zN l)) : ss.mergeSort (fun x y => decide (x ≤ y)) = zN l := by
  have tr : ∀ a b c : Int, decide (a ≤ b) = true → decide (b ≤ c) = true → decide (a ≤ c) = true := fun a b c h1 h2 => by simp only [decide_eq_true_eq] at *; omega
  have tot : ∀ a b : Int, (decide (a ≤ b) || decide (b ≤ a)) = true := fun a b => by simp only [Bool.or_eq_true, decide_eq_true_eq]; omega
  have h0 : (zN l).Pairwise (· ≤ ·) := by unfold zN; rw [List.pairwise_map]; exact hr.imp (fun h => by omega)
  have hp2 := (List.mergeSort_perm ss (fun x y => decide (x ≤ y))).trans hp
  have h1 := List.pairwise_mergeSort (le := fun (x y : Int) => decide (x ≤ y)) tr tot ss
  have h2 : (ss.mergeSort (fun x y => decide (x ≤ y))).Pairwise (· ≤ ·) := h1.imp (fun h => of_decide_eq_true h)
  exact hp2.eq_of_pairwise (fun a b _ _ h3 h4 => by omega) h2 h0
theorem mapZ_flat (l : List Nat) : (zN l).map encZ = l.flatMap cNt := by
  unfold zN
  induction l with
  | nil => rfl
  | cons x r ih => rw [List.map_cons, List.map_cons, ih]; rfl
theorem nodup_leZ {a b : List Int} (hn : a.Nodup) (hs : ∀ x ∈ a, x ∈ b) : a.length ≤ b.length := nodup_le hn hs
theorem mapD_keysI {w : World} {b n : Nat} {D : DataW Unit} {f : Nat → Option Nv} {l : List Nat} (ho : w.ownsMap (H := Unit) Try.prog 3 VN.rd b n D) (hD : MapD KNt VN D f) (hr : l.Pairwise (· < ·)) (hl : ∀ k, k ∈ l ↔ f k ≠ none) : (zN l).Perm (intKeys D) := by
  have hnd : (zN l).Nodup := by unfold zN; rw [List.Nodup, List.pairwise_map]; exact hr.imp (fun h => by omega)
  have hin : ∀ x ∈ zN l, has D (.int .i64 x) = true := fun x hx => by
    obtain ⟨k, hk, rfl⟩ := List.mem_map.1 hx
    have h1 := (hl k).1 hk
    have h2 := hD.has k (hD.ok k h1)
    show has D (KNt.lit k) = true
    rw [h2]
    cases e : f k with
    | none => exact absurd e h1
    | some _ => rfl
  refine CollectedI.perm (left := fun _ => false) ⟨hnd, fun x => ⟨fun hx => ⟨hin x hx, rfl⟩, fun hx => ?_⟩⟩ ho (int_keyed Try.underlying3) Try.underlying3 (fun _ => rfl)
  by_cases hm : x ∈ zN l
  · exact hm
  · exfalso
    obtain ⟨es, hDe, _, _⟩ := ho.entries (int_keyed Try.underlying3)
    obtain ⟨es', hD', hko⟩ := ho.keysOf
    obtain rfl : es = es' := by rw [hDe] at hD'; simpa using hD'
    have hk : ∀ p ∈ es, ∃ a, p.1 = .int .i64 a := fun p hp => by
      obtain ⟨v, hv⟩ := hko p hp
      obtain ⟨y, _, hy, _⟩ := Maps.keyOf_i64 Try.underlying3 hv
      exact ⟨y, hy⟩
    have sub : ∀ y ∈ x :: zN l, y ∈ intKeys D := fun y hy => by
      have h1 : has D (.int .i64 y) = true := by
        rcases List.mem_cons.1 hy with e | e
        · rw [e]; exact hx.1
        · exact hin y e
      rw [hDe] at h1 ⊢
      rw [has_eq, List.any_eq_true] at h1
      obtain ⟨p, hp, hs⟩ := h1
      obtain ⟨a, ha⟩ := hk p hp
      refine List.mem_map.2 ⟨p, hp, ?_⟩
      rw [ha] at hs ⊢
      have e2 : a = y := by simpa [Lit.sameKey] using hs
      exact e2
    have h1 := nodup_leZ (List.nodup_cons.2 ⟨hm, hnd⟩) sub
    obtain ⟨ks, g1, g2, g3⟩ := hD.keys
    have h2 : (intKeys D).length = Maps.size D := by rw [hDe]; unfold intKeys; simp [Maps.size]
    have h3 : ks.length ≤ l.length := nodup_le g1 (fun k hk => (hl k).2 ((g2 k).1 hk))
    rw [h2, g3] at h1
    simp [zN] at h1
    omega
/-- slices.Sorted of the keys. -/
theorem sortedZ {w : World} {b n : Nat} {f : Nat → Option Nv} {l : List Nat} (h : MapM KNt VN w b n f) (hr : l.Pairwise (· < ·)) (hm : ∀ k, k ∈ l ↔ f k ≠ none) (hl : l.length ≤ 5000) :
    Calls Try.prog 64 #[.func (.func 103) #[] #[.pointer (some ⟨w.heap.size, 0, none⟩)]] (w.alloc (.cells #[.map (some b)] 88)) fun e w' => ∃ a cap, e = .returned (.slice a l.length cap) ∧ Row cNt 3 1 w' w.heap.size (.slice a l.length cap) l ∧ Kept Nil w w' := by
  obtain ⟨D, ho, hD⟩ := h.mp
  have hsz : Maps.size D ≤ l.length := hD.size_le (fun k hk => (hm k).2 hk)
  have hmax : Maps.size D ≤ maxLen := by unfold maxLen; omega
  have hbytes : Maps.size D * 8 ≤ 140737488355328 := by omega
  have hbl := h.lt
  have hseq : SeqGives Fence.wide 2 Try.prog 103 #[.pointer (some ⟨w.heap.size, 0, none⟩)] encZ (fun ss => ss.Perm (intKeys D)) (Maps.size D) (w.alloc (.cells #[.map (some b)] 88)) :=
    AnyZI.keys_gives (ρ := Try.keysA_ren) { Try.keysA with } Fence.wide _ trivial rfl (by omega) w.heap.size b n D _ (by simp) (by simp) (ho.alloc _)
  have cS := AnyZI.sorted_in Try.sortedA Fence.wide 5 trivial trivial trivial trivial rfl (by omega) (sortsZ _) (enters_of Try.func102 (by kernel_rfl) rfl) 103 #[.pointer (some ⟨w.heap.size, 0, none⟩)] trivial (enters_of Try.func103 (by kernel_rfl) rfl) _ _ hmax hbytes _ hseq
  change CallsIn _ _ Try.prog 64 _ _ _ at cS
  refine ((callsIn_wide (n := 5)).1 cS).mono ?_
  rintro e w' ⟨v, ss, rfl, hS, hrow, hnil, hb⟩
  have hp : ss.Perm (zN l) := hS.trans (mapD_keysI ho hD hr hm).symm
  have hrow' : Row cNt 3 1 w' w.heap.size v l := by
    have e1 : ss.length = l.length := by rw [hp.length_eq]; simp [zN]
    rw [sorted_riseN hr hp, e1, mapZ_flat] at hrow
    exact Row.down hrow (by simp)
  obtain ⟨a, cap, rfl⟩ := hrow'.shape
  exact ⟨a, cap, rfl, hrow', Kept.ofBelow (((Below.refl _ w).alloc (Nat.le_refl _) _).trans (hb.mono (by simp)))⟩
theorem trieAll_any {w : World} {c : Nat → Nat} {p : Nat} {es : En} {U E : Nat → Int} (ht : TE w c p es U E) (hn : es.length ≤ 4000) {l : List Nat} (hl : alv es = l) :
    Calls Try.prog 16 #[.pointer (some ⟨p, 0, none⟩)] w fun e w' => ∃ a cap, e = .returned (.slice a l.length cap) ∧ Row cNt 3 1 w' w.heap.size (.slice a l.length cap) l ∧ Kept Nil w w' := by
  obtain ⟨nm, h1, bn, bs, nv, h2⟩ := ht.ex
  have hk : ∀ k, k ∈ l ↔ nv k ≠ none := fun k => by
    have e1 : nv k ≠ none ↔ ndE es U E k ≠ none := by
      rcases h2.rows k with ⟨a, b⟩ | ⟨d, v, a, b, _⟩
      · rw [a, b]; simp
      · rw [a, b]; simp
    rw [e1, ← hl, alv_mem]
    unfold ndE
    cases ent es k <;> simp
  have HC := Lib.hid (sortedZ h2.mn (hl ▸ alv_rise es) hk (by have := alv_len es; rw [hl] at this; omega))
  have c0 : w.cell? ⟨p, 0, none⟩ = some (.map (some bn)) := by have := h2.blk.cell 0; simpa using this
  have hp := h2.blk.lt
  generalize l.length = len at *
  clear h1 h2 hk ht hl
  go_enter Try.func16, Try.ntmps16
  go_wp2_with fail
  refine (keysZ (some bn) _).mono ?_
  rintro e w2 ⟨rfl, rfl⟩
  go_wp2_with fail
  refine HC.out.mono ?_
  rintro e w3 ⟨a, cap, rfl, r3, k3⟩
  have H3 := Lib.hid (And.intro r3 k3)
  clear r3 k3 HC
  go_wp2_with fail
  go_ret
  exact ⟨a, cap, rfl, H3.out.1, H3.out.2⟩
end Go.Proofs.Ytodghgeghpbdlaa
