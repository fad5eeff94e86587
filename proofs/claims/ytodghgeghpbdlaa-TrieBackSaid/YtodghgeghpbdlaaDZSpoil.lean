/- Layer trie: a world in which numbers alone have turned, in some blocks; what the law that spoils its own steps still reads. -/
import Derived.Test.YtodghgeghpbdlaaDZAll
import Derived.Test.YtodghgeghpbdlaaA21
namespace Go.Proofs.Ytodghgeghpbdlaa
open Go.RowKit Go.Maps Go.WideMaps
set_option maxRecDepth 100000

structure Lo (F : Nat → Prop) (w w' : World) : Prop where
  kept : Kept F w w'
  soft : ∀ b, Soft w b → Soft w' b
  cell : ∀ b o v, w.cell? ⟨b, o, none⟩ = some v → w'.cell? ⟨b, o, none⟩ = some v ∨ ∃ x y : Int, v = .int .i64 x ∧ w'.cell? ⟨b, o, none⟩ = some (.int .i64 y)
section
variable {F : Nat → Prop} {w w' : World}
theorem Lo.refl (F : Nat → Prop) (w : World) : Lo F w w := ⟨Kept.refl _ _, fun _ h => h, fun _ _ _ h => .inl h⟩
theorem Lo.int (h : Lo F w w') {b o : Nat} {x : Int} (hc : w.cell? ⟨b, o, none⟩ = some (.int .i64 x)) : ∃ y : Int, w'.cell? ⟨b, o, none⟩ = some (.int .i64 y) := by
  rcases h.cell b o _ hc with e | ⟨_, y, _, e⟩
  · exact ⟨x, e⟩
  · exact ⟨y, e⟩
theorem Lo.slice (h : Lo F w w') {b o : Nat} {a : Option Addr} {n c : Nat} (hc : w.cell? ⟨b, o, none⟩ = some (.slice a n c)) : w'.cell? ⟨b, o, none⟩ = some (.slice a n c) := by
  rcases h.cell b o _ hc with e | ⟨_, y, e, _⟩
  · exact e
  · cases e
theorem Lo.set (h : Lo F w w') {b o : Nat} {x : Int} (hb : F b) (hc : w'.cell? ⟨b, o, none⟩ = some (.int .i64 x)) (y : Int) : Lo F w (w'.setCell ⟨b, o, none⟩ (.int .i64 y)) := by
  refine ⟨h.kept.setCell _ (.inl hb) _, fun z hz i => ?_, fun b2 o2 v hv => ?_⟩
  · have := h.soft z hz i
    have e := World.frozen?_setCells b [(.int .i64 y : Value)] o w' ⟨z, i, none⟩
    exact e.trans this
  · by_cases e : (⟨b2, o2, none⟩ : Addr) = ⟨b, o, none⟩
    · cases e
      rw [World.cell?_setCell_same (h := hc)]
      rcases h.cell b o v hv with e2 | ⟨x2, y2, e2, _⟩
      · rw [hc] at e2; cases e2; exact .inr ⟨x, y, rfl, rfl⟩
      · exact .inr ⟨x2, y, e2, rfl⟩
    · rw [World.cell?_setCell_other (h := Ne.symm e)]
      exact h.cell b2 o2 v hv
/-- One of the steps, read behind the turns. -/
theorem Lo.step {ok : Nat → Nat → Prop} {a : Option Addr} {n cap : Nat} {l : List St} (h : Lo F w w') (hH : SHolds w ok (.slice a n cap) l) (hok : ∀ b o, ok b o → F b ∧ b < w.heap.size ∧ o = 0 ∧ Soft w b) (hm : massL l ≤ 64) {i : Nat} (hi : i < n) :
    ∃ b at_ nt ct as_ ns cs, a = some ⟨b, 0, none⟩ ∧ F b ∧ b < w'.heap.size ∧ w'.frozen? ⟨b, i * 6, none⟩ = false ∧ (∃ y : Int, w'.cell? ⟨b, i * 6, none⟩ = some (.int .i64 y)) ∧ nt ≤ 5000 ∧ ns ≤ 5000 ∧
      (∀ W, Lo F w W → b < W.heap.size ∧ W.cell? ⟨b, i * 6 + 4, none⟩ = some (.slice at_ nt ct) ∧ W.cell? ⟨b, i * 6 + 5, none⟩ = some (.slice as_ ns cs)) ∧
      (∀ W, Lo F w W → ∀ k, k < nt → ∃ g, at_ = some ⟨g, 0, none⟩ ∧ F g ∧ g < W.heap.size ∧ W.frozen? ⟨g, k * 3, none⟩ = false ∧ ∃ y : Int, W.cell? ⟨g, k * 3, none⟩ = some (.int .i64 y)) ∧
      (∀ W, Lo F w W → ∀ k, k < ns → ∃ g, as_ = some ⟨g, 0, none⟩ ∧ F g ∧ g < W.heap.size ∧ W.frozen? ⟨g, k * 6, none⟩ = false ∧ ∃ y : Int, W.cell? ⟨g, k * 6, none⟩ = some (.int .i64 y)) := by
  have hn := hH.fits.1
  obtain ⟨hd, sb, hs⟩ : ∃ hd sb, l[i]? = some (St.mk hd sb) := ⟨_, _, by rw [List.getElem?_eq_getElem (by omega), ← St.eta l[i]]⟩
  obtain ⟨b, o, at', ct, as', cs, rfl, hok1, hr, ht, hk⟩ := hH.at_ hs
  obtain ⟨o1, o2, rfl, o4⟩ := hok _ _ hok1
  rw [Nat.zero_add] at hr
  have hmm := mass_mem (List.mem_of_getElem? hs)
  have hml := length_massL sb
  rw [St.mass] at hmm
  have c0 := hr 0 _ rfl
  have c4 := hr 4 _ rfl
  have c5 := hr 5 _ rfl
  rw [Nat.add_zero] at c0
  refine ⟨b, at', _, ct, as', _, cs, rfl, o1, Nat.lt_of_lt_of_le o2 h.kept.size, h.soft b o4 _, h.int c0, ?_, ?_, fun W hW => ⟨Nat.lt_of_lt_of_le o2 hW.kept.size, hW.slice c4, hW.slice c5⟩, fun W hW k hk2 => ?_, fun W hW k hk2 => ?_⟩
  · omega
  · omega
  · obtain ⟨t, he⟩ : ∃ t, hd.ts[k]? = some t := ⟨_, List.getElem?_eq_getElem hk2⟩
    obtain ⟨g, o, rfl, hg, hr2⟩ := ht.at_ he
    obtain ⟨g1, g2, rfl, g4⟩ := hok _ _ hg
    rw [Nat.zero_add] at hr2
    have d0 := hr2 0 _ rfl
    rw [Nat.add_zero] at d0
    exact ⟨g, rfl, g1, Nat.lt_of_lt_of_le g2 hW.kept.size, hW.soft g g4 _, hW.int d0⟩
  · obtain ⟨hd2, sb2, he⟩ : ∃ hd' sb', sb[k]? = some (St.mk hd' sb') := ⟨_, _, by rw [List.getElem?_eq_getElem hk2, ← St.eta sb[k]]⟩
    obtain ⟨g, o, _, _, _, _, rfl, hg, hr2, _⟩ := hk.at_ he
    obtain ⟨g1, g2, rfl, g4⟩ := hok _ _ hg
    rw [Nat.zero_add] at hr2
    have d0 := hr2 0 _ rfl
    rw [Nat.add_zero] at d0
    exact ⟨g, rfl, g1, Nat.lt_of_lt_of_le g2 hW.kept.size, hW.soft g g4 _, hW.int d0⟩
end
end Go.Proofs.Ytodghgeghpbdlaa
