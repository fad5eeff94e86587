/- Layer scope: slices.Clone of a chain; the program's closure that keeps chains. -/
import Derived.Test.YthabnbljngejbaaERows
import Derived.Lib.SliceRun
namespace Go.Proofs.Ythabnbljngejbaa
open Go.RowKit

set_option maxHeartbeats 1000000 in
/-- A chain is copied into a block of its own. -/
theorem cloneC_any (ok : Nat → Nat → Prop) (w : World) {v : Value} {ps : Prs} (h : Lies cA w v ps) (hk : Kids cA w ok ps) (hl : 0 < ps.length ∧ ps.length ≤ 6000) :
    Calls Try.prog 22 #[v] w fun e w' => ∃ u, e = .returned u ∧ Kid cA 38 w' ok (fun g => w.heap.size ≤ g) u ps ∧ Kept Nil w w' := by
  obtain ⟨a, c, rfl, hc⟩ := h
  have hL : Lies cA w (.slice a ps.length c) ps := ⟨a, c, rfl, hc⟩
  obtain ⟨b, o, rfl⟩ : ∃ b o, a = some ⟨b, o, none⟩ := by
    rcases hc with hc | ⟨b, o, e, _⟩
    · have := congrArg List.length hc
      rw [flatC_len kindA] at this
      simp at this; omega
    · exact ⟨b, o, e⟩
  have ka := (Kept.refl Nil w).alloc (.cells #[] 38)
  have own0 : ORow cA 38 (w.alloc (.cells #[] 38)) w.heap.size (.slice (some ⟨w.heap.size, 0, none⟩) 0 0) [] := World.ownsRow_lit w #[] 0 (Nat.le_refl _) (by unfold maxLen; omega) rfl
  obtain ⟨v', w', r, o', k, _⟩ := ORow.append (P := Try.prog) elsA kindA 22 own0 (hL.keptN ka) (hk.kept ka (fun _ _ _ g => g)) (by simp; omega) (by simp)
  rw [List.nil_append] at o'
  have RR := Lib.hid r
  have kk : Kept Nil w w' := ka.trans k (fun i hi e => by simp [Value.ownBlock] at e; omega)
  have HK := Lib.hid kk
  have HO := Lib.hid (ORow.kid (p := fun g => w.heap.size ≤ g) o' hl.1 (hk.kept kk (fun _ _ _ g => g)) (fun g _ hb => hb))
  have hnil : ∀ W : World, (binOp .eql 22 (.slice (some ⟨b, o, none⟩) ps.length c) (.slice none 0 0)).run Try.prog W = .ok (.bool false) W := fun W => Lib.run_eql_slice_nil W _ _ _ _ _ _ _ Try.underlying22
  clear r k o' kk own0 ka hL hc hk
  have hpos := hl.1
  generalize ps.length = n at *
  clear hl
  go_enter Try.func22, Try.ntmps22
  go_wp2_with (at_builtin; refine wpList_append_run rfl (.tmp 5) (.tmp 6) 22 rfl _ _ rfl rfl RR.out ?_)
  go_ret
  exact ⟨_, rfl, HO.out, HK.out⟩
/-- The chain is put behind the others. -/
def HandEnd (ok : Nat → Nat → Prop) (B : Nat) (p : Nat → Prop) (X : Nat) (va : Value) (ws : List Prs) (ps : Prs) (w : World) (e : Ending) (w' : World) : Prop :=
  e = .returned (.tuple #[]) ∧ ∃ va', Blk w' X 25 #[va'] ∧ LRow cA 38 22 w' ok B p va' (ws ++ [ps]) ∧ Kept (fun k => k = X ∨ va.ownBlock = some k) w w' ∧ (va'.ownBlock = va.ownBlock ∨ ∃ k, va'.ownBlock = some k ∧ w.heap.size ≤ k)
theorem neqXA : 25 ≠ 22 := by decide
theorem neqXC : 25 ≠ 38 := by decide
set_option maxHeartbeats 2000000 in
theorem hand_any (ok : Nat → Nat → Prop) (B : Nat) (p : Nat → Prop) (X : Nat) (w : World) {v va : Value} {ps : Prs} {ws : List Prs} (h : Lies cA w v ps) (hk : Kids cA w ok ps) (hl : 0 < ps.length ∧ ps.length ≤ 6000) (hx : Blk w X 25 #[va]) (hR : LRow cA 38 22 w ok B p va ws)
    (hok : ∀ b o, ok b o → b < B) (hBX : B ≤ X) (hB : B ≤ w.heap.size) (hp : ∀ g, w.heap.size ≤ g → p g) (hwl : ws.length ≤ 10000) :
    Calls Try.prog 21 #[v, .pointer (some ⟨X, 0, none⟩)] w (HandEnd ok B p X va ws ps w) := by
  obtain ⟨a, n, c, rfl⟩ : ∃ a n c, v = .slice a n c := by obtain ⟨a, c, e⟩ := h.shape; exact ⟨a, _, c, e⟩
  obtain ⟨aa, na, ca, rfl⟩ : ∃ aa na ca, va = .slice aa na ca := by obtain ⟨a, c, e⟩ := hR.shape; exact ⟨a, _, c, e⟩
  have CC := Lib.hid (cloneC_any ok w.drew (h.keptN ((Kept.refl Nil w).drew)) (hk.kept ((Kept.refl Nil w).drew) (fun _ _ _ g => g)) hl)
  have c0 := hx.cell 0
  simp at c0
  have FIN : ∀ (u : Value) (w2 : World), Kid cA 38 w2 ok (fun g => w.drew.heap.size ≤ g) u ps → Kept Nil w.drew w2 →
      w2.cell? ⟨X, 0, none⟩ = some (.slice aa na ca) ∧ X < w2.heap.size ∧ ∃ g m b a3 n3 d3 w3, u = .slice g m b ∧ (Builtin.append_ #[25, 25] 25 #[.slice aa na ca, .slice (some ⟨w2.heap.size, 0, none⟩) 1 1]).run Try.prog (w2.alloc (.cells #[.slice g m b] 22)) = .ok (.slice a3 n3 d3) w3 ∧
        w3.cell? ⟨X, 0, none⟩ = some (.slice aa na ca) ∧ w3.frozen? ⟨X, 0, none⟩ = false ∧ HandEnd ok B p X (.slice aa na ca) ws ps w (.returned (.tuple #[])) (w3.setCell ⟨X, 0, none⟩ (.slice a3 n3 d3)) := fun u w2 hu k2 => by
    have k02 : Kept Nil w w2 := ((Kept.refl Nil w).drew).trans k2 (fun _ _ g => g)
    have hx2 := hx.kept k02 id
    have R2 := hR.keptN k02
    obtain ⟨v', w3, r, o3, k3, h5⟩ := LRow.append_one (P := Try.prog) elsLA neqLA 25 R2 (hu.mono (fun g _ _ hg => hp g hg)) hwl (by have := k02.size; omega) hok
    obtain ⟨g, b, e, _⟩ := hu.shape
    obtain ⟨a3, n3, d3, rfl⟩ : ∃ a3 n3 d3, v' = .slice a3 n3 d3 := by obtain ⟨x, y, e⟩ := o3.shape; exact ⟨x, _, y, e⟩
    have hx3 := hx2.kept k3 (fun e => by
      obtain ⟨_, _, cs, hb⟩ := R2.own X e
      exact neqXA (blk_type hx2 hb))
    have hXv : ∀ k, (Value.slice a3 n3 d3).ownBlock = some k → k ≠ X := fun k hk e => by
      obtain ⟨_, _, cs, hb⟩ := o3.own k hk
      subst e
      exact neqXA (blk_type hx3 hb)
    refine ⟨hx2.cell 0, hx2.lt, _, _, b, a3, n3, d3, w3, e, by rw [← e]; exact r, hx3.cell 0, hx3.frozen 0, rfl, .slice a3 n3 d3, by simpa using hx3.set_ 0 (.slice a3 n3 d3), ?_, ?_, ?_⟩
    · refine o3.kept ((Kept.refl (fun k => k = X) w3).setCell ⟨X, 0, none⟩ (.inl rfl) (.slice a3 n3 d3)) hXv (fun g cs hb _ hf => ?_) (fun b o hb hf => ?_)
      · subst hf
        exact neqXC (blk_type hx3 hb)
      · have := hok b o hb; omega
    · exact ((k02.mono (fun _ _ g => g.elim)).trans k3 (fun i _ e => .inr e)).setCell _ (.inl (.inl rfl)) _
    · exact h5.imp id (fun e => ⟨_, e, by have := k02.size; omega⟩)
  have HF := Lib.hid FIN
  clear h hk hx hR hok hp FIN
  go_enter Try.func21, Try.ntmps21
  go_wp2_with fail
  go_region_law (first
    | (refine step_append_run rfl (.tmp 3) (.tmp 6) 25 rfl _ _ rfl rfl r3 ?_)
    | (go_simp; go_at_call 22; refine CC.out.mono ?_; rintro e w2 ⟨u, rfl, h2, k2⟩; obtain ⟨c72, hX2, g3, m3, b3, a3, n3, d3, w3, rfl, r3, c73, f73, F1⟩ := HF.out u w2 h2 k2; have F1' := Lib.hid F1; clear F1 h2 k2))
  all_goals
    go_wp2_with fail
    exact bodyPost_ret (v := .tuple #[]) (by simp [results, Try.results21, go_sem]) rfl F1'.out
end Go.Proofs.Ythabnbljngejbaa
