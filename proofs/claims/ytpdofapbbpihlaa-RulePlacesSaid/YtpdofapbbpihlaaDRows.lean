/- Layer rule: rows of numbers, rows of ways, the buffer in which a way is written: their appends; slices.Clone of a way. -/
import Derived.Test.YtpdofapbbpihlaaDHasT
import Derived.Lib.SliceRun
namespace Go.Proofs.Ytpdofapbbpihlaa
open Go.RowKit

theorem infoI : (Try.prog.info? 3).map (fun i => (i.zero, i.size, i.bytes)) = some (some (.int .i64 0), 1, 8) := by kernel_rfl
theorem infoW : (Try.prog.info? 38).map (fun i => (i.zero, i.size, i.bytes)) = some (some (.slice none 0 0), 1, 24) := by kernel_rfl
abbrev valI (i : Nat) : Value := .int .i64 (i : Int)
/-- A slice of numbers in memory, behind a base: a block of its own. -/
def Kid (w : World) (B : Nat) (u : Value) (way : List Nat) : Prop := ∃ (g c : Nat) (cs : Array Value), u = .slice (some ⟨g, 0, none⟩) way.length c ∧ way.length ≤ c ∧ B ≤ g ∧ Blk w g 3 cs ∧ ∀ (j x : Nat), way[j]? = some x → cs[j]? = some (valI x)
/-- A row of the call's own that holds ways. -/
def WRow (w : World) (B : Nat) (v : Value) (ws : List (List Nat)) : Prop := ∃ vals : List Value, w.ownsRow B 38 1 v ws.length vals ∧ ∀ (i : Nat) (way : List Nat) (u : Value), ws[i]? = some way → vals[i]? = some u → Kid w B u way
theorem Kid.kept {F : Nat → Prop} {w w' : World} {B : Nat} {u : Value} {way : List Nat} (h : Kid w B u way) (k : Kept F w w') (hF : ∀ g cs, Blk w g 3 cs → B ≤ g → ¬ F g) : Kid w' B u way := by
  obtain ⟨g, c, cs, e, hn, hb, hB, hc⟩ := h
  exact ⟨g, c, cs, e, hn, hb, hB.kept k (hF g cs hB hb), hc⟩
theorem Kid.less {w : World} {B B' : Nat} {u : Value} {way : List Nat} (h : Kid w B u way) (hB : B' ≤ B) : Kid w B' u way := by
  obtain ⟨g, c, cs, e, hn, hb, r⟩ := h
  exact ⟨g, c, cs, e, hn, Nat.le_trans hB hb, r⟩
theorem ownsBlk {w : World} {B n size : Nat} {t : TypeId} {v : Value} {xs : List Value} (h : w.ownsRow B t size v n xs) : ∀ k, v.ownBlock = some k → B ≤ k ∧ ∃ cur, Blk w k t cur := by
  intro k hk
  rcases h.2 with ⟨e, _⟩ | ⟨g, cap, cur, e, hb, hg, _⟩
  · rw [e] at hk; cases hk
  · rw [e] at hk; cases hk; exact ⟨hb, cur, hg⟩
theorem blk_type {w : World} {g : Nat} {t t' : TypeId} {cs cs' : Array Value} (h : Blk w g t cs) (h' : Blk w g t' cs') : t = t' := by
  unfold Blk at h h'
  rw [h] at h'
  cases h'
  rfl
theorem WRow.kept {F : Nat → Prop} {w w' : World} {B : Nat} {v : Value} {ws : List (List Nat)} (h : WRow w B v ws) (k : Kept F w w') (hF : ∀ i, F i → i < B) : WRow w' B v ws := by
  obtain ⟨vals, ho, hk⟩ := h
  exact ⟨vals, Kept.row k ho (fun i hi hf => by have := (ownsBlk ho i hi).1; have := hF i hf; omega), fun i way u h1 h2 => (hk i way u h1 h2).kept k (fun g cs _ hb hf => by have := hF g hf; omega)⟩
theorem WRow.nil (w : World) (B : Nat) : WRow w B (.slice none 0 0) [] := ⟨[], World.ownsRow_nil _ _ _ _, fun i way u h => by simp at h⟩
theorem WRow.own {w : World} {B : Nat} {v : Value} {ws : List (List Nat)} (h : WRow w B v ws) : ∀ k, v.ownBlock = some k → B ≤ k ∧ k < w.heap.size := by
  obtain ⟨vals, ho, _⟩ := h
  intro k hk
  obtain ⟨h1, cur, h2⟩ := ownsBlk ho k hk
  exact ⟨h1, h2.lt⟩
theorem WRow.shape {w : World} {B : Nat} {v : Value} {ws : List (List Nat)} (h : WRow w B v ws) : ∃ a cap, v = .slice a ws.length cap := by
  obtain ⟨vals, ho, _⟩ := h
  rcases ho.2 with ⟨e, e0⟩ | ⟨g, cap, cur, e, _⟩
  · exact ⟨none, 0, by rw [e, e0]⟩
  · exact ⟨_, cap, e⟩
/-- A way of the row, in memory. -/
theorem WRow.at_ {w : World} {B n cap : Nat} {a : Option Addr} {ws : List (List Nat)} (h : WRow w B (.slice a n cap) ws) {i : Nat} {way : List Nat} (hi : ws[i]? = some way) :
    ∃ g u, a = some ⟨g, 0, none⟩ ∧ w.cell? ⟨g, i, none⟩ = some u ∧ Kid w B u way := by
  obtain ⟨vals, ho, hk⟩ := h
  have hil := (List.getElem?_eq_some_iff.1 hi).1
  rcases ho.2 with ⟨e, e0⟩ | ⟨g, cap', cur, e, _⟩
  · omega
  · cases e
    have hl : vals.length = ws.length := by have := ho.1; omega
    have hv : vals[i]? = some vals[i] := List.getElem?_eq_getElem (by omega)
    refine ⟨g, vals[i], rfl, ?_, hk i way _ hi hv⟩
    have := ho.cells (g := g) rfl i vals[i] hv
    rwa [Addr.add_mid, Nat.zero_add] at this
theorem appendW_one (w : World) {B : Nat} {v : Value} {ws : List (List Nat)} (h : WRow w B v ws) (hB : B ≤ w.heap.size) (hl : ws.length ≤ 50000) {u : Value} {way : List Nat} (hu : Kid w B u way) :
    ∃ v' w', (Builtin.append_ #[36, 36] 36 #[v, .slice (some ⟨w.heap.size, 0, none⟩) 1 1]).run Try.prog (w.alloc (.cells #[u] 38)) = .ok v' w' ∧ WRow w' B v' (ws ++ [way]) ∧ Kept (fun k => v.ownBlock = some k) w w' := by
  obtain ⟨vals, ho, hk⟩ := h
  obtain ⟨i0, hi, hz0, hz1, hz2⟩ := info_parts infoW
  have hone : u.oneCell' = true := by obtain ⟨g, c, cs, e, _⟩ := hu; rw [e]; rfl
  obtain ⟨v', w', r, o, g', _⟩ := run_append_own (P := Try.prog) (w.alloc (.cells #[u] 38)) B 36 36 38 i0 (.slice none 0 0) 1 24 Try.underlying36 hi hz0 hz1 hz2 rfl (by decide) v ws.length vals (ho.alloc _)
    ⟨w.heap.size, 0, none⟩ 1 1 [u] rfl (fun j x hj => by rw [Addr.add_mid, Nat.zero_add, (Blk.new w 38 #[u]).cell j]; simpa using hj) (fun x hx => by simp at hx; subst hx; exact hone) (by unfold maxLen; omega) (by omega) (by simp; omega)
  have kk : Kept (fun k => v.ownBlock = some k) w w' := ((Kept.refl _ w).alloc _).grown g' (fun k hk => .inl hk)
  have keep : ∀ x y, Kid w B x y → Kid w' B x y := fun x y hx => hx.kept kk (fun g cs hb _ hf => by
    obtain ⟨_, cur, hc⟩ := ownsBlk ho g hf
    have := blk_type hb hc
    exact absurd this (by decide))
  refine ⟨v', w', r, ⟨vals ++ [u], by simpa using o, fun i y x h1 h2 => ?_⟩, kk⟩
  have hlen : vals.length = ws.length := by have := ho.1; omega
  by_cases hil : i < ws.length
  · rw [List.getElem?_append_left hil] at h1
    rw [List.getElem?_append_left (by omega)] at h2
    exact keep _ _ (hk i y x h1 h2)
  · rw [List.getElem?_append_right (by omega)] at h1 h2
    rw [hlen] at h2
    have : i - ws.length = 0 := by
      have := (List.getElem?_eq_some_iff.1 h1).1
      simp at this; omega
    rw [this] at h1 h2
    simp at h1 h2
    subst h1 h2
    exact keep _ _ hu
theorem appendW_all (w : World) {B B2 : Nat} {v v2 : Value} {ws ws2 : List (List Nat)} (h : WRow w B v ws) (h2 : WRow w B2 v2 ws2) (hB : B ≤ w.heap.size) (hBB : B ≤ B2) (hl : ws.length + ws2.length ≤ 50000) :
    ∃ v' w', (Builtin.append_ #[36, 36] 36 #[v, v2]).run Try.prog w = .ok v' w' ∧ WRow w' B v' (ws ++ ws2) ∧ Kept (fun k => v.ownBlock = some k) w w' := by
  obtain ⟨vals, ho, hk⟩ := h
  obtain ⟨vals2, ho2, hk2⟩ := h2
  obtain ⟨i0, hi, hz0, hz1, hz2⟩ := info_parts infoW
  have hlen : vals.length = ws.length := by have := ho.1; omega
  have hlen2 : vals2.length = ws2.length := by have := ho2.1; omega
  rcases ho2.2 with ⟨e, e0⟩ | ⟨g, cap, cur, e, _⟩
  · obtain rfl := List.length_eq_zero_iff.1 e0
    subst e
    exact ⟨v, w, run_append_owned_none (P := Try.prog) (w := w) B 36 36 38 i0 1 Try.underlying36 hi v ws.length _ ho, ⟨vals, by simpa using ho, by simpa using hk⟩, Kept.refl _ _⟩
  · subst e
    obtain ⟨v', w', r, o, gr, _⟩ := run_append_own (P := Try.prog) w B 36 36 38 i0 (.slice none 0 0) 1 24 Try.underlying36 hi hz0 hz1 hz2 rfl (by decide) v ws.length vals ho
      ⟨g, 0, none⟩ ws2.length cap vals2 (by simp [hlen2]) (ho2.cells rfl) (fun u hu => by
        obtain ⟨j, hj⟩ := List.getElem?_of_mem hu
        have hjl := (List.getElem?_eq_some_iff.1 hj).1
        obtain ⟨g', c', cs', e', _⟩ := hk2 j ws2[j] u (List.getElem?_eq_getElem (by omega)) hj
        rw [e']; rfl) (by unfold maxLen; omega) (by omega) hB
    have kk : Kept (fun k => v.ownBlock = some k) w w' := ⟨gr.os, gr.tape, gr.output, gr.size, fun k hk hF => gr.block k hk (fun e => hF e.symm)⟩
    have keep : ∀ x y, Kid w B x y → Kid w' B x y := fun x y hx => hx.kept kk (fun g cs hb _ hf => by
      obtain ⟨_, cur, hc⟩ := ownsBlk ho g hf
      have := blk_type hb hc
      exact absurd this (by decide))
    refine ⟨v', w', r, ⟨vals ++ vals2, by simpa using o, fun i y x h1 h2 => ?_⟩, kk⟩
    by_cases hil : i < ws.length
    · rw [List.getElem?_append_left hil] at h1
      rw [List.getElem?_append_left (by omega)] at h2
      exact keep _ _ (hk i y x h1 h2)
    · rw [List.getElem?_append_right (by omega)] at h1 h2
      rw [hlen] at h2
      exact keep _ _ ((hk2 _ y x h1 h2).less hBB)
/-- The buffer in which ways are written: three numbers, of which the first are a beginning. -/
def Buf (w : World) (b : Nat) (ab : List Nat) : Prop := ∃ cs : Array Value, Blk w b 3 cs ∧ cs.size = 3 ∧ ∀ (j x : Nat), ab[j]? = some x → cs[j]? = some (valI x)
theorem Buf.kept {F : Nat → Prop} {w w' : World} {b : Nat} {ab : List Nat} (h : Buf w b ab) (k : Kept F w w') (hF : ¬ F b) : Buf w' b ab := by
  obtain ⟨cs, hb, hs, hc⟩ := h
  exact ⟨cs, hb.kept k hF, hs, hc⟩
theorem Buf.less {w : World} {b : Nat} {ab r : List Nat} (h : Buf w b (ab ++ r)) : Buf w b ab := by
  obtain ⟨cs, hb, hs, hc⟩ := h
  exact ⟨cs, hb, hs, fun j x hj => hc j x (by rw [List.getElem?_append_left (List.getElem?_eq_some_iff.1 hj).1]; exact hj)⟩
/-- One number more, in place. -/
theorem appendB_one (w : World) {b : Nat} {ab : List Nat} (h : Buf w b ab) (hl : ab.length < 3) (i : Nat) :
    ∃ w', (Builtin.append_ #[38, 38] 38 #[.slice (some ⟨b, 0, none⟩) ab.length 3, .slice (some ⟨w.heap.size, 0, none⟩) 1 1]).run Try.prog (w.alloc (.cells #[valI i] 3)) = .ok (.slice (some ⟨b, 0, none⟩) (ab.length + 1) 3) w' ∧ Buf w' b (ab ++ [i]) ∧ Kept (fun k => k = b) w w' := by
  obtain ⟨cs, hb, hs, hc⟩ := h
  obtain ⟨i0, hi, hz0, hz1, hz2⟩ := info_parts infoI
  have hb' := hb.alloc (.cells #[valI i] 3)
  have r := run_append_room (P := Try.prog) (w.alloc (.cells #[valI i] 3)) 38 38 3 i0 Try.underlying38 hi b ab.length 3 cs hb'
    ⟨w.heap.size, 0, none⟩ 1 1 [valI i] (by rw [hz1]; rfl) (fun j x hj => by rw [Addr.add_mid, Nat.zero_add, (Blk.new w 3 #[valI i]).cell j]; simpa using hj) (fun x hx => by simp at hx; subst hx; rfl) (by omega) (by rw [hz1]; simp; omega)
  refine ⟨_, r, ⟨_, hb'.row _, ?_, fun j x hj => ?_⟩, Kept.setRow (F := fun k => k = b) ((Kept.refl _ w).alloc _) b (.inl rfl) _⟩
  · simp [hz1]; omega
  · rw [hz1]
    simp only [Nat.mul_one, List.getElem?_toArray]
    have hjl : j < ab.length + 1 := by have := (List.getElem?_eq_some_iff.1 hj).1; simpa using this
    have h3 : (cs.toList.take ab.length).length = ab.length := by rw [List.length_take]; simp; omega
    rw [List.append_assoc]
    by_cases hj2 : j < ab.length
    · rw [List.getElem?_append_left (by omega), List.getElem?_take, if_pos hj2]
      rw [List.getElem?_append_left hj2] at hj
      have := hc j x hj
      simpa using this
    · have hje : j = ab.length := by omega
      subst hje
      rw [List.getElem?_append_right (by omega), h3]
      rw [List.getElem?_append_right (by omega)] at hj
      simp at hj
      subst hj
      simp
set_option maxHeartbeats 1000000 in
/-- A way is copied out of the buffer. -/
theorem clone_any (w : World) {b : Nat} {ab : List Nat} (h : Buf w b ab) (hl : 0 < ab.length ∧ ab.length ≤ 3) :
    Calls Try.prog 54 #[.slice (some ⟨b, 0, none⟩) ab.length 3] w fun e w' => ∃ u, e = .returned u ∧ Kid w' w.heap.size u ab ∧ Kept Nil w w' := by
  obtain ⟨i0, hi, hz0, hz1, hz2⟩ := info_parts infoI
  obtain ⟨cs, hb, hs, hc⟩ := h
  have hb' := hb.alloc (.cells #[] 3)
  obtain ⟨v', w', r, o, gr, _⟩ := run_append_own (P := Try.prog) (w.alloc (.cells #[] 3)) w.heap.size 38 38 3 i0 (.int .i64 0) 1 8 Try.underlying38 hi hz0 hz1 hz2 rfl (by decide) (.slice (some ⟨w.heap.size, 0, none⟩) 0 0) 0 []
    (World.ownsRow_lit w #[] 0 (Nat.le_refl _) (by unfold maxLen; omega) rfl) ⟨b, 0, none⟩ ab.length 3 (ab.map valI) (by simp) (fun j u hj => by
      rw [Addr.add_mid, Nat.zero_add, hb'.cell j]
      rw [List.getElem?_map] at hj
      obtain ⟨x, hx, rfl⟩ := Option.map_eq_some_iff.1 hj
      exact hc j x hx) (fun u hu => by obtain ⟨x, _, rfl⟩ := List.mem_map.1 hu; rfl) (by unfold maxLen; omega) (by omega) (by simp)
  have RR := Lib.hid r
  have kk : Kept Nil w w' := ((Kept.refl Nil w).alloc (.cells #[] 3)).grown gr (fun k hk => .inr (by simp [Value.ownBlock] at hk; omega))
  have HK := Lib.hid kk
  have HO : Hid (Kid w' w.heap.size v' ab) := Lib.hid (by
    rcases o.2 with ⟨_, e0⟩ | ⟨g, cap, cur, e, hb2, hg, hn, hm, hsz, htk⟩
    · omega
    · refine ⟨g, cap, cur, by rw [e]; simp, by omega, hb2, hg, fun j x hj => ?_⟩
      have hjl := (List.getElem?_eq_some_iff.1 hj).1
      have := congrArg (fun l => l[j]?) htk
      simp only [List.getElem?_take, List.nil_append, List.getElem?_map, hj] at this
      rw [if_pos (by omega)] at this
      simpa using this)
  clear r kk o gr hc hb' hz0 hz1 hz2 hi
  have hpos := hl.1
  have hnil : ∀ W : World, (binOp .eql 38 (.slice (some ⟨b, 0, none⟩) ab.length 3) (.slice none 0 0)).run Try.prog W = .ok (.bool false) W := fun W => Lib.run_eql_slice_nil W _ _ _ _ _ _ _ Try.underlying38
  generalize ab.length = n at *
  clear hl
  go_enter Try.func54, Try.ntmps54
  go_wp2_with (at_builtin; refine wpList_append_run rfl (.tmp 5) (.tmp 6) 38 rfl _ _ rfl rfl RR.out ?_)
  go_ret
  exact ⟨_, rfl, HO.out, HK.out⟩
end Go.Proofs.Ytpdofapbbpihlaa
