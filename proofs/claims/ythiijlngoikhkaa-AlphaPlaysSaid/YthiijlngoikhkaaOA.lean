/- A store: New, Wanted, Len, Put, Take. -/
import Derived.Test.YthiijlngoikhkaaOSto
namespace Go.Proofs.Ythiijlngoikhkaa
open Go.RowKit Go.Maps Go.WideMaps
set_option maxRecDepth 100000

/-- A triple, as a value. -/
abbrev av (k : T3) : Value := .agg #[.int .i64 k.1, .int .i64 k.2.1, .int .i64 k.2.2]

theorem new_any (w : World) : Calls Try.prog 6 #[] w fun e w' => e = .returned (.pointer (some ⟨w.heap.size, 0, none⟩)) ∧ Sto w' (fun i => i = w.heap.size) w.heap.size [] [] ∧ Kept Nil w w' := by
  go_enter Try.func6, Try.ntmps6
  go_wp2
  go_ret
  refine ⟨rfl, ⟨fun _ => rfl, by simp, .map none, .map none, fun _ => 0, ⟨(fun k e => by rw [e]; simp), by simp [keysL], by simp, ⟨by simp, by simp, Nat.zero_le _, heap_alloc_new w _, .inl ⟨rfl, rfl⟩⟩, rfl, (fun k e => by cases e), .inl ⟨rfl, rfl⟩, by simp, by simp⟩⟩, (Kept.refl _ _).alloc _⟩

theorem wanted_upd {f : Mem → Mem} (hf : ∀ m, (f m).key = m.key) (hn : ∀ m, (f m).n = m.n) (L : List Mem) (k j : T3) : wanted (upd L k f) j = wanted L j := by
  unfold wanted
  by_cases e : j = k
  · subst e
    rw [mem_upd_same hf]
    cases mem L j with
    | none => rfl
    | some m => exact hn m
  · rw [mem_upd_other hf e]
theorem pos_upd {f : Mem → Mem} (hn : ∀ m, (f m).n = m.n) {L : List Mem} (hp : ∀ m ∈ L, 1 ≤ m.n) (k : T3) : ∀ m ∈ upd L k f, 1 ≤ m.n := by
  intro y hy
  obtain ⟨z, hz, rfl⟩ := mem_of_upd hy
  have : (if z.key = k then f z else z).n = z.n := by split <;> simp [hn]
  rw [this]; exact hp z hz
theorem wanted_put (L : List Mem) (k : T3) (i : Int) (j : T3) : wanted (putL L k i) j = wanted L j := wanted_upd (f := fun m => ⟨m.key, m.n, put m.has i⟩) (fun _ => rfl) (fun _ => rfl) L k j
theorem wanted_take (L : List Mem) (k : T3) (i : Int) (j : T3) : wanted (takeL L k i) j = wanted L j := wanted_upd (f := fun m => ⟨m.key, m.n, del i m.has⟩) (fun _ => rfl) (fun _ => rfl) L k j
theorem pos_put {L : List Mem} (hp : ∀ m ∈ L, 1 ≤ m.n) (k : T3) (i : Int) : ∀ m ∈ putL L k i, 1 ≤ m.n := pos_upd (f := fun m => ⟨m.key, m.n, put m.has i⟩) (fun _ => rfl) hp k
theorem pos_take {L : List Mem} (hp : ∀ m ∈ L, 1 ≤ m.n) (k : T3) (i : Int) : ∀ m ∈ takeL L k i, 1 ≤ m.n := pos_upd (f := fun m => ⟨m.key, m.n, del i m.has⟩) (fun _ => rfl) hp k
/-- What a call on a store leaves that makes no map. -/
def SSame (w w' : World) (F : Nat → Prop) (p : Nat) (l : List T3) (L : List Mem) : Prop := Sto w' F p l L ∧ Kept F w w'
theorem kept_in (w : World) : ∀ W W', Kept Nil w W → Kept Nil W W' → Kept Nil w W' := fun _ _ h k => h.trans k (fun _ _ e => e)
theorem B3.cn {w1 : World} {b : Nat} {k : T3} (h : B3 w1 b k) : (∀ n : CW (Kept Nil w1), n.w.cell? ⟨b, 0, none⟩ = some (.int .i64 k.1)) ∧ (∀ n : CW (Kept Nil w1), n.w.cell? ⟨b, 1, none⟩ = some (.int .i64 k.2.1)) ∧ ∀ n : CW (Kept Nil w1), n.w.cell? ⟨b, 2, none⟩ = some (.int .i64 k.2.2) :=
  ⟨fun n => (h.kept n.of (fun e => e)).1, fun n => (h.kept n.of (fun e => e)).2.1, fun n => (h.kept n.of (fun e => e)).2.2⟩
section
variable {w : World} {F : Nat → Prop} {p : Nat} {mm x : Value} {g : T3 → Nat} {l : List T3} {L : List Mem}
set_option maxHeartbeats 1000000 in
theorem wanted_any (h : Sto w F p l L) {k : T3} (hk : K3.ok k) :
    Calls Try.prog 24 #[.pointer (some ⟨p, 0, none⟩), av k] w fun e w' => e = .returned (.int .i64 (wanted L k)) ∧ Kept Nil w w' := by
  obtain ⟨hc, _, mm, x, g, h3⟩ := h
  rw [← hc k]
  have B1 := Lib.hid (Box.new w k)
  have h1 := Lib.hid (h3.tal.keptN B1.out.kept)
  clear h3 hc
  go_enter Try.func24, Try.ntmps24
  go_wp2_with fail
  generalize w.alloc (.cells #[.int .i64 k.1, .int .i64 k.2.1, .int .i64 k.2.2] 31) = w1 at *
  generalize w.heap.size = b at *
  refine wp_region_in (Kept Nil w1) (by kernel_rfl) (by kernel_rfl) ((Kept.refl _ _).drew) ?_
  have inst : Nonempty (CW (Kept Nil w1)) := ⟨⟨_, Kept.refl _ _⟩⟩
  obtain ⟨c0, c1, c2⟩ := B1.out.three.cn
  repeat (go_big_quiet_step ((go_at_call 42; exact call_in (kept_in w1) (count_t (h1.out.keptN (CW.of _)) hk))))
  refine wpQuiet_nil ?_
  rintro _ ⟨n, rfl⟩
  go_wp2
  go_ret
  exact ⟨rfl, B1.out.kept.trans n.of (fun _ _ e => e)⟩

/-- As many keys as memories. -/
theorem keys_count (hc : ∀ k, cnt k l = wanted L k) (hp : ∀ m ∈ L, 1 ≤ m.n) (hn : (keysL L).Nodup) {ks : List T3} (h1 : ks.Nodup) (h2 : ∀ k, k ∈ ks ↔ k ∈ l) : ks.length = L.length := by
  have hmem : ∀ k, k ∈ l ↔ k ∈ keysL L := fun k => by
    rw [← cnt_pos, hc k]
    cases hm : mem L k with
    | none =>
      rw [wanted_none hm]
      refine ⟨fun h => by omega, fun h => ?_⟩
      obtain ⟨m, hmL, e⟩ := List.mem_map.1 h
      exact absurd e (mem_none.1 hm m hmL)
    | some m =>
      rw [wanted_some hm]
      obtain ⟨hmL, e⟩ := mem_some hm
      exact ⟨fun _ => List.mem_map.2 ⟨m, hmL, e⟩, fun _ => by have := hp m hmL; omega⟩
  have a := nodup_le (ks := ks) (l := keysL L) h1 (fun k hk => (hmem k).1 ((h2 k).1 hk))
  have b := nodup_le (ks := keysL L) (l := ks) hn (fun k hk => (h2 k).2 ((hmem k).2 hk))
  have e : (keysL L).length = L.length := List.length_map ..
  omega
theorem lenS_any (h : Sto w F p l L) :
    Calls Try.prog 23 #[.pointer (some ⟨p, 0, none⟩)] w fun e w' => e = .returned (.int .i64 L.length) ∧ Kept Nil w w' := by
  obtain ⟨hc, hp, mm, x, g, h3⟩ := h
  have H := Lib.hid h3
  have HC := Lib.hid (fun ks => keys_count (ks := ks) hc hp h3.keys)
  clear h3 hc hp
  go_enter Try.func23, Try.ntmps23
  go_wp2_with fail
  refine (len_t H.out.tal).mono ?_
  rintro e w' ⟨⟨ks, h1, h2, rfl⟩, rfl⟩
  rw [HC.out ks h1 h2]
  go_wp2_with fail
  go_ret
  exact ⟨rfl, Kept.refl _ _⟩

set_option maxHeartbeats 4000000 in
theorem putS_any (h : Sto w F p l L) {k : T3} (hk : K3.ok k) {i : Int} (hi : (Lit.int .i64 i).wf = true) (hle : ∀ m ∈ L, m.has.length ≤ 5000) :
    Calls Try.prog 21 #[.pointer (some ⟨p, 0, none⟩), av k, .int .i64 i] w fun e w' => e = .returned (.bool (canPut L k i)) ∧ SSame w w' F p l (putL L k i) := by
  obtain ⟨hc, hp, mm, x, g, h3⟩ := h
  have hinF := h3.inF
  have B1 := Lib.hid (Box.new w k)
  have h1 := Lib.hid (h3.keptN B1.out.kept)
  have HS := Lib.hid (show Sto w F p l L from ⟨hc, hp, mm, x, g, h3⟩)
  clear h3
  go_enter Try.func21, Try.ntmps21
  go_wp2_with fail
  generalize w.alloc (.cells #[.int .i64 k.1, .int .i64 k.2.1, .int .i64 k.2.2] 31) = w1 at *
  generalize w.heap.size = b at *
  have ⟨b0, b1, b2⟩ := B1.out.three
  have cx := h1.out.tal.cell2
  have hl := fun n => (h1.out.keptN ((Kept.refl _ _).drewN n)).look2 hk
  cases hm : mem L k with
  | none =>
    have hh : han L g k = none := by unfold han; rw [hm]; rfl
    rw [hh, hm] at hl
    have e1 := Lib.hid (show canPut L k i = false by unfold canPut; rw [hm])
    clear hm hh hc hp hinF hle
    go_quiet (fail)
    go_wp2_with fail
    go_ret
    refine ⟨by rw [e1.out]; rfl, ?_⟩
    rw [putL_no HS.out.keys e1.out]
    exact ⟨HS.out.keptN (B1.out.kept.drewN _), (B1.out.kept.drewN _).mono (fun _ _ e => e.elim)⟩
  | some m =>
    have hh : han L g k = some (g k) := by unfold han; rw [hm]; rfl
    rw [hh, hm] at hl
    obtain ⟨hmL, e⟩ := mem_some hm
    obtain ⟨fg, ng, mg, sm⟩ := h1.out.mems m hmL
    rw [e] at fg ng mg sm
    have hml := hle m hmL
    by_cases hx : i ∈ m.has
    · have e1 := Lib.hid (show canPut L k i = false by unfold canPut; rw [hm]; simpa using hx)
      have hlk := fun n => (sm.kept (F := Nil) ((Kept.refl _ _).drewN n) (fun e => e)).look hi
      rw [decide_eq_true hx] at hlk
      clear hm hh hc hp hinF hle hmL e fg ng mg sm hml hx
      go_quiet (fail)
      go_wp2_with fail
      go_ret
      refine ⟨by rw [e1.out]; rfl, ?_⟩
      rw [putL_no HS.out.keys e1.out]
      exact ⟨HS.out.keptN (B1.out.kept.drewN _), (B1.out.kept.drewN _).mono (fun _ _ e => e.elim)⟩
    · have e1 := Lib.hid (show canPut L k i = true by unfold canPut; rw [hm]; simpa using hx)
      have hlk := fun n => (sm.kept (F := Nil) ((Kept.refl _ _).drewN n) (fun e => e)).look hi
      rw [decide_eq_false hx] at hlk
      have hput := fun n => (sm.kept (F := Nil) ((Kept.refl _ _).drewN n) (fun e => e)).put hml hi
      have HM := Lib.hid hm
      have HH := Lib.hid (And.intro hc (And.intro hp fg))
      clear hm hh hc hp hinF hle hmL e fg ng mg sm hml hx
      go_quiet (fail)
      obtain ⟨w5, hrun, hs5, hk5⟩ := hput nq
      have H5 := Lib.hid (And.intro hs5 hk5)
      clear hput hs5 hk5
      go_wp2_with fail
      go_ret
      obtain ⟨hc, hp, fg⟩ := HH.out
      obtain ⟨hs5, hk5⟩ := H5.out
      refine ⟨by rw [e1.out]; rfl, ⟨fun j => (hc j).trans (wanted_put L k i j).symm, pos_put hp k i, mm, x, g, (h1.out.keptN ((Kept.refl _ _).drewN _)).turn HM.out hk5 (fun _ => rfl) hs5⟩, ((B1.out.kept.drewN _).mono (fun _ _ e => e.elim)).trans hk5 (fun j _ e => by rw [e]; exact fg)⟩

set_option maxHeartbeats 4000000 in
theorem takeS_any (h : Sto w F p l L) {k : T3} (hk : K3.ok k) {i : Int} (hi : (Lit.int .i64 i).wf = true) :
    Calls Try.prog 22 #[.pointer (some ⟨p, 0, none⟩), av k, .int .i64 i] w fun e w' => e = .returned (.bool (canTake L k i)) ∧ SSame w w' F p l (takeL L k i) := by
  obtain ⟨hc, hp, mm, x, g, h3⟩ := h
  have B1 := Lib.hid (Box.new w k)
  have h1 := Lib.hid (h3.keptN B1.out.kept)
  have HS := Lib.hid (show Sto w F p l L from ⟨hc, hp, mm, x, g, h3⟩)
  clear h3
  go_enter Try.func22, Try.ntmps22
  go_wp2_with fail
  generalize w.alloc (.cells #[.int .i64 k.1, .int .i64 k.2.1, .int .i64 k.2.2] 31) = w1 at *
  generalize w.heap.size = b at *
  have ⟨b0, b1, b2⟩ := B1.out.three
  have cx := h1.out.tal.cell2
  have hl := fun n => (h1.out.keptN ((Kept.refl _ _).drewN n)).look hk
  cases hm : mem L k with
  | none =>
    have hh : han L g k = none := by unfold han; rw [hm]; rfl
    rw [hh] at hl
    have e1 := Lib.hid (show canTake L k i = false by unfold canTake; rw [hm])
    have hlk := fun W => SetM.lookN W hi
    clear hm hh hc hp
    go_quiet (fail)
    go_wp2_with fail
    go_ret
    refine ⟨by rw [e1.out]; rfl, ?_⟩
    rw [takeL_no HS.out.keys e1.out]
    exact ⟨HS.out.keptN (B1.out.kept.drewN _), (B1.out.kept.drewN _).mono (fun _ _ e => e.elim)⟩
  | some m =>
    have hh : han L g k = some (g k) := by unfold han; rw [hm]; rfl
    rw [hh] at hl
    obtain ⟨hmL, e⟩ := mem_some hm
    obtain ⟨fg, ng, mg, sm⟩ := h1.out.mems m hmL
    rw [e] at fg ng mg sm
    by_cases hx : i ∈ m.has
    · have e1 := Lib.hid (show canTake L k i = true by unfold canTake; rw [hm]; simpa using hx)
      have hlk := fun n => (sm.kept (F := Nil) ((Kept.refl _ _).drewN n) (fun e => e)).look hi
      rw [decide_eq_true hx] at hlk
      have hput := fun n => (sm.kept (F := Nil) ((Kept.refl _ _).drewN n) (fun e => e)).del hi
      have HM := Lib.hid hm
      have HH := Lib.hid (And.intro hc (And.intro hp fg))
      clear hm hh hc hp hmL e fg ng mg sm hx
      go_quiet (fail)
      obtain ⟨w5, hrun, hs5, hk5⟩ := hput nq
      have H5 := Lib.hid (And.intro hs5 hk5)
      clear hput hs5 hk5
      go_wp2_with fail
      go_ret
      obtain ⟨hc, hp, fg⟩ := HH.out
      obtain ⟨hs5, hk5⟩ := H5.out
      refine ⟨by rw [e1.out]; rfl, ⟨fun j => (hc j).trans (wanted_take L k i j).symm, pos_take hp k i, mm, x, g, (h1.out.keptN ((Kept.refl _ _).drewN _)).turn HM.out hk5 (fun _ => rfl) hs5⟩, ((B1.out.kept.drewN _).mono (fun _ _ e => e.elim)).trans hk5 (fun j _ e => by rw [e]; exact fg)⟩
    · have e1 := Lib.hid (show canTake L k i = false by unfold canTake; rw [hm]; simpa using hx)
      have hlk := fun n => (sm.kept (F := Nil) ((Kept.refl _ _).drewN n) (fun e => e)).look hi
      rw [decide_eq_false hx] at hlk
      clear hm hh hc hp hmL e fg ng mg sm hx
      go_quiet (fail)
      go_wp2_with fail
      go_ret
      refine ⟨by rw [e1.out]; rfl, ?_⟩
      rw [takeL_no HS.out.keys e1.out]
      exact ⟨HS.out.keptN (B1.out.kept.drewN _), (B1.out.kept.drewN _).mono (fun _ _ e => e.elim)⟩
end
end Go.Proofs.Ythiijlngoikhkaa
