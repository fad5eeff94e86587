/- Trees at int: Delete. -/
import Derived.Test.YtbaplplaokbnnaaMiF
namespace Go.Proofs.Ytbaplplaokbnnaa
open Go.RowKit Go.Maps Go.WideMaps
set_option maxRecDepth 100000

/-- Those that are out, as Delete tells them. -/
def cG_i (x : Int × Int × Int) : List Value := [.int .i64 x.1, .int .i64 x.2.1, .int .i64 x.2.2]
theorem cG_len_i (x : Int × Int × Int) : (cG_i x).length = 3 := rfl
theorem cG_one_i (x : Int × Int × Int) : ∀ u ∈ cG_i x, u.oneCell' = true := by
  intro u hu
  simp only [cG_i, List.mem_cons, List.not_mem_nil, or_false] at hu
  rcases hu with rfl | rfl | rfl <;> rfl
theorem infoG_i : (Try.prog.info? 61).map (fun i => (i.zero, i.size, i.bytes)) = some (some (.agg #[.int .i64 0, .int .i64 0, .int .i64 0]), 3, 24) := by kernel_rfl
theorem elsG_i : Els Try.prog 57 61 3 := Els.of Try.underlying57 infoG_i rfl (by decide) (by decide)
def goneL_i (L : List (Tok Int)) (l : List Int) : List (Int × Int × Int) := l.map fun id => (id, locI_i L id, factI L id)
section
variable {w : World} {c : Nat → Nat} {p : Nat} {L : List (Tok Int)}
theorem delete_top_i (w : World) (p : Nat) :
    Calls Try.prog 22 #[.pointer (some ⟨p, 0, none⟩), .int .i64 1] w fun e w' => e = .returned (.tuple #[.slice none 0 0, .int .i64 13]) ∧ w' = w := by
  go_enter Try.func22, Try.ntmps22
  go_wp2
  go_ret2
  exact ⟨rfl, rfl⟩
theorem delete_no_i (h : Trei w c p L) {id : Int} (hw : (Lit.int .i64 id).wf = true) (h1 : id ≠ 1) (hno : tok L id = none) :
    Calls Try.prog 22 #[.pointer (some ⟨p, 0, none⟩), .int .i64 id] w fun e w' => e = .returned (.tuple #[.slice none 0 0, .int .i64 16]) ∧ Kept Nil w w' := by
  obtain ⟨hok, n, bt, x1, x2, x3, g1, g2, g3, hn, t0⟩ := h
  have hlk := look2_i t0 hok hw
  rw [zT_i, hno] at hlk
  have c0 := t0.here.cell 0
  simp at c0 hlk
  have K := Lib.hid ((Kept.refl Nil w).alloc (.cells #[.int .i64 (parI L id), .int .i64 (locI_i L id), .int .i64 (factI L id)] 92))
  have hi : (id == 1) = false := by simpa using h1
  generalize locI_i L id = k' at *
  generalize parI L id = a' at *
  generalize factI L id = f' at *
  clear t0 hok hn h1
  go_enter Try.func22, Try.ntmps22
  go_wp2
  go_ret2
  exact ⟨rfl, K.out⟩
set_option maxHeartbeats 8000000 in
theorem delete_yes_i (h : Trei w c p L) (hwf : WF L) (hl : L.length ≤ 1000) {id : Int} (h1 : id ≠ 1) (hid : tok L id ≠ none) :
    Calls Try.prog 22 #[.pointer (some ⟨p, 0, none⟩), .int .i64 id] w fun e w' => ∃ a n cap, e = .returned (.tuple #[.slice a n cap, .int .i64 0]) ∧ In cG_i 3 w' a n (goneL_i L (below L id)) ∧ TreGi w w' c p (kills L (below L id)) := by
  have H := Lib.hid h
  obtain ⟨hok, n, bt, x1, x2, x3, g1, g2, g3, hn, t0⟩ := h
  have hw : (Lit.int .i64 id).wf = true := by
    cases e : tok L id with
    | none => exact absurd e hid
    | some z => have := tok_bound e; exact WalkArith.wf_i64 (by omega)
  have hlk := look2_i t0 hok hw
  have hs : (tok L id).isSome = true := Option.isSome_iff_ne_none.2 hid
  rw [zT_i, hs] at hlk
  have c0 := t0.here.cell 0
  simp at c0
  have K := Lib.hid ((Kept.refl Nil w).alloc (.cells #[.int .i64 (parI L id), .int .i64 (locI_i L id), .int .i64 (factI L id)] 92))
  have hi : (id == 1) = false := by simpa using h1
  have CB := Lib.hid (fromBelow_i (H.out.keptN K.out) hwf hl hid)
  have HB := Lib.hid (below_length hwf hid)
  have HND := Lib.hid (below_nodup hwf id hid)
  have HTh : Hid (∀ x ∈ below L id, tok L x ≠ none) := Lib.hid fun x hx => below_there hwf hid hx
  generalize locI_i L id = k' at *
  generalize parI L id = a' at *
  generalize factI L id = f' at *
  generalize below L id = bl at *
  obtain ⟨nb, hnb⟩ : ∃ nb, bl.length = nb := ⟨_, rfl⟩
  rw [hnb] at CB
  have HNB := Lib.hid hnb
  have hnl : nb ≤ 1000 := by rw [← hnb]; have := HB.out; omega
  clear t0 hok hn h1 hs hid hwf hnb
  go_enter Try.func22, Try.ntmps22
  go_wp2_with fail
  refine CB.out.mono ?_
  rintro e W1 ⟨ab, cb, rfl, r1, k1⟩
  have K1 := Lib.hid (K.out.trans k1 (fun _ _ e => e))
  have R1 := Lib.hid (r1.down K.out.size)
  clear r1 k1 K CB hlk c0
  go_wp2_with fail
  go_loopw [8, 28] (fun s8 s28 wr => ∃ (j : Nat) (a1 : Option Addr) (c1 : Nat) (c' : Nat → Nat), j ≤ nb ∧ s28 = .int .i64 j ∧ s8 = .slice a1 j c1 ∧ Row cG_i 61 3 wr W1.heap.size (.slice a1 j c1) (goneL_i L (bl.take j)) ∧
    Trei wr c' p (kills L (bl.take j)) ∧ (∀ b, c' b ≠ 0 → c b ≠ 0 ∨ W1.heap.size ≤ b) ∧ Kept (fun b => c b ≠ 0) W1 wr ∧ ∀ b, (Value.slice a1 j c1).ownBlock = some b → c' b = 0) (fun _ s28 _ => nb - (intOf s28).toNat)
  case atStart => exact ⟨0, none, 0, c, Nat.zero_le _, rfl, rfl, by rw [List.take_zero]; exact Row.nil _ _, by rw [List.take_zero]; exact H.out.keptN K1.out, fun b e => .inl e, Kept.refl _ _, fun b e => (by cases e)⟩
  case round =>
    obtain ⟨j, a1, c1, c', hj, rfl, rfl, hR, hT, hS, hK, hO⟩ := hrel
    have HR := Lib.hid hR
    have HT := Lib.hid hT
    have HS := Lib.hid hS
    have HK := Lib.hid hK
    have HO := Lib.hid hO
    clear hR hT hS hK hO
    have HW1 : Hid (∀ b, w.heap.size ≤ b → c b = 0) := Lib.hid fun b hb => by
      rcases Nat.eq_zero_or_pos (c b) with e | e
      · exact e
      · have := H.out.low (b := b) (by omega); omega
    by_cases hlt : j < nb
    · obtain ⟨x, hx⟩ : ∃ x, bl[j]? = some x := ⟨_, List.getElem?_eq_getElem (by rw [HNB.out]; exact hlt)⟩
      have r1 := R1.out.keptF HK.out (fun b e e2 => e2 (HW1.out b (R1.out.lt b e).1))
      obtain ⟨b2, rfl, hb2, hB2, hc⟩ := r1.get cN_len (by decide) hx
      have z0 := hc 0 _ rfl
      simp only [Nat.mul_one, Nat.add_zero] at z0
      have htk : bl.take (j + 1) = bl.take j ++ [x] := by rw [List.take_add_one, hx]; rfl
      have hnx : x ∉ bl.take j := fun hm => by
        have := HND.out
        rw [← List.take_append_drop (j + 1) bl, htk] at this
        have h2 := (List.nodup_append.1 this).1
        exact (List.nodup_append.1 h2).2.2 x hm x (by simp) rfl
      obtain ⟨z, hz⟩ : ∃ z, tok L x = some z := by
        cases e : tok L x with
        | none => exact absurd e (HTh.out x (List.mem_of_getElem? hx))
        | some z => exact ⟨z, rfl⟩
      have CT := Lib.hid (take_i HT.out (by rw [kills_length]; exact hl) (x := z) (by rw [tok_kills_not hnx]; exact hz))
      have HG : Hid (goneL_i L (bl.take (j + 1)) = goneL_i L (bl.take j) ++ [(x, z.loc, z.fact)]) := Lib.hid (by
        rw [htk]
        unfold goneL_i
        rw [List.map_append, List.map_cons, List.map_nil]
        unfold locI_i factI
        rw [hz]; rfl)
      have HKl : Hid (kill (kills L (bl.take j)) x = kills L (bl.take (j + 1))) := Lib.hid (by rw [htk, kills_snoc])
      obtain ⟨pa, k, f, xo⟩ := z
      clear hx r1 hc htk hnx hz hb2 hB2
      simp only at CT HG
      go_wp2_with fail
      refine CT.out.mono ?_
      rintro e W2 ⟨rfl, c2, t2, s2, k2⟩
      have hWw : W1.heap.size ≤ wr.heap.size := HK.out.size
      have HR2 := Lib.hid (HR.out.keptF k2 (fun b e e2 => e2 (HO.out b e)))
      have HO2 : Hid (∀ b, (Value.slice a1 j c1).ownBlock = some b → c2 b = 0) := Lib.hid fun b e => by
        rcases Nat.eq_zero_or_pos (c2 b) with e0 | e0
        · exact e0
        · rcases s2 b (by omega) with e3 | e3
          · exact absurd (HO.out b e) e3
          · have := (HR.out.lt b e).2; omega
      have hW2 : W1.heap.size ≤ W2.heap.size := Nat.le_trans hWw k2.size
      have hjl : (goneL_i L (bl.take j)).length ≤ 5000 := by unfold goneL_i; rw [List.length_map, List.length_take]; omega
      obtain ⟨a3, c3, W3, r3, o3, k3, own3⟩ := HR2.out.push2 elsG_i cG_len_i cG_one_i 57 hW2 hjl (x, k, f) #[.int .i64 x, .int .i64 k, .int .i64 f] rfl
      have R3 := Lib.hid r3
      have HR3 := Lib.hid o3
      have HT3 := Lib.hid (t2.kept k3 (fun b hb e => hb (HO2.out b e)))
      have HO3 : Hid (∀ b, (Value.slice a3 (j + 1) c3).ownBlock = some b → c2 b = 0) := Lib.hid fun b e => by
        rcases own3 b e with e3 | e3
        · exact HO2.out b e3
        · rcases Nat.eq_zero_or_pos (c2 b) with e0 | e0
          · exact e0
          · have := t2.low (b := b) (by omega); omega
      have HS3 : Hid (∀ b, c2 b ≠ 0 → c b ≠ 0 ∨ W1.heap.size ≤ b) := Lib.hid fun b hb => by
        rcases s2 b hb with e3 | e3
        · exact HS.out b e3
        · exact .inr (Nat.le_trans hWw e3)
      have HK3 : Hid (Kept (fun b => c b ≠ 0) W1 W3) := Lib.hid ((HK.out.trans k2 (fun b hb e => (HS.out b e).resolve_right (by omega))).trans k3 (fun b hb e => by have := (HR2.out.lt b e).1; omega))
      clear r3 o3 k3 own3 t2 s2 k2 hjl HR2 HO2 CT HR HO HS HK HT
      go_wp2_with (at_builtin; refine wpList_append_run rfl (.tmp 32) (.tmp 36) 57 rfl _ _ rfl rfl R3.out ?_)
      go_roundw
      case rel => exact ⟨j + 1, a3, c3, c2, by omega, by go_num, rfl, by rw [HG.out]; exact HR3.out, by rw [← HKl.out]; exact HT3.out, HS3.out, HK3.out, HO3.out⟩
      case measure => simp [intOf]; omega
    · obtain rfl : j = nb := by omega
      have HTk : Hid (bl.take j = bl) := Lib.hid (List.take_of_length_le (by rw [HNB.out]; exact Nat.le_refl _))
      go_wp2_with fail
      go_ret2
      rw [HTk.out] at HR HT
      refine ⟨a1, j, c1, rfl, HR.out.toIn cG_len_i (by decide), c', HT.out, fun b hb => (HS.out b hb).imp (fun e => e) (Nat.le_trans K1.out.size), (K1.out.mono (fun _ _ e => e.elim)).trans HK.out (fun _ _ e => e)⟩
end
end Go.Proofs.Ytbaplplaokbnnaa
