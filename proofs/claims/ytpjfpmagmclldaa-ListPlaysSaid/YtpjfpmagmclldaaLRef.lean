/- The reference's list: its rows in memory; place. -/
import Derived.Test.YtpjfpmagmclldaaLMap
import Derived.Test.YtpjfpmagmclldaaEls
namespace Go.Proofs.Ytpjfpmagmclldaa
set_option maxRecDepth 100000
open Go.RowKit Go.Maps

theorem infoI : (Try.prog.info? 3).map (fun i => (i.zero, i.size, i.bytes)) = some (some (.int .i64 0), 1, 8) := by kernel_rfl
theorem infoT : (Try.prog.info? 9).map (fun i => (i.zero, i.size, i.bytes)) = some (some (.string .empty), 1, 16) := by kernel_rfl
theorem elsI : Els Try.prog 26 3 1 := Els.of Try.underlying26 infoI rfl (by decide) (by decide)
theorem elsT : Els Try.prog 27 9 1 := Els.of Try.underlying27 infoT rfl (by decide) (by decide)

def vN (h : Nat) : Value := .int .i64 (h : Int)
/-- The reference's list of these handles and values lies at these two slices. -/
structure RefL (w : World) (r v : Value) (row : List Nat) (vals : List ByteArray) : Prop where
  row : w.ownsRow 0 3 1 r row.length (row.map vN)
  vals : w.ownsRow 0 9 1 v vals.length (vals.map .string)
section
variable {w w' : World} {r v : Value} {row : List Nat} {vals : List ByteArray}
theorem RefL.keptN (h : RefL w r v row vals) (hk : Kept Nil w w') : RefL w' r v row vals := ⟨hk.row h.row (fun _ _ e => e), hk.row h.vals (fun _ _ e => e)⟩
theorem RefL.drew (h : RefL w r v row vals) : RefL w.drew r v row vals := h.keptN (Kept.refl Nil w).drew
theorem RefL.nil (w : World) : RefL w (.slice none 0 0) (.slice none 0 0) [] [] := ⟨World.ownsRow_nil _ _ _ _, World.ownsRow_nil _ _ _ _⟩
theorem RefL.rowAt (h : RefL w r v row vals) : ∃ a c, r = .slice a row.length c ∧ row.length ≤ c ∧ c ≤ maxLen ∧ (row = [] ∨ ∃ b, a = some ⟨b, 0, none⟩ ∧ ∀ j x, row[j]? = some x → w.cell? ⟨b, j, none⟩ = some (vN x)) := by
  rcases h.row.2 with ⟨e1, e0⟩ | ⟨g, cap, cur, e1, _, hg, hn, hm, _⟩
  · exact ⟨none, 0, by rw [e1, e0], by omega, Nat.zero_le _, .inl (List.length_eq_zero_iff.1 e0)⟩
  · refine ⟨_, cap, e1, hn, hm, .inr ⟨g, rfl, fun j x hj => ?_⟩⟩
    have := h.row.cells (g := g) (by rw [e1]; rfl) j (vN x) (by simp [hj])
    rw [Addr.add_mid] at this
    simpa using this
theorem RefL.valsAt (h : RefL w r v row vals) : ∃ a c, v = .slice a vals.length c ∧ vals.length ≤ c ∧ c ≤ maxLen ∧ (vals = [] ∨ ∃ b, a = some ⟨b, 0, none⟩ ∧ ∀ j x, vals[j]? = some x → w.cell? ⟨b, j, none⟩ = some (.string x)) := by
  rcases h.vals.2 with ⟨e1, e0⟩ | ⟨g, cap, cur, e1, _, hg, hn, hm, _⟩
  · exact ⟨none, 0, by rw [e1, e0], by omega, Nat.zero_le _, .inl (List.length_eq_zero_iff.1 e0)⟩
  · refine ⟨_, cap, e1, hn, hm, .inr ⟨g, rfl, fun j x hj => ?_⟩⟩
    have := h.vals.cells (g := g) (by rw [e1]; rfl) j (.string x) (by simp [hj])
    rw [Addr.add_mid] at this
    simpa using this

/-- A handle's place in a row, as the reference counts it. -/
def plc : List Nat → Int → Nat → Int
  | [], _, _ => -1
  | x :: r, k, i => if (x : Int) = k then i else plc r k (i + 1)
theorem plc_out : ∀ {row : List Nat} {k : Int} {i : Nat}, (∀ x ∈ row, (x : Int) ≠ k) → plc row k i = -1
  | [], _, _, _ => rfl
  | x :: r, k, i, h => by
    unfold plc
    rw [if_neg (h x (by simp)), plc_out (fun y hy => h y (List.mem_cons_of_mem _ hy))]
theorem plc_at : ∀ {row : List Nat} {i j x : Nat}, row.Nodup → row[j]? = some x → plc row x i = (i + j : Nat)
  | [], _, _, _, _, h => by simp at h
  | y :: r, i, 0, x, _, h => by
    have : y = x := by simpa using h
    simp [plc, this]
  | y :: r, i, j + 1, x, hn, h => by
    have h1 := List.nodup_cons.1 hn
    have hr : r[j]? = some x := by simpa using h
    have : y ≠ x := fun e => h1.1 (e ▸ List.mem_of_getElem? hr)
    unfold plc
    rw [if_neg (by omega), plc_at h1.2 hr]
    omega
theorem plc_step {row : List Nat} {k : Int} {j x : Nat} (hx : row[j]? = some x) : plc (row.drop j) k j = if (x : Int) = k then (j : Int) else plc (row.drop (j + 1)) k (j + 1) := by
  have hlt := (List.getElem?_eq_some_iff.1 hx).1
  rw [List.drop_eq_getElem_cons hlt]
  have : row[j] = x := by simpa [List.getElem?_eq_getElem hlt] using hx
  simp [plc, this]

set_option maxHeartbeats 4000000 in
theorem place_any (h : RefL w r v row vals) (hl : row.length ≤ 1000) (k : Int) :
    Calls Try.prog 35 #[.agg #[r, v], .int .i64 k] w fun e w' => e = .returned (.int .i64 (plc row k 0)) ∧ Kept Nil w w' := by
  have h1 := h.keptN ((Kept.refl Nil w).alloc (.cells #[r, v] 29))
  have hb := Blk.new w 29 #[r, v]
  have q0 := hb.cell 0
  obtain ⟨a, c, rfl, hc1, hc2, hat⟩ := h1.rowAt
  clear h h1 hb
  generalize hn : row.length = n at *
  have HK := Lib.hid ((Kept.refl Nil w).alloc (.cells #[.slice a n c, v] 29))
  unfold maxLen at hc2
  have HC := Lib.hid hat
  have HN := Lib.hid hn
  clear hat hn
  go_enter Try.func35, Try.ntmps35
  go_wp2_with fail
  generalize w.alloc (.cells #[.slice a n c, v] 29) = w0 at *
  clear q0
  go_loopw [10] (fun i wr => ∃ j : Nat, j ≤ n ∧ i = .int .i64 (j : Int) ∧ plc row k 0 = plc (row.drop j) k j ∧ wr = w0) (fun i _ => n - (intOf i).toNat)
  case atStart => exact ⟨0, Nat.zero_le _, rfl, rfl, rfl⟩
  case round =>
    obtain ⟨j, hj, rfl, hp, rfl⟩ := hrel
    have HP := Lib.hid hp
    clear hp
    by_cases hlt : j < n
    · obtain ⟨x, hx⟩ : ∃ x, row[j]? = some x := ⟨row[j]'(by have := HN.out; omega), by simp⟩
      rcases HC.out with e | ⟨b, rfl, hat⟩
      · rw [e] at hx; simp at hx
      have hcell : _ = some (Value.int .i64 (x : Int)) := hat j x hx
      have HS := Lib.hid (plc_step (k := k) hx)
      clear hat hx
      by_cases he : (x : Int) = k
      · have heq : ((x : Int) == k) = true := by simp [he]
        have HE := Lib.hid he
        clear he
        go_wp2_with fail
        go_ret
        exact ⟨ret_int (by rw [HP.out, HS.out, if_pos HE.out]), HK.out⟩
      · have heq : ((x : Int) == k) = false := by simp [he]
        have HE := Lib.hid he
        clear he
        go_wp2_with fail
        go_roundw
        case rel => exact ⟨j + 1, hlt, by go_num, by rw [HP.out, HS.out, if_neg HE.out], trivial⟩
        case measure => simp [intOf]; omega
    · have hfin : plc (row.drop j) k j = -1 := by rw [List.drop_of_length_le (by have := HN.out; omega)]; rfl
      have HF := Lib.hid (HP.out.trans hfin)
      clear hfin
      go_wp2_with fail
      go_ret
      exact ⟨ret_int HF.out.symm, HK.out⟩
end
end Go.Proofs.Ytpjfpmagmclldaa
