/- The reference's words: Words of retiaryref02. -/
import Derived.Test.YtkffcpjaciomjaaDoorKNumber
import Derived.Test.YtkffcpjaciomjaaDoorXSRow
namespace Go.Proofs.YtkffcpjaciomjaaDoor
open Go.RowKit

/-- A text's bytes from one place to another. -/
def piece (s : ByteArray) (i j : Nat) : List UInt8 := (s.extract i j).data.toList
theorem piece_eq (s : ByteArray) (i j : Nat) : piece s i j = (s.data.toList.take j).drop i := by
  unfold piece
  rw [ByteArray.data_extract, Array.toList_extract, List.extract_eq_take_drop, List.drop_take]
theorem piece_nil (s : ByteArray) (i : Nat) : piece s i i = [] := by rw [piece_eq]; simp
theorem piece_snoc (s : ByteArray) (i k : Nat) (hi : i ≤ k) (hk : k < s.size) : piece s i (k + 1) = piece s i k ++ [s[k]] := by
  rw [piece_eq, piece_eq, List.take_succ_eq_append_getElem (by simpa using hk), List.drop_append_of_le_length (by simp; omega)]
  rfl
theorem rest_cons (s : ByteArray) (k : Nat) (hk : k < s.size) : s.data.toList.drop k = s[k] :: s.data.toList.drop (k + 1) := List.drop_eq_getElem_cons (by simpa using hk)
theorem rest_nil (s : ByteArray) : s.data.toList.drop s.size = [] := List.drop_eq_nil_of_le (by simp)

abbrev L8 (l : List ByteArray) : List (List UInt8) := l.map (·.data.toList)
theorem L8_snoc (l : List ByteArray) (x : ByteArray) : L8 (l ++ [x]) = L8 l ++ [x.data.toList] := List.map_append
/-- What stands done, and what stands open, ahead of place k. -/
def WInv (s : ByteArray) (k : Nat) (done : List ByteArray) (st : Nat) : Prop :=
  done.length ≤ k ∧ ((k ≤ s.size ∧ st ≤ k ∧ L8 done ++ glue (piece s st k) (wl (s.data.toList.drop k)) = wl s.data.toList) ∨ (k = s.size + 1 ∧ L8 done = wl s.data.toList))
theorem WInv.start (s : ByteArray) : WInv s 0 [] 0 := ⟨Nat.le_refl _, .inl ⟨Nat.zero_le _, Nat.le_refl _, by rw [piece_nil, List.drop_zero, glue_nil]; rfl⟩⟩
theorem WInv.sign {s : ByteArray} {k st : Nat} {done : List ByteArray} (h : WInv s k done st) (hk : k < s.size) (hb : s[k].toNat ≠ 32) : WInv s (k + 1) done st := by
  obtain ⟨hl, ⟨a, b, c⟩ | ⟨a, _⟩⟩ := h
  · refine ⟨by omega, .inl ⟨hk, by omega, ?_⟩⟩
    rw [rest_cons s k hk, glue_sign _ _ _ (fun e => hb (by rw [e]; rfl))] at c
    rw [piece_snoc s st k b hk]
    exact c
  · omega
theorem WInv.blank {s : ByteArray} {k st : Nat} {done : List ByteArray} (h : WInv s k done st) (hk : k < s.size) (hb : s[k].toNat = 32) : WInv s (k + 1) (done ++ [s.extract st k]) (k + 1) := by
  obtain ⟨hl, ⟨a, b, c⟩ | ⟨a, _⟩⟩ := h
  · refine ⟨by simp; omega, .inl ⟨hk, Nat.le_refl _, ?_⟩⟩
    rw [rest_cons s k hk, show s[k] = 32 from UInt8.toNat_inj.1 hb, glue_blank] at c
    rw [piece_nil, glue_nil, L8_snoc, List.append_assoc]
    exact c
  · omega
theorem WInv.last {s : ByteArray} {st : Nat} {done : List ByteArray} (h : WInv s s.size done st) (st' : Nat) : WInv s (s.size + 1) (done ++ [s.extract st s.size]) st' := by
  obtain ⟨hl, ⟨a, b, c⟩ | ⟨a, _⟩⟩ := h
  · refine ⟨by simp; omega, .inr ⟨rfl, ?_⟩⟩
    rw [rest_nil, glue_end] at c
    rw [L8_snoc]
    exact c
  · omega
theorem WInv.fin {s : ByteArray} {st : Nat} {done : List ByteArray} (h : WInv s (s.size + 1) done st) : L8 done = wl s.data.toList := by
  obtain ⟨_, ⟨a, _⟩ | ⟨_, b⟩⟩ := h
  · omega
  · exact b
theorem WInv.le {s : ByteArray} {k st : Nat} {done : List ByteArray} (h : WInv s k done st) (hk : k ≤ s.size) : st ≤ k := by
  obtain ⟨_, ⟨_, b, _⟩ | ⟨a, _⟩⟩ := h <;> omega

def WordsEnd (s : ByteArray) (w : World) (e : Ending) (w' : World) : Prop := ∃ v ws, e = .returned v ∧ SRow w' w.heap.size v ws ∧ L8 ws = wl s.data.toList ∧ ws.length ≤ s.size + 1 ∧ Kept Nil w w'

set_option maxRecDepth 100000 in
set_option maxHeartbeats 2000000 in
theorem words_any (s : ByteArray) (hs : s.size ≤ 1000) (w : World) :
    Calls Tryd.prog 43 #[.string s] w (WordsEnd s w) := by
  go_enter Tryd.func43, Tryd.ntmps43
  go_wp2
  go_loopw [3, 4, 5] (fun v f i W => ∃ (k st : Nat) (done : List ByteArray), k ≤ s.size + 1 ∧ Hid (WInv s k done st) ∧ f = .int .i64 st ∧ i = .int .i64 k ∧ Hid (SRow W w.heap.size v done) ∧ Kept Nil w W) (fun _ _ i _ => s.size + 1 - (intOf i).toNat)
  case atStart => exact ⟨0, 0, [], Nat.zero_le _, WInv.start s, rfl, rfl, World.ownsRow_nil _ _ _ _, Kept.refl _ _⟩
  case round =>
    obtain ⟨k, st, done, hk, HI, rfl, rfl, HR, K⟩ := hrel
    have hl : done.length ≤ k := HI.out.1
    by_cases hlt : k < s.size
    · have hst := HI.out.le (by omega)
      by_cases hb : s[k].toNat = 32
      · obtain ⟨a, cap, hv⟩ := HR.out.shape
        subst hv
        obtain ⟨a2, cap2, w2, r2, o2, g2⟩ := append_one wr HR.out K.size (by omega) (s.extract st k)
        have HI2 := Lib.hid (HI.out.blank hlt hb)
        have hb1 : ((s[k].toNat : Int) == 32) = true := by rw [hb]; rfl
        have R2 := Lib.hid r2
        have O2 := Lib.hid o2
        have K2 := Lib.hid ((K.alloc _).grown g2 (fun j hj => .inr (HR.out.lt j hj).1))
        clear r2 o2 g2 hb
        go_wp2_with (at_builtin; refine wpList_append_run rfl (.tmp 22) (.tmp 27) 68 rfl _ _ rfl rfl R2.out ?_)
        go_roundw
        case rel => exact ⟨k + 1, k + 1, _, by omega, HI2, by go_num, by go_num, O2, K2.out⟩
        case measure => simp [intOf]; omega
      · have HI2 := Lib.hid (HI.out.sign hlt hb)
        have hb1 : ((s[k].toNat : Int) == 32) = false := by rw [beq_eq_false_iff_ne]; omega
        clear hb
        go_wp2_with fail
        go_roundw
        case rel => exact ⟨k + 1, st, _, by omega, HI2, rfl, by go_num, HR, K⟩
        case measure => simp [intOf]; omega
    · by_cases he : k = s.size
      · subst he
        have hst := HI.out.le (by omega)
        obtain ⟨a, cap, hv⟩ := HR.out.shape
        subst hv
        obtain ⟨a2, cap2, w2, r2, o2, g2⟩ := append_one wr HR.out K.size (by omega) (s.extract st s.size)
        have HI2 := Lib.hid (HI.out.last (s.size + 1))
        have R2 := Lib.hid r2
        have O2 := Lib.hid o2
        have K2 := Lib.hid ((K.alloc _).grown g2 (fun j hj => .inr (HR.out.lt j hj).1))
        clear r2 o2 g2
        go_wp2_with (at_builtin; refine wpList_append_run rfl (.tmp 22) (.tmp 27) 68 rfl _ _ rfl rfl R2.out ?_)
        go_roundw
        case rel => exact ⟨s.size + 1, s.size + 1, _, by omega, HI2, by go_num, by go_num, O2, K2.out⟩
        case measure => simp [intOf]
      · have he2 : k = s.size + 1 := by omega
        subst he2
        clear he
        go_wp2_with fail
        go_ret
        exact ⟨_, done, rfl, HR.out, HI.out.fin, by omega, K⟩
end Go.Proofs.YtkffcpjaciomjaaDoor
