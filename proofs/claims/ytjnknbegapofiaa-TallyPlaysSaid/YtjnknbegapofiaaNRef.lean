/- The document's own lists of names: Count and Drop of retiaryref10; compare. -/
import Derived.Test.YtjnknbegapofiaaNOrder
import Derived.Test.YtjnknbegapofiaaNKeys
namespace Go.Proofs.Ytjnknbegapofiaa
open Go.RowKit Go.Maps
set_option maxRecDepth 100000

theorem Try.infoStr : (Try.prog.info? 9).map (fun i => (i.zero, i.size, i.bytes)) = some (some (.string .empty), 1, 16) := by kernel_rfl
theorem elsS : Els Try.prog 26 9 1 := Els.of Try.underlying26 Try.infoStr rfl (by decide) (by decide)
theorem str_eq {x s : ByteArray} (h : x = s) : (x.toList == s.toList) = true := by rw [h]; exact beq_self_eq_true _
theorem str_ne {x s : ByteArray} (h : x ≠ s) : (x.toList == s.toList) = false := by
  rw [beq_eq_false_iff_ne]
  exact fun e => h (toList_inj e)

/-- A list of names in a row of its own. -/
def Row (w : World) (B : Nat) (v : Value) (l : List ByteArray) : Prop := w.ownsRow B 9 1 v l.length (l.map .string)
section
variable {w w' : World} {B : Nat} {v : Value} {l : List ByteArray}
theorem Row.shape (h : Row w B v l) : ∃ a cap, v = .slice a l.length cap := by
  rcases h.2 with ⟨e, e0⟩ | ⟨g, cap, cur, e, _⟩
  · exact ⟨none, 0, by rw [e, e0]⟩
  · exact ⟨_, _, e⟩
theorem Row.name {n cap : Nat} {a : Option Addr} (h : Row w B (.slice a n cap) l) {i : Nat} {s : ByteArray} (hi : l[i]? = some s) : ∃ g, a = some ⟨g, 0, none⟩ ∧ w.cell? ⟨g, i, none⟩ = some (.string s) := by
  rcases h.2 with ⟨_, e0⟩ | ⟨g, cap, cur, e, _, hg, hl, _, hs, ht⟩
  · rw [List.length_eq_zero_iff.1 e0] at hi; cases hi
  · cases e
    refine ⟨g, rfl, ?_⟩
    have := h.cells (g := g) rfl i (.string s) (by simp [hi])
    rw [show (⟨g, 0, none⟩ : Addr).add i = ⟨g, i, none⟩ from by unfold Addr.add; split <;> simp_all] at this
    exact this
theorem Row.nil (w : World) (B : Nat) : Row w B (.slice none 0 0) [] := World.ownsRow_nil _ _ _ _
theorem Row.keptN (h : Row w B v l) (k : Kept Nil w w') : Row w' B v l := k.row h (fun _ _ g => g)
theorem Row.down {B' : Nat} (h : Row w B v l) (hB : B' ≤ B) : Row w B' v l := by
  refine ⟨h.1, ?_⟩
  rcases h.2 with e | ⟨g, cap, cur, e, hb, rest⟩
  · exact .inl e
  · exact .inr ⟨g, cap, cur, e, Nat.le_trans hB hb, rest⟩
theorem Row.block (h : Row w B v l) {k : Nat} (hk : v.ownBlock = some k) : ∃ cur, w.heap[k]? = some (.cells cur 9 (0, 0)) := by
  rcases h.2 with ⟨rfl, _⟩ | ⟨g, cap, cur, rfl, _, hg, _⟩
  · cases hk
  · cases hk; exact ⟨cur, hg⟩
/-- One name more. -/
theorem Row.push {wr : World} {n cap : Nat} {a : Option Addr} (hk : Kept Nil w wr) (h : Row wr w.heap.size (.slice a n cap) l) (hn : n = l.length) (hl : l.length ≤ 5000) (s : ByteArray) :
    ∃ a' cap' w', (Builtin.append_ #[26, 26] 26 #[.slice a n cap, .slice (some ⟨wr.heap.size, 0, none⟩) 1 1]).run Try.prog (wr.alloc (.cells #[.string s] 9)) = .ok (.slice a' (n + 1) cap') w' ∧
      Row w' w.heap.size (.slice a' (n + 1) cap') (l ++ [s]) ∧ Kept Nil w w' := by
  subst hn
  have h1 : Row (wr.alloc (.cells #[.string s] 9)) w.heap.size (.slice a l.length cap) l := h.keptN ((Kept.refl _ _).alloc _)
  obtain ⟨v', w', r, o, k, _⟩ := append_any elsS 26 h1 (At.lit wr 9 #[.string s] [.string s] rfl) rfl (fun y hy => by simp at hy; subst hy; rfl) (by omega) (by simp; have := hk.size; omega)
  have o2 : Row w' w.heap.size v' (l ++ [s]) := by simpa [Row] using o
  obtain ⟨a', cap', e⟩ := o2.shape
  rw [List.length_append] at e
  subst e
  exact ⟨a', cap', w', r, o2, (hk.alloc _).trans k (fun i hi e => absurd (h.lt i e).1 (Nat.not_le.2 hi))⟩
end

set_option maxHeartbeats 1000000 in
theorem refCount_any {w : World} {B : Nat} {v : Value} {l : List ByteArray} (h : Row w B v l) (hl : l.length ≤ 5000) (s : ByteArray) :
    Calls Try.prog 8 #[v, .string s] w fun e w' => e = .returned (.int .i64 (cnt s l)) ∧ w = w' := by
  obtain ⟨a, cap, rfl⟩ := h.shape
  have HR := Lib.hid h
  clear h
  obtain ⟨n, hn⟩ : ∃ n, n = l.length := ⟨_, rfl⟩
  have HN := Lib.hid hn
  rw [← hn] at HR hl ⊢
  clear hn
  go_enter Try.func8, Try.ntmps8
  go_wp2
  go_loop [5, 10] (fun q i => ∃ j : Nat, j ≤ n ∧ i = .int .i64 j ∧ q = .int .i64 (cnt s (l.take j))) (fun _ i => n - (intOf i).toNat)
  case atStart => exact ⟨0, Nat.zero_le _, rfl, rfl⟩
  case round =>
    obtain ⟨j, hj, rfl, rfl⟩ := hrel
    have hcq : cnt s (l.take j) ≤ j := by
      have h1 := cnt_le s (l.take j)
      rw [List.length_take] at h1
      omega
    obtain ⟨q, hq⟩ : ∃ q, q = cnt s (l.take j) := ⟨_, rfl⟩
    have HQ := Lib.hid hq
    rw [← hq] at hcq ⊢
    clear hq
    by_cases hlt : j < n
    · obtain ⟨x, hx⟩ : ∃ x, l[j]? = some x := ⟨l[j]'(by have := HN.out; omega), by simp⟩
      obtain ⟨g, rfl, hc⟩ := HR.out.name hx
      have HS : Hid (cnt s (l.take (j + 1)) = q + if x = s then 1 else 0) := by
        show cnt s (l.take (j + 1)) = _
        rw [List.take_add_one, hx, HQ.out]
        show cnt s (l.take j ++ [x]) = _
        split
        · rename_i e; rw [e, cnt_snoc_same]
        · rename_i e; rw [cnt_snoc_other e]; rfl
      clear hx
      by_cases hs : x = s
      · rw [if_pos hs] at HS
        have hb := str_eq hs
        clear hs
        go_wp2
        go_round
        case rel => exact ⟨j + 1, hlt, by go_num, by rw [HS.out]; go_num⟩
        case measure => simp [intOf]; omega
      · rw [if_neg hs] at HS
        have hb := str_ne hs
        clear hs
        go_wp2
        go_round
        case rel => exact ⟨j + 1, hlt, by go_num, by rw [HS.out]; rfl⟩
        case measure => simp [intOf]; omega
    · have HE : Hid (cnt s l = q) := by
        show cnt s l = q
        rw [HQ.out, List.take_of_length_le (by have := HN.out; omega)]
      go_wp2
      go_ret
      exact ⟨ret_int (by rw [HE.out]), rfl⟩

set_option maxHeartbeats 2000000 in
theorem refDrop_any {w : World} {B : Nat} {v : Value} {l : List ByteArray} (h : Row w B v l) (hl : l.length ≤ 4000) (s : ByteArray) :
    Calls Try.prog 11 #[v, .string s] w fun e w' => ∃ v', e = .returned v' ∧ Row w' w.heap.size v' (drp s l) ∧ Kept Nil w w' := by
  obtain ⟨a, cap, rfl⟩ := h.shape
  have HR := Lib.hid h
  clear h
  obtain ⟨n, hn⟩ : ∃ n, n = l.length := ⟨_, rfl⟩
  have HN := Lib.hid hn
  rw [← hn] at HR hl ⊢
  clear hn
  go_enter Try.func11, Try.ntmps11
  go_wp2_with fail
  go_loopw [5, 6, 11] (fun v b i wr => ∃ (j m : Nat) (gone : Bool) (out : List ByteArray) (a' : Option Addr) (c' : Nat), j ≤ n ∧ m ≤ j ∧ m = out.length ∧ i = .int .i64 j ∧ b = .bool gone ∧ v = .slice a' m c' ∧
    Row wr w.heap.size (.slice a' m c') out ∧ Kept Nil w wr ∧ out ++ (if gone then l.drop j else drp s (l.drop j)) = drp s l) (fun _ _ i _ => n - (intOf i).toNat)
  case atStart => exact ⟨0, 0, false, [], none, 0, Nat.zero_le _, Nat.le_refl _, rfl, rfl, rfl, rfl, Row.nil _ _, Kept.refl _ _, rfl⟩
  case round =>
    obtain ⟨j, m, gone, out, a', c', hj, hm, hmo, rfl, rfl, rfl, hrow, hk, hout⟩ := hrel
    have HRow := Lib.hid hrow
    have HK := Lib.hid hk
    have HOut := Lib.hid hout
    have HM := Lib.hid hmo
    clear hrow hk hout hmo
    by_cases hlt : j < n
    · obtain ⟨x, hx⟩ : ∃ x, l[j]? = some x := ⟨l[j]'(by have := HN.out; omega), by simp⟩
      obtain ⟨g, rfl, hc⟩ := (HR.out.keptN HK.out).name hx
      have HD : Hid (l.drop j = x :: l.drop (j + 1)) := by
        show l.drop j = _
        rw [List.drop_eq_getElem_cons (List.getElem?_eq_some_iff.1 hx).1, (List.getElem?_eq_some_iff.1 hx).2]
      clear hx
      rw [HD.out] at HOut
      by_cases hgo : x = s ∧ gone = false
      · obtain ⟨hs, rfl⟩ := hgo
        have hb := str_eq hs
        have HOut2 : Hid (out ++ (if true = true then l.drop (j + 1) else drp s (l.drop (j + 1))) = drp s l) := by
          have := HOut.out
          rw [if_neg (by decide), drp, if_pos hs] at this
          exact this
        clear hs HOut
        go_wp2_with fail
        go_roundw
        case rel => exact ⟨j + 1, m, true, out, a', c', hlt, by omega, HM.out, by go_num, rfl, rfl, HRow.out, HK.out, HOut2.out⟩
        case measure => simp [intOf]; omega
      · obtain ⟨a2, c2, w2, r2, o2, k2⟩ := Row.push HK.out HRow.out HM.out (by rw [← HM.out]; omega) x
        have R2 := Lib.hid r2
        have O2 := Lib.hid o2
        have K2 := Lib.hid k2
        have HOut2 : Hid ((out ++ [x]) ++ (if gone = true then l.drop (j + 1) else drp s (l.drop (j + 1))) = drp s l) := by
          have := HOut.out
          show _ = _
          rw [← this]
          cases gone with
          | true => simp
          | false =>
            rw [if_neg (by decide), if_neg (by decide), drp, if_neg (fun e => hgo ⟨e, rfl⟩)]
            simp
        have HM2 : Hid (m + 1 = (out ++ [x]).length) := by
          show _ = _
          rw [List.length_append, HM.out]; rfl
        clear r2 o2 k2 HOut
        by_cases hs : x = s
        · obtain rfl : gone = true := by cases gone with
            | true => rfl
            | false => exact absurd ⟨hs, rfl⟩ hgo
          have hb := str_eq hs
          clear hs hgo
          go_wp2_with (at_builtin; refine wpList_append_run rfl (.tmp 22) (.tmp 24) 26 rfl _ _ rfl rfl R2.out ?_)
          go_roundw
          case rel => exact ⟨j + 1, m + 1, true, out ++ [x], a2, c2, hlt, by omega, HM2.out, by go_num, rfl, rfl, O2.out, K2.out, HOut2.out⟩
          case measure => simp [intOf]; omega
        · have hb := str_ne hs
          clear hs hgo
          go_wp2_with (at_builtin; refine wpList_append_run rfl (.tmp 22) (.tmp 24) 26 rfl _ _ rfl rfl R2.out ?_)
          go_roundw
          case rel => exact ⟨j + 1, m + 1, gone, out ++ [x], a2, c2, hlt, by omega, HM2.out, by go_num, rfl, rfl, O2.out, K2.out, HOut2.out⟩
          case measure => simp [intOf]; omega
    · have HE : Hid (out = drp s l) := by
        show out = _
        have := HOut.out
        rw [List.drop_of_length_le (by have := HN.out; omega)] at this
        rw [← this]
        cases gone <;> simp [drp]
      go_wp2_with fail
      go_ret
      exact ⟨_, rfl, by rw [← HE.out]; exact HRow.out, HK.out⟩
end Go.Proofs.Ytjnknbegapofiaa
