/- Whatever is called, TallyPlays returns true, and writes nothing that was there. -/
import Derived.Test.YtjnknbegapofiaaNAwake
import Derived.Test.YtjnknbegapofiaaNKeysS
import Derived.Test.YtjnknbegapofiaaNRefK
import Derived.Test.YtjnknbegapofiaaNOpen
import Derived.BigRegion
namespace Go.Proofs.Ytjnknbegapofiaa
set_option maxRecDepth 100000
open Go.RowKit Go.Maps

section
variable {w wr w' : World} {B p : Nat} {m v : Value} {l x : List ByteArray}
/-- The document's list and the tally lie apart. -/
theorem apart (ht : Tals wr B p m l) (hr : Row wr w.heap.size v x) {k : Nat} (hk : v.ownBlock = some k) : ¬ TFoot p m k := by
  obtain ⟨cur, hb⟩ := hr.block hk
  exact ht.other hb (by decide)
theorem Row.keptT (hr : Row wr w.heap.size v x) (ht : Tals wr B p m l) (hk : Kept (TFoot p m) wr w') : Row w' w.heap.size v x := hk.row hr (fun _ e => apart ht hr e)
/-- One name more, and what stays. -/
theorem Row.push2 {n cap : Nat} {a : Option Addr} (hk : Kept Nil w wr) (h : Row wr w.heap.size (.slice a n cap) l) (hn : n = l.length) (hl : l.length ≤ 5000) (s : ByteArray) :
    ∃ a' cap' w', (Builtin.append_ #[26, 26] 26 #[.slice a n cap, .slice (some ⟨wr.heap.size, 0, none⟩) 1 1]).run Try.prog (wr.alloc (.cells #[.string s] 9)) = .ok (.slice a' (n + 1) cap') w' ∧
      Row w' w.heap.size (.slice a' (n + 1) cap') (l ++ [s]) ∧ Kept Nil w w' ∧ Kept (fun k => (Value.slice a n cap).ownBlock = some k) wr w' := by
  subst hn
  have h1 : Row (wr.alloc (.cells #[.string s] 9)) w.heap.size (.slice a l.length cap) l := h.keptN ((Kept.refl _ _).alloc _)
  obtain ⟨v', w', r, o, k, _⟩ := append_any elsS 26 h1 (At.lit wr 9 #[.string s] [.string s] rfl) rfl (fun y hy => by simp at hy; subst hy; rfl) (by omega) (by simp; have := hk.size; omega)
  have o2 : Row w' w.heap.size v' (l ++ [s]) := by simpa [Row] using o
  obtain ⟨a', cap', e⟩ := o2.shape
  rw [List.length_append] at e
  subst e
  exact ⟨a', cap', w', r, o2, (hk.alloc _).trans k (fun i hi e => absurd (h.lt i e).1 (Nat.not_le.2 hi)), ((Kept.refl _ _).alloc _).trans k (fun _ _ e => e)⟩
/-- What stands at the head of each round. -/
structure Play (w wr : World) (p j n : Nat) (m : Value) (a : Option Addr) (c : Nat) (l : List ByteArray) : Prop where
  row : Row wr w.heap.size (.slice a n c) l
  len : n = l.length
  few : n ≤ j
  tal : Tals wr w.heap.size p m l
  kept : Kept Nil w wr
theorem TGrew.outer (hk : Kept Nil w wr) (ht : Tals wr w.heap.size p m l) (g : TGrews wr w' w.heap.size p m x) : (∃ m', Tals w' w.heap.size p m' x) ∧ Kept Nil w w' := TGrew.fresh hk ht g
end

set_option maxHeartbeats 8000000 in
theorem tallyPlays_any (a : Option Addr) (n c : Nat) (l : List (Bool × ByteArray)) (w : World) (h : In cO 2 w a n l) (ho : ∀ x ∈ l, x.2.size ≤ maxLen) (hm : n ≤ maxLen) :
    Calls Try.prog 3 #[.slice a n c] w fun e w' => e = .returned (.bool true) ∧ Kept Nil w w' := by
  obtain ⟨hlen, hat⟩ := h
  have HL := Lib.hid hlen
  have HAt := Lib.hid hat
  have HO := Lib.hid ho
  unfold maxLen at hm
  clear hlen hat ho
  by_cases hbig : 100 < n
  · have hd : decide (100 < (n : Int)) = true := decide_eq_true (by omega)
    go_enter Try.func3, Try.ntmps3
    go_wp2_with fail
    refine (new_s _).mono ?_
    rintro e w1 ⟨rfl, t1, k1⟩
    have K1 := Lib.hid k1
    clear t1 k1
    go_wp2_with fail
    refine (awake_any _).mono ?_
    rintro e w2 ⟨rfl, k2⟩
    go_wp2_with fail
    go_ret
    exact ⟨rfl, K1.out.trans k2 (fun _ _ g => g)⟩
  have hd : decide (100 < (n : Int)) = false := decide_eq_false (by omega)
  have hn : n ≤ 100 := by omega
  clear hbig
  go_enter Try.func3, Try.ntmps3
  go_wp2_with fail
  refine (new_s _).mono ?_
  rintro e w1 ⟨rfl, t1, k1⟩
  have T1 := Lib.hid t1
  have K1 := Lib.hid k1
  clear t1 k1
  go_wp2_with fail
  go_loopw [4, 28] (fun v i wr => ∃ (j q : Nat) (m : Value) (a' : Option Addr) (c' : Nat) (x : List ByteArray), j ≤ n ∧ i = .int .i64 j ∧ v = .slice a' q c' ∧ Play w wr w.heap.size j q m a' c' x) (fun _ i _ => n - (intOf i).toNat)
  case atStart => exact ⟨0, 0, _, none, 0, [], Nat.zero_le _, rfl, rfl, Row.nil _ _, rfl, Nat.le_refl _, T1.out, K1.out⟩
  case round =>
    clear T1 K1
    obtain ⟨j, q, m, a', c', x, hj, rfl, rfl, hP⟩ := hrel
    have HP := Lib.hid hP
    have hq := hP.few
    clear hP
    by_cases hlt : j < n
    · obtain ⟨⟨gone, s⟩, hx⟩ : ∃ o, l[j]? = some o := ⟨l[j]'(by have := HL.out; omega), by simp⟩
      rcases HAt.out with h0 | ⟨b, off, e, hb, hc⟩
      · omega
      subst e
      have hwb : b < wr.heap.size := Nat.lt_of_lt_of_le hb HP.out.kept.size
      have hcell0 : wr.cell? ⟨b, off + j * 2, none⟩ = some (.bool gone) := (HP.out.kept.cell (p := ⟨b, off + j * 2, none⟩) hb (fun g => g)).trans (by have := hc j _ 0 _ hx rfl; simpa using this)
      have hcell1 : wr.cell? ⟨b, off + j * 2 + 1, none⟩ = some (.string s) := (HP.out.kept.cell (p := ⟨b, off + j * 2 + 1, none⟩) hb (fun g => g)).trans (by have := hc j _ 1 _ hx rfl; simpa using this)
      have hok : KS.ok s := HO.out _ (List.mem_of_getElem? hx)
      clear hc hx
      go_wp2_with fail
      clear hcell0 hcell1
      have kb : Kept Nil wr (wr.alloc (.cells #[.bool gone, .string s] 28)) := (Kept.refl _ _).alloc _
      have b0 : (wr.alloc (.cells #[.bool gone, .string s] 28)).cell? ⟨wr.heap.size, 0, none⟩ = some (.bool gone) := by go_simp
      have b1 : (wr.alloc (.cells #[.bool gone, .string s] 28)).cell? ⟨wr.heap.size, 1, none⟩ = some (.string s) := by go_simp
      have HRow := Lib.hid (HP.out.row.keptN kb)
      have HT := Lib.hid (HP.out.tal.keptN kb)
      have HK := Lib.hid (HP.out.kept.trans kb (fun _ _ e => e))
      have HLen := Lib.hid HP.out.len
      have HF : Hid (∀ k, TFoot w.heap.size m k → k ≠ wr.heap.size) := fun k hf e => by have := (HP.out.tal.foot hf).2; omega
      have HRB : Hid (∀ k, (Value.slice a' q c').ownBlock = some k → k ≠ wr.heap.size) := fun k hf e => by have := (HP.out.row.lt k hf).2; omega
      have hx5 : x.length ≤ 1000 := by rw [← HP.out.len]; omega
      clear kb HP hwb
      generalize wr.alloc (.cells #[.bool gone, .string s] 28) = w2 at *
      generalize wr.heap.size = bo at *
      have hcr := refCount_any HRow.out (by omega) s
      have hct := count_s HT.out hok
      have hcl := cnt_le s x
      obtain ⟨t, ht⟩ : ∃ t, t = cnt s x := ⟨_, rfl⟩
      rw [← ht] at hcr hct hcl
      have HE := Lib.hid ht
      have CR := Lib.hid hcr
      have CT := Lib.hid hct
      clear hcr hct ht
      refine CR.out.mono ?_
      rintro e w3 ⟨rfl, rfl⟩
      go_wp2_with fail
      refine CT.out.mono ?_
      rintro e w3 ⟨rfl, rfl⟩
      clear CR CT
      cases gone with
      | true =>
        by_cases ht0 : t = 0
        · subst ht0
          have hno : s ∉ x := cnt_zero.1 HE.out.symm
          have HD := Lib.hid (drp_not hno)
          clear hno
          go_wp2_with fail
          refine (drop_none_s HT.out hok HE.out.symm).mono ?_
          rintro e w4 ⟨rfl, rfl⟩
          go_wp2_with fail
          refine (refDrop_any HRow.out (by omega) s).mono ?_
          rintro e w5 ⟨v5, rfl, r5, k5⟩
          obtain ⟨a5, c5, rfl⟩ := r5.shape
          have HP5 : Hid (Play w w5 w.heap.size (j + 1) (drp s x).length m a5 c5 (drp s x)) := ⟨r5.down HK.out.size, rfl, by have := drp_le s x; have := HLen.out; omega, by rw [HD.out]; exact HT.out.keptN k5, HK.out.trans k5 (fun _ _ e => e)⟩
          clear r5 k5
          generalize (drp s x).length = q5 at *
          go_wp2_with fail
          go_roundw
          case rel => exact ⟨j + 1, q5, m, a5, c5, _, hlt, by go_num, rfl, HP5.out⟩
          case measure => simp [intOf]; omega
        · have htp : 0 < cnt s x := by rw [← HE.out]; omega
          have HTP := Lib.hid htp
          have ht1 : 0 < t := by omega
          clear htp
          go_wp2_with fail
          refine (drop_some_s HT.out hok HTP.out).mono ?_
          rintro e w4 ⟨rfl, g4⟩
          rw [← HE.out]
          have HR4 := Lib.hid (HRow.out.keptT HT.out g4.choose_spec.2.2)
          have b14 : w4.cell? ⟨bo, 1, none⟩ = some (.string s) := (g4.choose_spec.2.2.cell (p := ⟨bo, 1, none⟩) (World.block_lt_of_cell? _ _ b1) (fun hf => HF.out _ hf rfl)).trans b1
          obtain ⟨⟨m4, t4⟩, k4⟩ := TGrew.outer HK.out HT.out g4
          have T4 := Lib.hid t4
          have K4 := Lib.hid k4
          clear t4 k4 g4 b0 b1 HRow HT HK
          go_wp2_with fail
          refine (refDrop_any HR4.out (by omega) s).mono ?_
          rintro e w5 ⟨v5, rfl, r5, k5⟩
          obtain ⟨a5, c5, rfl⟩ := r5.shape
          have HP5 : Hid (Play w w5 w.heap.size (j + 1) (drp s x).length m4 a5 c5 (drp s x)) := ⟨r5.down K4.out.size, rfl, by have := drp_le s x; have := HLen.out; omega, T4.out.keptN k5, K4.out.trans k5 (fun _ _ e => e)⟩
          clear r5 k5
          generalize (drp s x).length = q5 at *
          go_wp2_with fail
          go_roundw
          case rel => exact ⟨j + 1, q5, m4, a5, c5, _, hlt, by go_num, rfl, HP5.out⟩
          case measure => simp [intOf]; omega
      | false =>
        obtain ⟨a5, c5, w5, r5, o5, k5, f5⟩ := Row.push2 HK.out HRow.out HLen.out (by omega) s
        have R5 := Lib.hid r5
        have O5 := Lib.hid o5
        have K5 := Lib.hid k5
        have b15 : w5.cell? ⟨bo, 1, none⟩ = some (.string s) := (f5.cell (p := ⟨bo, 1, none⟩) (World.block_lt_of_cell? _ _ b1) (fun hf => HRB.out _ hf rfl)).trans b1
        have T5 := Lib.hid (HT.out.kept f5 (fun k hf e => apart HT.out HRow.out e hf))
        clear r5 o5 k5 f5
        go_wp2_with (at_builtin; refine wpList_append_run rfl (.tmp 79) (.tmp 82) 26 rfl _ _ rfl rfl R5.out ?_)
        refine (add_s T5.out (by omega) hok).mono ?_
        rintro e w6 ⟨rfl, g6⟩
        rw [← HE.out]
        have HR6 := Lib.hid (O5.out.keptT T5.out g6.choose_spec.2.2)
        obtain ⟨⟨m6, t6⟩, k6⟩ := TGrew.outer K5.out T5.out g6
        have HP6 : Hid (Play w w6 w.heap.size (j + 1) (q + 1) m6 a5 c5 (x ++ [s])) := ⟨HR6.out, by rw [List.length_append, ← HLen.out]; rfl, by omega, t6, k6⟩
        clear t6 k6 g6 b0 b1 b15
        go_wp2_with fail
        go_roundw
        case rel => exact ⟨j + 1, q + 1, m6, a5, c5, _, hlt, by go_num, rfl, HP6.out⟩
        case measure => simp [intOf]; omega
    · have hx5 : x.length ≤ 1000 := by rw [← HP.out.len]; omega
      go_wp2_with fail
      refine (keys_s HP.out.tal).mono ?_
      rintro e w2 ⟨v2, ss, rfl, r2, hrise, hmem, k2⟩
      have hss : ss = keysK x := rising_eq hrise (keysK_rising x) (fun y => (hmem y).trans keysK_mem.symm)
      subst hss
      have R2 := Lib.hid (r2.down HP.out.kept.size)
      have HRow := Lib.hid (HP.out.row.keptN k2)
      have HT := Lib.hid (HP.out.tal.keptN k2)
      have HK := Lib.hid (HP.out.kept.trans k2 (fun _ _ e => e))
      have HLen := Lib.hid HP.out.len
      clear r2 hrise hmem k2 HP
      go_wp2_with fail
      refine (refKeys_any HRow.out hx5).mono ?_
      rintro e w3 ⟨v3, rfl, r3, k3⟩
      have R3 := Lib.hid (r3.down HK.out.size)
      have R2' := Lib.hid (R2.out.keptN k3)
      have HT3 := Lib.hid (HT.out.keptN k3)
      have HK3 := Lib.hid (HK.out.trans k3 (fun _ _ e => e))
      clear r3 k3 R2 HRow HT HK
      obtain ⟨a2, c2, rfl⟩ := R2'.out.shape
      obtain ⟨a3, c3, rfl⟩ := R3.out.shape
      have hkl := keysK_len x
      obtain ⟨L, hL⟩ : ∃ L, L = (keysK x).length := ⟨_, rfl⟩
      have HLL := Lib.hid hL
      rw [← hL] at R2' R3 hkl
      rw [← hL]
      clear hL
      go_wp2_with fail
      refine (len_s HT3.out).mono ?_
      rintro e w4 ⟨⟨ks, hk1, hk2, rfl⟩, rfl⟩
      have hks : ks.length = L := by
        rw [HLL.out]
        exact Nat.le_antisymm (nodup_le hk1 (fun y hy => keysK_mem.2 ((hk2 y).1 hy))) (nodup_le (rising_nodup (keysK_rising x)) (fun y hy => (hk2 y).2 (keysK_mem.1 hy)))
      rw [hks]
      clear hk1 hk2 hks
      go_wp2_with fail
      refine (total_s HT3.out).mono ?_
      rintro e w4 ⟨rfl, rfl⟩
      rw [← HLen.out]
      go_wp2_with fail
      go_loopw [117] (fun i wr' => ∃ t : Nat, t ≤ L ∧ i = .int .i64 t ∧ Row wr' w.heap.size (.slice a2 L c2) (keysK x) ∧ Row wr' w.heap.size (.slice a3 L c3) (keysK x) ∧ Kept Nil w wr') (fun i _ => L - (intOf i).toNat)
      case atStart => exact ⟨0, Nat.zero_le _, rfl, R2'.out, R3.out, HK3.out⟩
      case round =>
        clear R2' R3 HK3 HT3
        obtain ⟨t, ht, rfl, h2, h3, hk⟩ := hrel
        have H2 := Lib.hid h2
        have H3 := Lib.hid h3
        have HK := Lib.hid hk
        clear h2 h3 hk
        by_cases htl : t < L
        · obtain ⟨y, hy⟩ : ∃ y, (keysK x)[t]? = some y := ⟨(keysK x)[t]'(by have := HLL.out; omega), by simp⟩
          obtain ⟨g2, rfl, e2⟩ := H2.out.name hy
          obtain ⟨g3, rfl, e3⟩ := H3.out.name hy
          have he := str_eq (rfl : y = y)
          clear hy
          go_wp2_with fail
          go_quiet (fail)
          go_wp2_with fail
          go_roundw
          case rel => exact ⟨t + 1, htl, by go_num, H2.out.keptN ((Kept.refl _ _).drewN _), H3.out.keptN ((Kept.refl _ _).drewN _), HK.out.drewN _⟩
          case measure => simp [intOf]; omega
        · go_wp2_with fail
          refine (awake_any _).mono ?_
          rintro e w5 ⟨rfl, k5⟩
          go_wp2_with fail
          go_ret
          exact ⟨rfl, HK.out.trans k5 (fun _ _ g => g)⟩
end Go.Proofs.Ytjnknbegapofiaa
