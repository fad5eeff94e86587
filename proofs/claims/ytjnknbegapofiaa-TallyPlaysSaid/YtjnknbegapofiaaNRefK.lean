/- The document's own Keys. -/
import Derived.Test.YtjnknbegapofiaaNRef
namespace Go.Proofs.Ytjnknbegapofiaa
open Go.RowKit Go.Maps
set_option maxRecDepth 100000

theorem keysK_len (l : List ByteArray) : (keysK l).length ≤ l.length := nodup_le (rising_nodup (keysK_rising l)) (fun _ hk => keysK_mem.1 hk)
theorem keysK_step {l : List ByteArray} {j : Nat} {x : ByteArray} (h : l[j]? = some x) : keysK (l.take (j + 1)) = insK x (keysK (l.take j)) := by
  rw [List.take_add_one, h]
  show keysK (l.take j ++ [x]) = _
  unfold keysK
  rw [List.foldl_append]; rfl
theorem foldP_step {out : List ByteArray} {t : Nat} {x y : ByteArray} (h : out[t]? = some y) (s : List ByteArray × Bool) : (out.take (t + 1)).foldl (putK x) s = putK x ((out.take t).foldl (putK x) s) y := by
  rw [List.take_add_one, h]
  show (out.take t ++ [y]).foldl (putK x) s = _
  rw [List.foldl_append]; rfl
theorem leb_eq {x y : ByteArray} {b : Bool} (h : leb x y = b) : (Op.bytesLess x.toList y.toList || x.toList == y.toList) = b := h

/-- What the inner loop keeps: the fold so far, in a row behind the world w. -/
structure InnK (w wr : World) (x : ByteArray) (out : List ByteArray) (t m : Nat) (p : Bool) (a : Option Addr) (c : Nat) (nx : List ByteArray) : Prop where
  row : Row wr w.heap.size (.slice a m c) nx
  len : m = nx.length
  few : m ≤ t + t
  kept : Kept Nil w wr
  fold : (out.take t).foldl (putK x) ([], false) = (nx, p)

set_option maxHeartbeats 4000000 in
theorem refKeys_any {w : World} {B : Nat} {v : Value} {l : List ByteArray} (h : Row w B v l) (hl : l.length ≤ 1000) :
    Calls Try.prog 15 #[v] w fun e w' => ∃ v', e = .returned v' ∧ Row w' w.heap.size v' (keysK l) ∧ Kept Nil w w' := by
  obtain ⟨a, cap, rfl⟩ := h.shape
  have HR := Lib.hid h
  clear h
  obtain ⟨n, hn⟩ : ∃ n, n = l.length := ⟨_, rfl⟩
  have HN := Lib.hid hn
  rw [← hn] at HR hl ⊢
  clear hn
  go_enter Try.func15, Try.ntmps15
  go_wp2_with fail
  go_loopw [3, 12] (fun v i wr => ∃ (j m : Nat) (a' : Option Addr) (c' : Nat), j ≤ n ∧ m ≤ j ∧ m = (keysK (l.take j)).length ∧ i = .int .i64 j ∧ v = .slice a' m c' ∧
    Row wr w.heap.size (.slice a' m c') (keysK (l.take j)) ∧ Kept Nil w wr) (fun _ i _ => n - (intOf i).toNat)
  case atStart => exact ⟨0, 0, none, 0, Nat.zero_le _, Nat.le_refl _, rfl, rfl, rfl, Row.nil _ _, Kept.refl _ _⟩
  case round =>
    obtain ⟨j, m, a', c', hj, hm, hmo, rfl, rfl, hrow, hk⟩ := hrel
    rename World => wo
    have HRow := Lib.hid hrow
    have HK := Lib.hid hk
    have HM := Lib.hid hmo
    clear hrow hk hmo
    by_cases hlt : j < n
    · obtain ⟨x, hx⟩ : ∃ x, l[j]? = some x := ⟨l[j]'(by have := HN.out; omega), by simp⟩
      obtain ⟨g, rfl, hc⟩ := (HR.out.keptN HK.out).name hx
      have HX := Lib.hid (keysK_step hx)
      clear hx
      obtain ⟨out, ho⟩ : ∃ out, out = keysK (l.take j) := ⟨_, rfl⟩
      rw [← ho] at HRow HM HX
      clear ho
      go_wp2_with fail
      go_loopw [6, 7, 18] (fun v b i wr => ∃ (t q : Nat) (p : Bool) (a2 : Option Addr) (c2 : Nat) (nx : List ByteArray), t ≤ m ∧ i = .int .i64 t ∧ b = .bool p ∧ v = .slice a2 q c2 ∧ InnK wo wr x out t q p a2 c2 nx) (fun _ _ i _ => m - (intOf i).toNat)
      case atStart => exact ⟨0, 0, false, none, 0, [], Nat.zero_le _, rfl, rfl, rfl, Row.nil _ _, rfl, Nat.le_refl _, Kept.refl _ _, rfl⟩
      case round =>
        clear hc
        obtain ⟨t, q, p, a2, c2, nx, ht, rfl, rfl, rfl, hI⟩ := hrel
        have HI := Lib.hid hI
        have hq := hI.few
        clear hI
        by_cases htl : t < m
        · obtain ⟨y, hy⟩ : ∃ y, out[t]? = some y := ⟨out[t]'(by have := HM.out; omega), by simp⟩
          obtain ⟨g2, rfl, hcy⟩ := (HRow.out.keptN HI.out.kept).name hy
          have HF : Hid (∀ s, putK x (nx, p) y = s → (out.take (t + 1)).foldl (putK x) ([], false) = s) := fun s hs => by
            rw [foldP_step hy, HI.out.fold]; exact hs
          clear hy
          obtain ⟨ax, cx, wx, rx, ox, kx⟩ := Row.push HI.out.kept HI.out.row HI.out.len (by rw [← HI.out.len]; omega) x
          obtain ⟨ay, cy, wy, ry, oy, ky⟩ := Row.push HI.out.kept HI.out.row HI.out.len (by rw [← HI.out.len]; omega) y
          obtain ⟨az, cz, wz, rz, oz, kz⟩ := Row.push kx ox (by rw [List.length_append, ← HI.out.len]; rfl) (by rw [List.length_append, ← HI.out.len]; show q + 1 ≤ 5000; omega) y
          have RX := Lib.hid rx
          have RY := Lib.hid ry
          have RZ := Lib.hid rz
          have IX : Hid (∀ p', putK x (nx, p) y = (nx ++ [x], p') → InnK wo wx x out (t + 1) (q + 1) p' ax cx (nx ++ [x])) := fun p' hp => ⟨ox, by rw [List.length_append, ← HI.out.len]; rfl, by omega, kx, HF.out _ hp⟩
          have IY : Hid (∀ p', putK x (nx, p) y = (nx ++ [y], p') → InnK wo wy x out (t + 1) (q + 1) p' ay cy (nx ++ [y])) := fun p' hp => ⟨oy, by rw [List.length_append, ← HI.out.len]; rfl, by omega, ky, HF.out _ hp⟩
          have IZ : Hid (∀ p', putK x (nx, p) y = (nx ++ [x] ++ [y], p') → InnK wo wz x out (t + 1) (q + 1 + 1) p' az cz (nx ++ [x] ++ [y])) := fun p' hp => ⟨oz, by rw [List.length_append, List.length_append, ← HI.out.len]; rfl, by omega, kz, HF.out _ hp⟩
          have IN : Hid (∀ p', putK x (nx, p) y = (nx, p') → InnK wo wr x out (t + 1) q p' a2 c2 nx) := fun p' hp => ⟨HI.out.row, HI.out.len, by omega, HI.out.kept, HF.out _ hp⟩
          clear rx ry rz ox oy oz kx ky kz HF
          have hkx : w.heap.size ≤ wo.heap.size := HK.out.size
          by_cases hA : p = false ∧ leb x y = true
          · obtain ⟨rfl, hlb⟩ := hA
            have hb := leb_eq hlb
            by_cases hyx : y = x
            · have he := str_eq hyx
              have hlx : leb x x = true := leb_iff.2 (.inr rfl)
              have HP := Lib.hid (IX.out true (by simp [putK, hlx, hyx]))
              clear hyx hlb hlx
              go_wp2_with (at_builtin; refine wpList_append_run rfl (.tmp 29) (.tmp 31) 26 rfl _ _ rfl rfl RX.out ?_)
              go_roundw
              case rel => exact ⟨t + 1, q + 1, true, ax, cx, _, htl, by go_num, rfl, rfl, HP.out⟩
              case measure => simp [intOf]; omega
            · have he := str_ne hyx
              have HP := Lib.hid (IZ.out true (by simp [putK, hlb, hyx]))
              clear hyx hlb
              go_wp2_with (at_builtin; first | refine wpList_append_run rfl (.tmp 29) (.tmp 31) 26 rfl _ _ rfl rfl RX.out ?_ | refine wpList_append_run rfl (.tmp 36) (.tmp 38) 26 rfl _ _ rfl rfl RZ.out ?_)
              go_roundw
              case rel => exact ⟨t + 1, q + 1 + 1, true, az, cz, _, htl, by go_num, rfl, rfl, HP.out⟩
              case measure => simp [intOf]; omega
          · by_cases hyx : y = x
            · have hlb : leb x y = true := leb_iff.2 (.inr hyx.symm)
              obtain rfl : p = true := by cases p with
                | true => rfl
                | false => exact absurd ⟨rfl, hlb⟩ hA
              have he := str_eq hyx
              have HP := Lib.hid (IN.out true (by simp [putK, hyx]))
              clear hyx hlb hA
              go_wp2_with fail
              go_roundw
              case rel => exact ⟨t + 1, q, true, a2, c2, _, htl, by go_num, rfl, rfl, HP.out⟩
              case measure => simp [intOf]; omega
            · have he := str_ne hyx
              have HP := Lib.hid (IY.out p (by
                have : ¬ (p = false ∧ leb x y = true) := hA
                simp [putK, this, hyx]))
              clear hyx
              cases p with
              | true =>
                clear hA
                go_wp2_with (at_builtin; refine wpList_append_run rfl (.tmp 36) (.tmp 38) 26 rfl _ _ rfl rfl RY.out ?_)
                go_roundw
                case rel => exact ⟨t + 1, q + 1, true, ay, cy, _, htl, by go_num, rfl, rfl, HP.out⟩
                case measure => simp [intOf]; omega
              | false =>
                have hlb : leb x y = false := by
                  cases h : leb x y with
                  | false => rfl
                  | true => exact absurd ⟨rfl, h⟩ hA
                have hb := leb_eq hlb
                clear hA hlb
                go_wp2_with (at_builtin; refine wpList_append_run rfl (.tmp 36) (.tmp 38) 26 rfl _ _ rfl rfl RY.out ?_)
                go_roundw
                case rel => exact ⟨t + 1, q + 1, false, ay, cy, _, htl, by go_num, rfl, rfl, HP.out⟩
                case measure => simp [intOf]; omega
        · have HE : Hid (out.foldl (putK x) ([], false) = (nx, p)) := by
            have := HI.out.fold
            rwa [List.take_of_length_le (by have := HM.out; omega)] at this
          cases p with
          | true =>
            have HF : Hid (keysK (l.take (j + 1)) = nx) := by
              show _ = _
              rw [HX.out]; unfold insK; rw [HE.out]; rfl
            have hq2 : q ≤ j + 1 := by
              have := keysK_len (l.take (j + 1))
              rw [HF.out, ← HI.out.len, List.length_take] at this
              omega
            go_wp2_with fail
            go_roundw
            case rel => exact ⟨j + 1, q, a2, c2, hlt, hq2, by rw [HF.out]; exact HI.out.len, by go_num, rfl, by rw [HF.out]; exact HI.out.row.down HK.out.size, HK.out.trans HI.out.kept (fun _ _ e => e)⟩
            case measure => simp [intOf]; omega
          | false =>
            have HF : Hid (keysK (l.take (j + 1)) = nx ++ [x]) := by
              show _ = _
              rw [HX.out]; unfold insK; rw [HE.out]; rfl
            have hq2 : q + 1 ≤ j + 1 := by
              have := keysK_len (l.take (j + 1))
              rw [HF.out, List.length_append, ← HI.out.len, List.length_take] at this
              simp only [List.length_singleton] at this
              omega
            obtain ⟨ax, cx, wx, rx, ox, kx⟩ := Row.push HI.out.kept HI.out.row HI.out.len (by rw [← HI.out.len]; omega) x
            have RX := Lib.hid rx
            have OX := Lib.hid ox
            have KX := Lib.hid kx
            clear rx ox kx
            go_wp2_with (at_builtin; refine wpList_append_run rfl (.tmp 43) (.tmp 45) 26 rfl _ _ rfl rfl RX.out ?_)
            go_roundw
            case rel => exact ⟨j + 1, q + 1, ax, cx, hlt, hq2, by rw [HF.out, List.length_append, ← HI.out.len]; rfl, by go_num, rfl, by rw [HF.out]; exact OX.out.down HK.out.size, HK.out.trans KX.out (fun _ _ e => e)⟩
            case measure => simp [intOf]; omega
    · have HE : Hid (keysK (l.take j) = keysK l) := by
        show _ = _
        rw [List.take_of_length_le (by have := HN.out; omega)]
      go_wp2_with fail
      go_ret
      exact ⟨_, rfl, by rw [← HE.out]; exact HRow.out, HK.out⟩
end Go.Proofs.Ytjnknbegapofiaa
