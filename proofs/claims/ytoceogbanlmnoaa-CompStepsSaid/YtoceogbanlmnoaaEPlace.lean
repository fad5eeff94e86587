/- Layer scope: where a variable is bound, as the program looks for it. -/
import Derived.Test.YtoceogbanlmnoaaEIndex
namespace Go.Proofs.Ytoceogbanlmnoaa
open Go.RowKit
set_option maxRecDepth 100000

def hitF (h : Hd) (v : Int) : Int := first3 (decide (true = h.x0 ∧ v = h.n0)) (decide (true = h.x1 ∧ v = h.n1)) (decide (true = h.x2 ∧ v = h.n2))
/-- The first place of a variable: in which of the Pos, in which field. -/
def fpL : List Sh → Int → Nat → Option (Nat × Int)
  | [], _, _ => none
  | s :: r, v, back => if s.hd.k = 1 then (if 0 ≤ hitF s.hd v then some (back, hitF s.hd v) else fpL r v (back + 1)) else fpL r v back
theorem fpL_drop {l : List Sh} {j : Nat} {x : Sh} (h : l[j]? = some x) (v : Int) (back : Nat) : fpL (l.drop j) v back = if x.hd.k = 1 then (if 0 ≤ hitF x.hd v then some (back, hitF x.hd v) else fpL (l.drop (j + 1)) v (back + 1)) else fpL (l.drop (j + 1)) v back := by
  obtain ⟨hl, e⟩ := List.getElem?_eq_some_iff.1 h
  rw [List.drop_eq_getElem_cons hl, e]
  rfl
theorem hitF_le (h : Hd) (v : Int) : hitF h v ≤ 2 ∧ -1 ≤ hitF h v := by
  unfold hitF first3
  split
  · omega
  · split
    · omega
    · split <;> omega
def plV (v : Int) : Option (Nat × Int) → Value
  | none => .agg #[.int .i64 0, .int .i64 0, .int .i64 0]
  | some (b, f) => .agg #[.int .i64 v, .int .i64 (b : Int), .int .i64 f]
abbrev zP : Array Value := #[.int .i64 0, .int .i64 0, .int .i64 0]
/-- The class of worlds in which a condition's block is as it was laid. -/
def CS1 (w : World) (G : Nat) (cs : Array Value) (W : World) : Prop := Blk W G 27 cs ∧ Kept Nil w W
theorem CS1.step {w : World} {G : Nat} {cs : Array Value} (W W' : World) (h : CS1 w G cs W) (k : Kept Nil W W') : CS1 w G cs W' := ⟨h.1.kept k id, h.2.trans k (fun _ _ g => g)⟩
theorem results_pair {fn : Func} {p q : Tmp} {ty t : TypeId} {fs : Array Field} {cs : Array Value} (h : fn.results = #[.cell p ty, .tmp q]) (tmps : Array Value) (w : World) (g : Nat) (v : Value)
    (hp : tmps.getD p undef = .pointer (some ⟨g, 0, none⟩)) (hq : tmps.getD q undef = v) (hg : Blk w g t cs) (hu : Try.prog.underlying ty = some (.struct fs)) (hi : (Try.prog.info? ty).map (·.size) = some cs.size) :
    (results fn tmps).run Try.prog w = .ok (.tuple #[.agg cs, v]) w := by
  have hp' : tmps[p]?.getD undef = .pointer (some ⟨g, 0, none⟩) := by simpa using hp
  have hq' : tmps[q]?.getD undef = v := by simpa using hq
  have hr := run_loadVar_row (P := Try.prog) w g _ _ _ _ _ hg hu rfl hi
  simp [results, h, hp', hq', asAddr, hr]
def FpEnd (l : List Sh) (v : Int) (w : World) (e : Ending) (w' : World) : Prop := e = .returned (.tuple #[plV v (fpL l v 0), .bool (fpL l v 0).isSome]) ∧ Kept Nil w w'
set_option maxHeartbeats 4000000 in
theorem firstPlace_any (l : List Sh) (hc : l.length ≤ 100) (v : Int) (ok : Nat → Nat → Prop) (a : Option Addr) (cap : Nat) (w : World) (h : Holds cA w ok (.slice a l.length cap) l) :
    Calls Try.prog 69 #[.slice a l.length cap, .int .i64 v] w (FpEnd l v w) := by
  obtain ⟨len, hlen⟩ : ∃ n, l.length = n := ⟨_, rfl⟩
  have HH := Lib.hid h
  rw [hlen] at HH hc ⊢
  have HL := Lib.hid hlen
  have CV := Lib.hid (fun W => termVar_any v W)
  have CI := Lib.hid (fun k x0 x1 x2 n0 n1 n2 u G W hb => index3_any k x0 x1 x2 n0 n1 n2 u v G W hb)
  have P0 := Lib.hid (Blk.new w 102 zP)
  have K0 := Lib.hid ((Kept.refl Nil w).alloc (.cells zP 102))
  clear h hlen
  go_enter Try.func69, Try.ntmps69
  go_wp2_with fail
  go_loopw [6, 12] (fun bk i wr => ∃ j m : Nat, j ≤ len ∧ m ≤ j ∧ i = .int .i64 j ∧ bk = .int .i64 m ∧ fpL l v 0 = fpL (l.drop j) v m ∧ Blk wr w.heap.size 102 zP ∧ Kept Nil w wr) (fun _ i _ => len - (intOf i).toNat)
  case atStart => exact ⟨0, 0, by omega, by omega, rfl, rfl, rfl, P0.out, K0.out⟩
  case round =>
    obtain ⟨j, m, hj, hm, rfl, rfl, hf, hP, hK⟩ := hrel
    have HF := Lib.hid hf
    have HP := Lib.hid hP
    have HK := Lib.hid hK
    clear hf hP hK P0 K0
    by_cases hlt : j < len
    · obtain ⟨⟨⟨k', x0', x1', x2', n0', n1', n2'⟩, sb⟩, hx⟩ : ∃ x, l[j]? = some x := ⟨_, List.getElem?_eq_getElem (by have := HL.out; omega)⟩
      obtain ⟨b, o, a', cap', rfl, hok, hr, hs⟩ := (HH.out.keptN HK.out).at_ hx
      have HRng := Lib.hid hr
      have HD : Hid (fpL (l.drop j) v m = if k' = 1 then (if 0 ≤ hitF ⟨k', x0', x1', x2', n0', n1', n2'⟩ v then some (m, hitF ⟨k', x0', x1', x2', n0', n1', n2'⟩ v) else fpL (l.drop (j + 1)) v (m + 1)) else fpL (l.drop (j + 1)) v m) := Lib.hid (fpL_drop hx v m)
      generalize sb.length = len' at HRng
      clear hx hr hs hok
      have BY := Lib.hid (Blk.new wr 27 (arr8 ⟨k', x0', x1', x2', n0', n1', n2'⟩ (.slice a' len' cap')))
      have KY := Lib.hid ((Kept.refl Nil wr).alloc (.cells (arr8 ⟨k', x0', x1', x2', n0', n1', n2'⟩ (.slice a' len' cap')) 27))
      by_cases hk1 : k' = 1
      · subst hk1
        have hrng := hitF_le ⟨1, x0', x1', x2', n0', n1', n2'⟩ v
        have CN0 := Lib.hid (fun W hb => CI.out 1 x0' x1' x2' n0' n1' n2' (.slice a' len' cap') wr.heap.size W hb)
        generalize hq : hitF ⟨1, x0', x1', x2', n0', n1', n2'⟩ v = q at HD hrng
        have hq' : first3 (decide (true = x0' ∧ v = n0')) (decide (true = x1' ∧ v = n1')) (decide (true = x2' ∧ v = n2')) = q := hq
        rw [hq'] at CN0
        clear hq hq'
        go_wp2_with ((with_reducible refine wpList_load_A rfl (.tmp 14) rfl _ _ rfl ⟨1, x0', x1', x2', n0', n1', n2'⟩ (.slice a' len' cap') ?_ ?_)
                     · exact HRng.out)
        have O := Lib.hid (show CS1 wr wr.heap.size (arr8 ⟨1, x0', x1', x2', n0', n1', n2'⟩ (.slice a' len' cap')) ((wr.alloc (.cells (arr8 ⟨1, x0', x1', x2', n0', n1', n2'⟩ (.slice a' len' cap')) 27)).drew) from ⟨BY.out.drew, KY.out.drew⟩)
        refine wp_region_in (CS1 wr wr.heap.size (arr8 ⟨1, x0', x1', x2', n0', n1', n2'⟩ (.slice a' len' cap'))) (by kernel_rfl) (by kernel_rfl) O.out ?_
        have inst : Nonempty (CW (CS1 wr wr.heap.size (arr8 ⟨1, x0', x1', x2', n0', n1', n2'⟩ (.slice a' len' cap')))) := ⟨⟨_, O.out⟩⟩
        have CN := Lib.hid (fun n : CW (CS1 wr wr.heap.size (arr8 ⟨1, x0', x1', x2', n0', n1', n2'⟩ (.slice a' len' cap'))) => CN0.out n.w n.of.1)
        repeat (go_big_quiet_step (first
          | (go_at_call 81; exact call_in CS1.step (CV.out _))
          | (go_at_call 70; exact call_in CS1.step (CN.out _))))
        refine wpQuiet_nil ?_
        rintro _ ⟨n, rfl⟩
        have PN := Lib.hid (HP.out.kept n.of.2 id)
        have p0 := PN.out.cell 0
        have p1 := PN.out.cell 1
        have p2 := PN.out.cell 2
        have f0 := PN.out.frozen 0
        have f1 := PN.out.frozen 1
        have f2 := PN.out.frozen 2
        simp at p0 p1 p2
        by_cases hq0 : 0 ≤ q
        · have HE : Hid (fpL l v 0 = some (m, q)) := Lib.hid (by rw [HF.out, HD.out, if_pos trivial, if_pos hq0])
          go_wp2_with fail
          have BF : Blk (((n.w.setCell ⟨w.heap.size, 0, none⟩ (.int .i64 v)).setCell ⟨w.heap.size, 1, none⟩ (.int .i64 (m : Int))).setCell ⟨w.heap.size, 2, none⟩ (.int .i64 q)) w.heap.size 102 #[.int .i64 v, .int .i64 (m : Int), .int .i64 q] := by
            simpa using ((PN.out.set_ 0 (.int .i64 v)).set_ 1 (.int .i64 (m : Int))).set_ 2 (.int .i64 q)
          refine bodyPost_ret (results_pair Try.results69 _ _ _ (.bool true) rfl rfl BF Try.underlying102 (by kernel_rfl)) rfl ⟨by rw [HE.out]; rfl, ?_⟩
          refine Kept.setCell (Kept.setCell (Kept.setCell (HK.out.trans n.of.2 (fun _ _ g => g)) _ (.inr (Nat.le_refl _)) _) _ (.inr (Nat.le_refl _)) _) _ (.inr (Nat.le_refl _)) _
        · have hq0' : decide (0 ≤ q) = false := decide_eq_false hq0
          have HE : Hid (fpL l v 0 = fpL (l.drop (j + 1)) v (m + 1)) := Lib.hid (by rw [HF.out, HD.out, if_pos trivial, if_neg hq0])
          go_wp2_with fail
          go_roundw
          case rel => exact ⟨j + 1, m + 1, by omega, by omega, by go_num, by go_num, HE.out, PN.out, HK.out.trans n.of.2 (fun _ _ g => g)⟩
          case measure => simp [intOf]; omega
      · have hk1' : (k' != 1) = true := by simpa using hk1
        have HE : Hid (fpL l v 0 = fpL (l.drop (j + 1)) v m) := Lib.hid (by rw [HF.out, HD.out, if_neg hk1])
        go_wp2_with ((with_reducible refine wpList_load_A rfl (.tmp 14) rfl _ _ rfl ⟨k', x0', x1', x2', n0', n1', n2'⟩ (.slice a' len' cap') ?_ ?_)
                     · exact HRng.out)
        go_roundw
        case rel => exact ⟨j + 1, m, by omega, by omega, by go_num, by go_num, HE.out, HP.out.alloc _, HK.out.alloc _⟩
        case measure => simp [intOf]; omega
    · obtain rfl : j = len := by omega
      have HE : Hid (fpL l v 0 = none) := Lib.hid (by rw [HF.out, List.drop_eq_nil_of_le (by have := HL.out; omega)]; rfl)
      have p0 := HP.out.cell 0
      have p1 := HP.out.cell 1
      have p2 := HP.out.cell 2
      have f0 := HP.out.frozen 0
      have f1 := HP.out.frozen 1
      have f2 := HP.out.frozen 2
      simp at p0 p1 p2
      go_wp2_with fail
      have BF : Blk (((wr.setCell ⟨w.heap.size, 0, none⟩ (.int .i64 0)).setCell ⟨w.heap.size, 1, none⟩ (.int .i64 0)).setCell ⟨w.heap.size, 2, none⟩ (.int .i64 0)) w.heap.size 102 #[.int .i64 0, .int .i64 0, .int .i64 0] := by
        simpa using ((HP.out.set_ 0 (.int .i64 0)).set_ 1 (.int .i64 0)).set_ 2 (.int .i64 0)
      refine bodyPost_ret (results_pair Try.results69 _ _ _ (.bool false) rfl rfl BF Try.underlying102 (by kernel_rfl)) rfl ⟨by rw [HE.out]; rfl, ?_⟩
      refine Kept.setCell (Kept.setCell (Kept.setCell HK.out _ (.inr (Nat.le_refl _)) _) _ (.inr (Nat.le_refl _)) _) _ (.inr (Nat.le_refl _)) _
end Go.Proofs.Ytoceogbanlmnoaa
