/- Layer cond: the law's own spoil: it writes into the tree's own blocks alone. -/
import Derived.Test.YtokpgpkdhcehbaaCCopy
namespace Go.Proofs.Ytokpgpkdhcehbaa
open Go.RowKit

/-- A slice of conditions whatever they are, at most so deep, in blocks of F that may be written. -/
def Loose (F : Nat → Prop) (w : World) : Nat → Value → Prop
  | 0, v => ∃ a cap, v = .slice a 0 cap
  | n + 1, v => (∃ a cap, v = .slice a 0 cap) ∨ ∃ b len cap, v = .slice (some ⟨b, 0, none⟩) len cap ∧ F b ∧ Soft w b ∧ len ≤ 5000 ∧ ∀ i, i < len → ∃ h u, w.rangeAt b (i * 8) (cA h u) ∧ Loose F w n u
theorem Holds.loose {B : Nat} {w : World} {v : Value} {subs : List Sh} (h : Holds cA w (okM B w) v subs) : ∀ n, countL subs ≤ n → n ≤ 5000 → Loose (fun b => B ≤ b ∧ b < w.heap.size) w n v := by
  induction h with
  | nil a cap =>
    intro n _ _
    cases n with
    | zero => exact ⟨a, cap, rfl⟩
    | succ n => exact .inl ⟨a, cap, rfl⟩
  | row b o cap subs u hok hr hs ih =>
    intro n hn h5
    have hl := length_countL subs
    cases n with
    | zero => exact ⟨_, cap, by rw [show subs.length = 0 by omega]⟩
    | succ n =>
      refine .inr ⟨b, subs.length, cap, ?_, ⟨hok.1, hok.2.1⟩, hok.2.2.2, by omega, fun i hi => ?_⟩
      · rw [hok.2.2.1]
      · have hx : subs[i]? = some subs[i] := List.getElem?_eq_getElem hi
        have hc := count_mem (List.getElem_mem hi)
        have hr' := hr i _ hx
        rw [hok.2.2.1, Nat.zero_add] at hr'
        refine ⟨_, _, hr', ih i _ hx n ?_ (by omega)⟩
        have : (subs[i]).count = 1 + countL (subs[i]).subs := by
          obtain ⟨hd, sb⟩ := subs[i]
          simp [Sh.count, Sh.subs]
        omega
theorem Loose.move {F : Nat → Prop} {w w' : World} (hr : ∀ b, F b → ∀ i h u, w.rangeAt b (i * 8) (cA h u) → w'.rangeAt b (i * 8) (cA h u)) (hs : ∀ b, F b → Soft w b → Soft w' b) : ∀ n v, Loose F w n v → Loose F w' n v
  | 0, _, h => h
  | n + 1, v, h => by
    rcases h with h | ⟨b, len, cap, e, hF, hsf, hl, hh⟩
    · exact .inl h
    · exact .inr ⟨b, len, cap, e, hF, hs b hF hsf, hl, fun i hi => by
        obtain ⟨h, u, h1, h2⟩ := hh i hi
        exact ⟨h, u, hr b hF i h u h1, Loose.move hr hs n u h2⟩⟩
theorem Loose.kept {F G : Nat → Prop} {w w' : World} {n : Nat} {v : Value} (h : Loose F w n v) (k : Kept G w w') (hN : ∀ b, F b → b < w.heap.size) (hF : ∀ b, F b → ¬ G b) : Loose F w' n v :=
  h.move (fun b hb _ _ _ hr => rangeAt_kept k (hF b hb) hr) (fun b hb hs => hs.kept k (hN b hb) (hF b hb)) n v
theorem Kept.setCells {F : Nat → Prop} {a : World} (b : Nat) (hb : F b ∨ a.heap.size ≤ b) : ∀ (vs : List Value) (o : Nat) (w : World), Kept F a w → Kept F a (w.setCells b o vs)
  | [], _, _, k => k
  | v :: r, o, _, k => Kept.setCells b hb r (o + 1) _ (k.setCell ⟨b, o, none⟩ hb v)
abbrev h9 : Hd := ⟨9, false, false, false, 0, 0, 0⟩
theorem loose_nil {F : Nat → Prop} {w : World} (n : Nat) : Loose F w n (.slice none 0 0) := by
  cases n with
  | zero => exact ⟨none, 0, rfl⟩
  | succ n => exact .inl ⟨none, 0, rfl⟩
/-- Behind the store of an empty condition into a row all is as loose as it was. -/
theorem loose_store {F : Nat → Prop} {w W : World} {b j : Nat} {h0 : Hd} (hsame : W.rangeAt b (j * 8) (cA h0 (.slice none 0 0))) (hfar : ∀ b1 i (l : List Value), l.length = 8 → ¬ (b1 = b ∧ i = j) → w.rangeAt b1 (i * 8) l → W.rangeAt b1 (i * 8) l) (hfz : ∀ x, W.frozen? x = w.frozen? x) : ∀ n v, Loose F w n v → Loose F W n v := by
  intro n
  induction n with
  | zero => exact fun _ h => h
  | succ n ih =>
    intro v h
    rcases h with h | ⟨b1, len, cap, e, hF, hsf, hl, hh⟩
    · exact .inl h
    · refine .inr ⟨b1, len, cap, e, hF, fun i => by rw [hfz]; exact hsf i, hl, fun i hi => ?_⟩
      obtain ⟨h, u, h1, h2⟩ := hh i hi
      by_cases he : b1 = b ∧ i = j
      · obtain ⟨rfl, rfl⟩ := he
        exact ⟨h0, .slice none 0 0, hsame, loose_nil n⟩
      · exact ⟨h, u, hfar b1 i _ rfl he h1, ih u h2⟩
theorem set9_facts {w : World} {b j : Nat} (vs : List Value) (hl : vs.length = 8) (ht : w.there b (j * 8) 8) :
    (w.setCells b (j * 8) vs).rangeAt b (j * 8) vs ∧ (∀ b1 i (l : List Value), l.length = 8 → ¬ (b1 = b ∧ i = j) → w.rangeAt b1 (i * 8) l → (w.setCells b (j * 8) vs).rangeAt b1 (i * 8) l) ∧ (∀ x, (w.setCells b (j * 8) vs).frozen? x = w.frozen? x) := by
  refine ⟨World.rangeAt_setCells_same _ _ _ _ (by rw [hl]; exact ht), fun b1 i l hll he h1 => World.rangeAt_setCells_apart h1 _ _ _ ?_, fun x => World.frozen?_setCells b vs _ w x⟩
  rw [hl, hll]
  by_cases hb : b1 = b
  · right
    have : i ≠ j := fun e => he ⟨hb, e⟩
    omega
  · exact .inl hb
def SpoilEnd (F : Nat → Prop) (w : World) (e : Ending) (w' : World) : Prop := e = .returned (.tuple #[]) ∧ Kept F w w' ∧ ∀ m u, Loose F w m u → Loose F w' m u
theorem wpList_store_9 {ops : Array Oper} {rest : List Oper} {o : Oper} {a : Act} {w : World} {Q : Exit → Act → World → Prop} (hgd : o.guard = none) (x y : Operand) (ho : o.op = .store 27 x y)
    (b p : Nat) (hx : a.eval x = .pointer (some ⟨b, p, none⟩)) (hy : a.eval y = vA h9 (.slice none 0 0)) (ht : w.there b p 8)
    (hn : ∀ W, W = w.setCells b p (cA h9 (.slice none 0 0)) → wpList Try.prog ops Q rest (a.put o.dst undef) W) : wpList Try.prog ops Q (o :: rest) a w :=
  wpList_store_mid hgd _ x y ho b p (arrA h9 (.slice none 0 0)) hx hy ht infoA8 (by simp [Value.oneCell']) (hn _ rfl)
set_option maxHeartbeats 2000000 in
theorem spoil_step (F : Nat → Prop) (N : Nat) (HF : Hid (∀ b, F b → b < N)) (n : Nat) (k : Int) (x0 x1 x2 : Bool) (n0 n1 n2 : Int) (a : Option Addr) (len cap : Nat) (hLen : len ≤ 5000) (w : World) (HN : Hid (N ≤ w.heap.size))
    (HP : Hid (∀ wr, (∀ m u, Loose F w m u → Loose F wr m u) → ∀ i, i < len → ∃ b h u, a = some ⟨b, 0, none⟩ ∧ F b ∧ Soft wr b ∧ wr.rangeAt b (i * 8) (cA h u) ∧ Loose F wr n u))
    (IH : Hid (∀ (h : Hd) (v : Value) (w : World), N ≤ w.heap.size → Loose F w n v → Calls Try.prog 19 #[vA h v] w (SpoilEnd F w))) :
    Calls Try.prog 19 #[vA ⟨k, x0, x1, x2, n0, n1, n2⟩ (.slice a len cap)] w (SpoilEnd F w) := by
  have K0 := Lib.hid ((Kept.refl F w).alloc (.cells (arrA ⟨k, x0, x1, x2, n0, n1, n2⟩ (.slice a len cap)) 27))
  have B0 := Lib.hid (Blk.new w 27 (arrA ⟨k, x0, x1, x2, n0, n1, n2⟩ (.slice a len cap)))
  have L0 : Hid (∀ m u, Loose F w m u → Loose F (w.alloc (.cells (arrA ⟨k, x0, x1, x2, n0, n1, n2⟩ (.slice a len cap)) 27)) m u) := Lib.hid fun m u h => h.kept ((Kept.refl Nil w).alloc _) (fun b hb => by have := HF.out b hb; have := HN.out; omega) (fun _ _ g => g)
  go_enter Try.func19, Try.ntmps19
  go_wp2_with fail
  go_loopw [6] (fun i wr => ∃ j : Nat, j ≤ len ∧ i = .int .i64 j ∧ Kept F w wr ∧ Blk wr w.heap.size 27 (arrA ⟨k, x0, x1, x2, n0, n1, n2⟩ (.slice a len cap)) ∧ ∀ m u, Loose F w m u → Loose F wr m u) (fun i _ => len - (intOf i).toNat)
  case atStart => exact ⟨0, by omega, rfl, K0.out, B0.out, L0.out⟩
  case round =>
    obtain ⟨j, hj, rfl, hK, hB, hL⟩ := hrel
    have HK := Lib.hid hK
    have HB := Lib.hid hB
    have HL := Lib.hid hL
    have c7 := hB.cell 7
    simp at c7
    clear hK hB hL K0 B0 L0
    by_cases hlt : j < len
    · obtain ⟨b, h, u, rfl, hFb, hsf, hr, hlo⟩ := HP.out wr HL.out j hlt
      obtain ⟨k', x0', x1', x2', n0', n1', n2'⟩ := h
      have hbN := HF.out b hFb
      have hyw := HB.out.lt
      have CX : Hid (∀ W, W = wr → Calls Try.prog 19 #[vA ⟨k', x0', x1', x2', n0', n1', n2'⟩ u] W (SpoilEnd F W)) := Lib.hid fun W e => by subst e; exact IH.out _ u W (Nat.le_trans HN.out HK.out.size) hlo
      have HR := Lib.hid hr
      have HFb := Lib.hid hFb
      have hne : ¬ F w.heap.size := fun g => by have := HF.out _ g; have := HN.out; omega
      have HNe := Lib.hid hne
      clear hr hsf hlo hFb hne hbN
      go_wp2_with ((with_reducible refine wpList_load_A rfl (.tmp 12) rfl _ _ rfl ⟨k', x0', x1', x2', n0', n1', n2'⟩ u ?_ ?_)
                   · exact HR.out)
      refine (CX.out _ rfl).mono ?_
      rintro e w2 ⟨rfl, k2, l2⟩
      have HL2 : Hid (∀ m u, Loose F w m u → Loose F w2 m u) := Lib.hid fun m u hh => l2 m u (HL.out m u hh)
      have HK2 := Lib.hid (HK.out.trans k2 (fun _ _ g => g))
      have HB2 := Lib.hid (HB.out.kept k2 HNe.out)
      obtain ⟨b2, h2, u2, e2, _, hsf2, hr2, _⟩ := HP.out w2 HL2.out j hlt
      obtain rfl : b = b2 := by simpa using e2
      have HT : Hid (w2.there b (j * 8) 8) := Lib.hid fun i hi => ⟨hr2.isSome i (by simpa using hi), hsf2 _⟩
      have c72 := HB2.out.cell 7
      simp at c72
      clear k2 l2 c7 e2 hsf2 hr2
      go_wp2_with ((with_reducible refine wpList_store_9 rfl (.tmp 19) _ rfl b _ rfl rfl ?_ ?_)
                   · exact HT.out
                   intro W hW
                   have HW := Lib.hid hW
                   clear hW)
      obtain ⟨f1, f2, f3⟩ := set9_facts (cA h9 (.slice none 0 0)) rfl HT.out
      rw [← HW.out] at f1 f2 f3
      have KW : Kept F w W := by rw [HW.out]; exact Kept.setCells b (.inl HFb.out) _ _ _ HK2.out
      have BW : Blk W w.heap.size 27 (arrA ⟨k, x0, x1, x2, n0, n1, n2⟩ (.slice (some ⟨b, 0, none⟩) len cap)) := by
        have kk : Kept F w2 W := by rw [HW.out]; exact Kept.setCells b (.inl HFb.out) _ _ _ (Kept.refl F w2)
        exact HB2.out.kept kk HNe.out
      have HKW := Lib.hid KW
      have HBW := Lib.hid BW
      have HLW : Hid (∀ m u, Loose F w m u → Loose F W m u) := Lib.hid fun m u hh => loose_store f1 f2 f3 m u (HL2.out m u hh)
      clear KW BW f1 f2 f3
      go_wp2_with fail
      go_roundw
      case rel => exact ⟨j + 1, by omega, by go_num, HKW.out, HBW.out, HLW.out⟩
      case measure => simp [intOf]; omega
    · obtain rfl : j = len := by omega
      go_wp2_with fail
      exact bodyPost_ret (v := .tuple #[]) (by simp [results, Try.results19, go_sem]) rfl ⟨rfl, HK.out, HL.out⟩
theorem spoil_nil (F : Nat → Prop) (N : Nat) (hF : ∀ b, F b → b < N) (k : Int) (x0 x1 x2 : Bool) (n0 n1 n2 : Int) (a : Option Addr) (cap : Nat) (w : World) (hN : N ≤ w.heap.size) :
    Calls Try.prog 19 #[vA ⟨k, x0, x1, x2, n0, n1, n2⟩ (.slice a 0 cap)] w (SpoilEnd F w) := by
  have L0 : Hid (∀ m u, Loose F w m u → Loose F (w.alloc (.cells (arrA ⟨k, x0, x1, x2, n0, n1, n2⟩ (.slice a 0 cap)) 27)) m u) := Lib.hid fun m u h => h.kept ((Kept.refl Nil w).alloc _) (fun b hb => by have := hF b hb; omega) (fun _ _ g => g)
  have K0 := Lib.hid ((Kept.refl F w).alloc (.cells (arrA ⟨k, x0, x1, x2, n0, n1, n2⟩ (.slice a 0 cap)) 27))
  go_enter Try.func19, Try.ntmps19
  go_wp2_with fail
  go_loopw [6] (fun i wr => i = .int .i64 0 ∧ Kept F w wr ∧ ∀ m u, Loose F w m u → Loose F wr m u) (fun _ _ => 0)
  case atStart => exact ⟨rfl, K0.out, L0.out⟩
  case round =>
    obtain ⟨rfl, hK, hL⟩ := hrel
    have HK := Lib.hid hK
    have HL := Lib.hid hL
    clear hK hL
    go_wp2_with fail
    exact bodyPost_ret (v := .tuple #[]) (by simp [results, Try.results19, go_sem]) rfl ⟨rfl, HK.out, HL.out⟩
theorem spoil_any (F : Nat → Prop) (N : Nat) (hF : ∀ b, F b → b < N) : ∀ n : Nat, ∀ (h : Hd) (v : Value) (w : World), N ≤ w.heap.size → Loose F w n v → Calls Try.prog 19 #[vA h v] w (SpoilEnd F w) := by
  intro n
  induction n with
  | zero =>
    rintro ⟨k, x0, x1, x2, n0, n1, n2⟩ v w hN ⟨a, cap, rfl⟩
    exact spoil_nil F N hF k x0 x1 x2 n0 n1 n2 a cap w hN
  | succ n ih =>
    rintro ⟨k, x0, x1, x2, n0, n1, n2⟩ v w hN h
    rcases h with ⟨a, cap, rfl⟩ | ⟨b, len, cap, rfl, hb, hs, hl, hh⟩
    · exact spoil_nil F N hF k x0 x1 x2 n0 n1 n2 a cap w hN
    · refine spoil_step F N hF n k x0 x1 x2 n0 n1 n2 (some ⟨b, 0, none⟩) len cap hl w hN (fun wr hwr i hi => ?_) ih
      rcases hwr (n + 1) (.slice (some ⟨b, 0, none⟩) len cap) (.inr ⟨b, len, cap, rfl, hb, hs, hl, hh⟩) with ⟨a, cap', e⟩ | ⟨b', len', cap', e, hb', hs', _, hh'⟩
      · cases e; omega
      · cases e
        obtain ⟨h, u, g1, g2⟩ := hh' i hi
        exact ⟨b, h, u, rfl, hb', hs', g1, g2⟩
end Go.Proofs.Ytokpgpkdhcehbaa
