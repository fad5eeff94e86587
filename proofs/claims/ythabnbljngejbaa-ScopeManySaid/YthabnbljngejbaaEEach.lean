/- Layer scope: the program's walk over conditions, which hands on each chain; Chains. -/
import Derived.Test.YthabnbljngejbaaEHand
import Derived.Test.YthabnbljngejbaaERight
namespace Go.Proofs.Ythabnbljngejbaa
open Go.RowKit

abbrev handF (X : Nat) : Value := .func (.func 21) #[] #[.pointer (some ⟨X, 0, none⟩)]
/-- What the walk's present chain is to its beginning: the same row, longer; or a new one. -/
def Grows (w : World) (v : Value) (n : Nat) (vj : Value) (j : Nat) : Prop := (∃ a0 c0, v = .slice a0 n c0 ∧ vj = .slice a0 (n + j) c0) ∨ ∃ k, vj.ownBlock = some k ∧ w.heap.size ≤ k
theorem ORow.far {w w' : World} {B : Nat} {v : Value} {ps : Prs} {F : Nat → Prop} (h : ORow cA 38 w B v ps) (k : Kept F w w') (hF : ∀ g, v.ownBlock = some g → ¬ F g) : ORow cA 38 w' B v ps := Kept.row k h hF
theorem ORow.head {w : World} {B : Nat} {a : Option Addr} {n m c : Nat} {ps qs : Prs} (h : ORow cA 38 w B (.slice a m c) (ps ++ qs)) (hn : n = ps.length) (hm : m = (ps ++ qs).length) : ORow cA 38 w B (.slice a n c) ps := by
  subst hn hm
  have h' : w.ownsRow B 38 8 (.slice a (ps ++ qs).length c) (ps ++ qs).length (flatC cA ps ++ flatC cA qs) := by rw [← flatC_append]; exact h
  exact ownsRow_head h' (flatC_len kindA ps) (by simp)
theorem own_row_type {w : World} {B B' : Nat} {v u : Value} {ps : Prs} {ok : Nat → Nat → Prop} {p : Nat → Prop} {ws : List Prs} (h : ORow cA 38 w B v ps) (hR : LRow cA 38 22 w ok B' p u ws) : ∀ k, v.ownBlock = some k → u.ownBlock ≠ some k := fun k h1 h2 => by
  obtain ⟨_, cur, hc⟩ := ownsBlk h k h1
  obtain ⟨_, _, cs, hb⟩ := hR.own k h2
  exact neqLA (blk_type hb hc)
theorem own_box_type {w : World} {B X : Nat} {v : Value} {ps : Prs} {cs : Array Value} (h : ORow cA 38 w B v ps) (hX : Blk w X 25 cs) : ∀ k, v.ownBlock = some k → k ≠ X := fun k h1 e => by
  obtain ⟨_, cur, hc⟩ := ownsBlk h k h1
  subst e
  exact neqXC (blk_type hX hc)
/-- The condition is put behind its beginning. -/
theorem each_append {w w3 : World} {ok : Nat → Nat → Prop} {p : Nat → Prop} {B X j : Nat} {v vj va : Value} {ps qs : Prs} {ws : List Prs} (hsz : w.heap.size ≤ w3.heap.size) (hB : B ≤ w3.heap.size) (hok : ∀ b o, ok b o → b < B)
    (hA : ORow cA 38 w3 B v ps) (hv : ∀ k, v.ownBlock = some k → k < w.heap.size) (hJ : ORow cA 38 w3 B vj (ps ++ qs)) (hq : qs.length = j) (hg : Grows w v ps.length vj j) (hR : LRow cA 38 22 w3 ok B (fun g => p g ∧ vj.ownBlock ≠ some g) va ws) (hX : Blk w3 X 25 #[va])
    (hd : Hd) (sb : List Sh) (vs : Value) (hs : Holds cA w3 ok vs sb) (hl : (ps ++ qs).length ≤ 6000) :
    ∃ a5 n5 c5 w5, (Builtin.append_ #[22, 22] 22 #[vj, .slice (some ⟨w3.heap.size, 0, none⟩) 1 1]).run Try.prog (w3.alloc (.cells (arrA hd vs) 38)) = .ok (.slice a5 n5 c5) w5 ∧
      ORow cA 38 w5 B (.slice a5 n5 c5) (ps ++ (qs ++ [(.mk hd sb, vs)])) ∧ ORow cA 38 w5 B v ps ∧ Grows w v ps.length (.slice a5 n5 c5) (j + 1) ∧ LRow cA 38 22 w5 ok B (fun g => p g ∧ (Value.slice a5 n5 c5).ownBlock ≠ some g) va ws ∧ Blk w5 X 25 #[va] ∧
      Kept (fun k => vj.ownBlock = some k) w3 w5 ∧ (∀ k, (Value.slice a5 n5 c5).ownBlock = some k → vj.ownBlock = some k ∨ w3.heap.size ≤ k) := by
  have ka := (Kept.refl Nil w3).alloc (.cells (arrA hd vs) 38)
  have hlit : flatC cA [(Sh.mk hd sb, vs)] = cA hd vs := by unfold flatC; simp [Sh.hd]
  have hJ4 : ORow cA 38 (w3.alloc (.cells (arrA hd vs) 38)) B vj (ps ++ qs) := Kept.row ka hJ (fun _ _ g => g)
  obtain ⟨v5, w5, r5, o5, k5, h5⟩ := ORow.append (P := Try.prog) (qs := [(.mk hd sb, vs)]) elsA kindA 22 hJ4 (At.lit w3 38 (arrA hd vs) _ (by rw [hlit])) (fun p hp => by
    rw [List.mem_singleton] at hp; subst hp; exact hs.keptN ka) (by simp at hl ⊢; omega) (by simp; omega)
  have two := append_two (P := Try.prog) elsA 22 hJ4 (m := 1) (ys := cA hd vs) rfl (fun i x hi => by
    rw [Addr.add_mid, Nat.zero_add, (Blk.new w3 38 (arrA hd vs)).cell i]; simpa using hi) (fun y hy => kindA.one hd vs (hs.one) y hy) (by decide) (by simp at hl ⊢; omega) r5
  have k35 : Kept (fun k => vj.ownBlock = some k) w3 w5 := (ka.mono (fun _ _ g => g.elim)).trans k5 (fun _ _ g => g)
  rw [List.append_assoc] at o5
  obtain ⟨a5, n5, c5, rfl⟩ : ∃ a5 n5 c5, v5 = .slice a5 n5 c5 := by obtain ⟨x, y, e⟩ := (At.own o5).shape; exact ⟨x, _, y, e⟩
  have hvj : ∀ k, vj.ownBlock = some k → B ≤ k ∧ k < w3.heap.size := fun k hk => ⟨(ownsBlk hJ k hk).1, by obtain ⟨_, cur, hc⟩ := ownsBlk hJ k hk; exact hc.lt⟩
  have hnew : ∀ k, (Value.slice a5 n5 c5).ownBlock = some k → vj.ownBlock = some k ∨ w3.heap.size ≤ k := fun k hk => by
    rcases h5 with h5 | h5
    · left; rw [← h5]; exact hk
    · right
      rw [h5] at hk
      simp at hk; omega
  refine ⟨a5, n5, c5, w5, r5, o5, ?_, ?_, ?_, hX.kept k35 (fun e => own_box_type hJ hX _ e rfl), k35, hnew⟩
  · rcases two with ⟨g, cap, e1, e2, k2⟩ | ⟨_, k2⟩
    · rcases hg with ⟨a0, c0, f1, f2⟩ | ⟨k, f1, f2⟩
      · rw [e1] at f2
        injection f2 with f3 f4 f5
        injection e2 with e3 e4 e5
        subst f1 f3 f5 e3 e5
        exact ORow.head o5 rfl (by rw [e4]; simp; omega)
      · exact hA.far k35 (fun i hi e => by
          have := hv i hi
          rw [f1] at e
          cases e; omega)
    · exact hA.far (ka.trans k2 (fun _ _ g => g)) (fun _ _ g => g)
  · rcases two with ⟨g, cap, e1, e2, k2⟩ | ⟨e, _⟩
    · rcases hg with ⟨a0, c0, f1, f2⟩ | ⟨k, f1, f2⟩
      · left
        rw [e1] at f2
        injection f2 with f3 f4 f5
        refine ⟨a0, c0, f1, ?_⟩
        rw [e2, f3, f5]
        congr 1
        simp; omega
      · right
        refine ⟨k, ?_, f2⟩
        rw [e2]
        rw [e1] at f1
        exact f1
    · right
      exact ⟨_, e, by simp; omega⟩
  · refine (hR.mono (q := fun g => (p g ∧ vj.ownBlock ≠ some g) ∧ g < w3.heap.size) (fun g cs hb hg => ⟨hg, hb.lt⟩)).kept k35 (fun g hg e => own_row_type hJ hR g e hg) (fun g cs _ hg e => hg.1.2 e) (fun b o hb e => by have := (hvj b e).1; have := hok b o hb; omega) |>.mono (fun g _ _ hg => ⟨hg.1.1, fun e => ?_⟩)
    rcases hnew g e with h | h
    · exact hg.1.2 h
    · have := hg.2; omega
theorem ORow.back {w wr w3 : World} {B j : Nat} {v vj : Value} {ps qs : Prs} {F : Nat → Prop} (hA : ORow cA 38 wr B v ps) (hJ : ORow cA 38 w3 B vj (ps ++ qs)) (hq : qs.length = j) (hg : Grows w v ps.length vj j) (hv : ∀ k, v.ownBlock = some k → k < w.heap.size) (k : Kept F wr w3) (hF : ∀ g, v.ownBlock = some g → F g → vj.ownBlock = some g) : ORow cA 38 w3 B v ps := by
  rcases hg with ⟨a0, c0, f1, f2⟩ | ⟨k2, f1, f2⟩
  · subst f1 f2
    exact ORow.head hJ rfl (by simp; omega)
  · refine hA.far k (fun g hg hf => ?_)
    have h1 := hF g hg hf
    rw [f1] at h1
    cases h1
    have := hv _ hg
    omega
/-- The chains are put behind the others; of the beginning's block only what is behind the beginning is written. -/
def EachEnd (ok : Nat → Nat → Prop) (p : Nat → Prop) (B X : Nat) (l : List Sh) (v : Value) (ps : Prs) (va : Value) (ws : List Prs) (w : World) (e : Ending) (w' : World) : Prop :=
  e = .returned (.tuple #[]) ∧ ∃ va' ws', ws'.map tr = chL l (tr ps) ∧ Blk w' X 25 #[va'] ∧ LRow cA 38 22 w' ok B p va' (ws ++ ws') ∧ ORow cA 38 w' B v ps ∧
    Kept (fun k => k = X ∨ v.ownBlock = some k ∨ va.ownBlock = some k) w w' ∧ (va'.ownBlock = va.ownBlock ∨ ∃ k, va'.ownBlock = some k ∧ w.heap.size ≤ k)
abbrev EachIH (l : List Sh) : Prop := ∀ hd sb, Sh.mk hd sb ∈ l → ∀ ok p B X a cap v ps va ws w, Holds cA w ok (.slice a sb.length cap) sb → ORow cA 38 w B v ps → Kids cA w ok ps → Blk w X 25 #[va] → LRow cA 38 22 w ok B p va ws →
  (∀ b o, ok b o → b < B) → B ≤ X → B ≤ w.heap.size → (∀ g, p g → v.ownBlock ≠ some g) → (∀ g, w.heap.size ≤ g → p g) → ps.length + countL sb ≤ 5000 → ws.length + countL sb ≤ 5000 →
  Calls Try.prog 20 #[v, .slice a sb.length cap, handF X] w (EachEnd ok p B X sb v ps va ws w)
set_option maxHeartbeats 4000000 in
theorem each_step (l : List Sh) (len : Nat) (HL : Hid (l.length = len)) (IH : Hid (EachIH l)) (ok : Nat → Nat → Prop) (p : Nat → Prop) (B X : Nat) (a : Option Addr) (cap : Nat) (v : Value) (ps : Prs) (va : Value) (ws : List Prs) (w : World) (HH : Hid (Holds cA w ok (.slice a len cap) l)) (HA : Hid (ORow cA 38 w B v ps)) (HAK : Hid (Kids cA w ok ps))
    (HX : Hid (Blk w X 25 #[va])) (HR : Hid (LRow cA 38 22 w ok B p va ws)) (HOk : Hid (∀ b o, ok b o → b < B)) (hBX : B ≤ X) (hB : B ≤ w.heap.size) (HP1 : Hid (∀ g, p g → v.ownBlock ≠ some g)) (HP2 : Hid (∀ g, w.heap.size ≤ g → p g)) (HC : Hid (ps.length + countL l ≤ 5000)) (HC2 : Hid (ws.length + countL l ≤ 5000)) :
    Calls Try.prog 20 #[v, .slice a len cap, handF X] w (EachEnd ok p B X l v ps va ws w) := by
  have hLen : len ≤ 5000 := by have := length_countL l; have := HC.out; have := HL.out; omega
  obtain ⟨ls, hls, hll, hlk⟩ := HH.out.pairs kindA
  have HLS := Lib.hid hls
  have HLL := Lib.hid hll
  have HLK := Lib.hid hlk
  have hll2 : ls.length = len := by rw [← tr_len, hls, HL.out]
  have HL2 := Lib.hid hll2
  have HVl : Hid (∀ k, v.ownBlock = some k → B ≤ k ∧ k < w.heap.size) := Lib.hid fun k hk => ⟨(ownsBlk HA.out k hk).1, by obtain ⟨_, cur, hc⟩ := ownsBlk HA.out k hk; exact hc.lt⟩
  have HVA : Hid (∀ k, va.ownBlock = some k → B ≤ k ∧ k < w.heap.size) := Lib.hid fun k hk => ⟨(HR.out.own k hk).1, (HR.out.own k hk).2.1⟩
  have HXl := Lib.hid HX.out.lt
  clear hls hll hlk hll2
  go_enter Try.func20, Try.ntmps20
  go_wp2_with fail
  go_loopw [0, 10] (fun vj i wr => ∃ (j : Nat) (vaj : Value) (wsj : List Prs), j ≤ len ∧ i = .int .i64 j ∧ wsj.map tr = chL (l.take j) (tr ps) ∧ Blk wr X 25 #[vaj] ∧ LRow cA 38 22 wr ok B (fun g => p g ∧ vj.ownBlock ≠ some g) vaj (ws ++ wsj) ∧ ORow cA 38 wr B v ps ∧
    ORow cA 38 wr B vj (ps ++ ls.take j) ∧ Grows w v ps.length vj j ∧ Kept (fun k => k = X ∨ v.ownBlock = some k ∨ va.ownBlock = some k) w wr ∧ (vaj.ownBlock = va.ownBlock ∨ ∃ k, vaj.ownBlock = some k ∧ w.heap.size ≤ k)) (fun _ i _ => len - (intOf i).toNat)
  case atStart =>
    refine ⟨0, va, [], by omega, rfl, by rw [List.take_zero, chL_nil]; rfl, HX.out, ?_, HA.out, by rw [List.take_zero, List.append_nil]; exact HA.out, ?_, Kept.refl _ _, .inl rfl⟩
    · rw [List.append_nil]
      exact HR.out.mono (fun g _ _ hg => ⟨hg, HP1.out g hg⟩)
    · obtain ⟨a0, c0, e⟩ := (At.own HA.out).shape
      exact .inl ⟨a0, c0, e, e⟩
  case round =>
    obtain ⟨j, vaj, wsj, hj, rfl, hws, hX, hR, hA, hAj, hsh, hK, hva⟩ := hrel
    have HWs := Lib.hid hws
    have HXj := Lib.hid hX
    have HRj := Lib.hid hR
    have HAv := Lib.hid hA
    have HAj := Lib.hid hAj
    have HSh := Lib.hid hsh
    have HK := Lib.hid hK
    have HVa := Lib.hid hva
    clear hws hX hR hA hAj hsh hK hva HX HR HA
    obtain ⟨aj, nj, cj, rfl⟩ : ∃ aj nj cj, u0 = .slice aj nj cj := by obtain ⟨x, y, e⟩ := (At.own HAj.out).shape; exact ⟨x, _, y, e⟩
    by_cases hlt : j < len
    · obtain ⟨⟨⟨⟨k', x0', x1', x2', n0', n1', n2'⟩, sb⟩, vs⟩, hx⟩ : ∃ x, ls[j]? = some x := ⟨_, List.getElem?_eq_getElem (by have := HL2.out; omega)⟩
      have hlx : l[j]? = some (.mk ⟨k', x0', x1', x2', n0', n1', n2'⟩ sb) := by rw [← HLS.out]; unfold tr; rw [List.getElem?_map, hx]; rfl
      have hFok : ∀ b o, ok b o → ¬ (b = X ∨ v.ownBlock = some b ∨ va.ownBlock = some b) := fun b o hb hf => by
        have := HOk.out b o hb
        rcases hf with rfl | hf | hf
        · omega
        · have := (HVl.out b hf).1; omega
        · have := (HVA.out b hf).1; omega
      have hkid : Holds cA wr ok vs sb := (HLK.out _ (List.mem_of_getElem? hx)).kept HK.out hFok
      obtain ⟨a', cap', rfl⟩ := hkid.shape
      obtain ⟨b, o, _, _, rfl, hokb, _, _⟩ := HH.out.at_ hlx
      have hLj : Lies cA wr (.slice (some ⟨b, o, none⟩) len cap) ls := At.kept HLL.out HK.out (fun b' e => by cases e; exact hFok b o hokb)
      obtain ⟨b1, o1, e1, hrng⟩ := Lies.at_ kindA hLj hx
      cases e1
      have HXI := Lib.hid (IH.out _ _ (List.mem_of_getElem? hlx))
      have HRng := Lib.hid hrng
      have HS := Lib.hid hkid
      have HT : Hid (tr (ls.take j) = l.take j) := Lib.hid (by rw [← HLS.out]; unfold tr; rw [List.map_take])
      have HN : Hid (ls.take (j + 1) = ls.take j ++ [(Sh.mk ⟨k', x0', x1', x2', n0', n1', n2'⟩ sb, Value.slice a' sb.length cap')]) := Lib.hid (by rw [List.take_add_one, hx]; rfl)
      have HNc : Hid (chL (l.take (j + 1)) (tr ps) = chL (l.take j) (tr ps) ++ ((if k' = 3 then chL sb (tr ps ++ l.take j) else []) ++ [(tr ps ++ l.take j) ++ [.mk ⟨k', x0', x1', x2', n0', n1', n2'⟩ sb]])) := Lib.hid (by rw [chL_take_succ hlx, chs_mk])
      have hB1 : ps.length + j + (1 + countL sb) ≤ 5000 ∧ ws.length + wsj.length + (1 + countL sb) ≤ 5000 := by
        have h1 := countL_take_succ hlx
        have h2 := countL_take_le l (j + 1)
        have h3 := length_countL (l.take j)
        have h4 := congrArg List.length HWs.out
        have h5 := chL_len_le.2 (l.take j) (tr ps)
        have := HC.out
        have := HC2.out
        rw [List.length_take] at h3
        rw [List.length_map] at h4
        simp only [Sh.count] at h1
        have := HL.out
        omega
      have HBn := Lib.hid hB1
      have HTl : Hid ((ls.take j).length = j) := Lib.hid (by rw [List.length_take, HL2.out]; omega)
      have HQk : Hid (Kids cA wr ok (ps ++ ls.take j)) := Lib.hid ((HAK.out.append (HLK.out.take j)).kept HK.out hFok)
      have HQt : Hid (tr (ps ++ ls.take j) = tr ps ++ l.take j) := Lib.hid (by rw [tr_append, HT.out])
      have HJl : Hid (∀ k, (Value.slice aj nj cj).ownBlock = some k → B ≤ k ∧ k < wr.heap.size) := Lib.hid fun k hk => ⟨(ownsBlk HAj.out k hk).1, by obtain ⟨_, cur, hc⟩ := ownsBlk HAj.out k hk; exact hc.lt⟩
      have HVj : Hid (∀ k, vaj.ownBlock = some k → B ≤ k ∧ k < wr.heap.size) := Lib.hid fun k hk => ⟨(HRj.out.own k hk).1, (HRj.out.own k hk).2.1⟩
      have hk0 := HK.out.size
      -- which blocks of the callee's are ours
      have HSub : Hid (∀ k, k < w.heap.size → (k = X ∨ (Value.slice aj nj cj).ownBlock = some k ∨ vaj.ownBlock = some k) → (k = X ∨ v.ownBlock = some k ∨ va.ownBlock = some k)) := Lib.hid fun k hk hf => by
        rcases hf with rfl | hf | hf
        · exact .inl rfl
        · rcases HSh.out with ⟨a0, c0, f1, f2⟩ | ⟨k2, f1, f2⟩
          · right; left
            rw [f1]
            rw [f2] at hf
            cases a0 with
            | none => cases hf
            | some ad => exact hf
          · rw [f1] at hf; cases hf; omega
        · rcases HVa.out with e | ⟨k2, e, h2⟩
          · right; right; rw [← e]; exact hf
          · rw [e] at hf; cases hf; omega
      clear hx hlx hrng hkid hLj hokb hFok
      obtain ⟨len', hlen'⟩ : ∃ n, sb.length = n := ⟨_, rfl⟩
      rw [hlen'] at HS HN HRng
      have HL' := Lib.hid hlen'
      clear hlen'
      obtain ⟨W1, hW1⟩ : ∃ W1, wr.alloc (.cells (arrA ⟨k', x0', x1', x2', n0', n1', n2'⟩ (.slice a' len' cap')) 38) = W1 := ⟨_, rfl⟩
      have KW1 : Hid (Kept Nil wr W1) := Lib.hid (by rw [← hW1]; exact (Kept.refl Nil wr).alloc _)
      have BY1 : Hid (Blk W1 wr.heap.size 38 (arrA ⟨k', x0', x1', x2', n0', n1', n2'⟩ (.slice a' len' cap'))) := Lib.hid (by rw [← hW1]; exact Blk.new _ _ _)
      have hs1 : W1.heap.size = wr.heap.size + 1 := by rw [← hW1]; simp
      have c0 := BY1.out.cell 0
      have c7 := BY1.out.cell 7
      simp at c0 c7
      have hokY : ∀ b o, ok b o → ¬ (b = X ∨ (Value.slice aj nj cj).ownBlock = some b ∨ vaj.ownBlock = some b) := fun b o hb hf => by
        have := HOk.out b o hb
        rcases hf with rfl | hf | hf
        · omega
        · have := (HJl.out b hf).1; omega
        · have := (HVj.out b hf).1; omega
      have HOY := Lib.hid hokY
      have hYF : ¬ (wr.heap.size = X ∨ (Value.slice aj nj cj).ownBlock = some wr.heap.size ∨ vaj.ownBlock = some wr.heap.size) := fun hf => by
        rcases hf with hf | hf | hf
        · have := HXj.out.lt; omega
        · have := (HJl.out _ hf).2; omega
        · have := (HVj.out _ hf).2; omega
      have hQl : (if k' = 3 then chL sb (tr ps ++ l.take j) else []).length ≤ countL sb := by
        split
        · exact chL_len_le.2 sb (tr ps ++ l.take j)
        · simp
      generalize hQ : (if k' = 3 then chL sb (tr ps ++ l.take j) else []) = Q at HNc hQl
      have HQ1 : Hid (k' = 3 → chL sb (tr ps ++ l.take j) = Q) := Lib.hid fun h => by rw [← hQ, if_pos h]
      have HQ2 : Hid (¬ k' = 3 → Q = []) := Lib.hid fun h => by rw [← hQ, if_neg h]
      have HQl := Lib.hid hQl
      clear hQ hQl
      by_cases hk3 : k' = 3
      · have HQ3 := Lib.hid (HQ1.out hk3)
        subst hk3
        clear HQ1 HQ2
        have CX := Lib.hid (HXI.out ok (fun g => p g ∧ (Value.slice aj nj cj).ownBlock ≠ some g) B X a' cap' (.slice aj nj cj) (ps ++ ls.take j) vaj (ws ++ wsj) W1 (by rw [HL'.out]; exact HS.out.keptN KW1.out) (Kept.row KW1.out HAj.out (fun _ _ g => g)) (HQk.out.kept KW1.out (fun _ _ _ g => g)) (HXj.out.kept KW1.out id) (HRj.out.keptN KW1.out) HOk.out hBX (by omega)
          (fun g hg => hg.2) (fun g hg => ⟨HP2.out g (by omega), fun e => by have := (HJl.out g e).2; omega⟩) (by rw [List.length_append, HTl.out]; have := HBn.out.1; omega) (by rw [List.length_append]; have := HBn.out.2; omega))
        rw [HL'.out] at CX
        go_wp2_with ((with_reducible refine wpList_load_A rfl (.tmp 12) rfl _ _ rfl ⟨3, x0', x1', x2', n0', n1', n2'⟩ (.slice a' len' cap') ?_ ?_)
                     · exact HRng.out)
        refine CX.out.mono ?_
        rintro e w3 ⟨rfl, va3, ws3, h3, x3, r3, j3, k3, hva3⟩
        have H3 : Hid (ws3.map tr = Q) := Lib.hid (by rw [← HQ3.out, ← HQt.out]; exact h3)
        have R3 := Lib.hid r3
        have J3 := Lib.hid j3
        have X3 := Lib.hid x3
        have K3 : Hid (Kept (fun k => k = X ∨ (Value.slice aj nj cj).ownBlock = some k ∨ vaj.ownBlock = some k) wr w3) := Lib.hid ((KW1.out.mono (fun _ _ g => g.elim)).trans k3 (fun _ _ g => g))
        have BY3 := Lib.hid (BY1.out.kept k3 hYF)
        have HV3 : Hid (va3.ownBlock = vaj.ownBlock ∨ ∃ k, va3.ownBlock = some k ∧ wr.heap.size ≤ k) := Lib.hid (hva3.imp id fun ⟨k, h1, h2⟩ => ⟨k, h1, by omega⟩)
        have hs3 : wr.heap.size < w3.heap.size := by have := k3.size; omega
        clear h3 r3 j3 x3 k3 hva3 CX c0 c7 hYF hokY
        have A3 : ORow cA 38 w3 B v ps := ORow.back HAv.out J3.out HTl.out HSh.out (fun k hk => (HVl.out k hk).2) K3.out (fun g hg hf => by
          rcases hf with hf | hf | hf
          · exact absurd hf (own_box_type HAv.out HXj.out g hg)
          · exact hf
          · exact absurd hf (own_row_type HAv.out HRj.out g hg))
        obtain ⟨a5, n5, c5, w5, r5, o5, A5, G5, R5, X5, k5, hn5⟩ := each_append (w := w) (w3 := w3) (by omega) (by omega) HOk.out A3 (fun k hk => (HVl.out k hk).2) J3.out HTl.out HSh.out R3.out X3.out ⟨3, x0', x1', x2', n0', n1', n2'⟩ sb (.slice a' len' cap') (HS.out.kept K3.out HOY.out) (by rw [List.length_append, HTl.out]; have := HBn.out.1; omega)
        have hs5 := k5.size
        have hK35 : Kids cA w5 ok (ps ++ (ls.take j ++ [(Sh.mk ⟨3, x0', x1', x2', n0', n1', n2'⟩ sb, Value.slice a' len' cap')])) := by
          rw [← List.append_assoc]
          refine ((HQk.out.append (fun q hq => by rw [List.mem_singleton] at hq; subst hq; exact HS.out)).kept K3.out HOY.out).kept k5 (fun b o hb hf => ?_)
          exact HOY.out b o hb (.inr (.inl hf))
        have hl5 : (ps ++ (ls.take j ++ [(Sh.mk ⟨3, x0', x1', x2', n0', n1', n2'⟩ sb, Value.slice a' len' cap')])).length = ps.length + j + 1 := by
          rw [List.length_append, List.length_append, HTl.out]; rfl
        have hw3l : ws3.length ≤ countL sb := by
          have h1 := congrArg List.length H3.out
          have := HQl.out
          rw [List.length_map] at h1
          omega
        have HD := Lib.hid (hand_any ok B (fun g => p g ∧ (Value.slice a5 n5 c5).ownBlock ≠ some g) X w5 (At.own o5) hK35 ⟨by omega, by have := HBn.out.1; omega⟩ X5 R5 HOk.out hBX (by omega) (fun g hg => ⟨HP2.out g (by omega), fun e => by
          obtain ⟨_, cur, hc⟩ := ownsBlk o5 g e
          have := hc.lt; omega⟩) (by rw [List.length_append, List.length_append]; have := HBn.out.2; omega))
        have RR5 := Lib.hid r5
        have O5 := Lib.hid o5
        have A5' := Lib.hid A5
        have G5' := Lib.hid G5
        have X5' := Lib.hid X5
        have R5' := Lib.hid R5
        have K5 := Lib.hid k5
        have HTr : Hid ((wsj ++ ws3 ++ [ps ++ (ls.take j ++ [(Sh.mk ⟨3, x0', x1', x2', n0', n1', n2'⟩ sb, Value.slice a' len' cap')])]).map tr = chL (l.take (j + 1)) (tr ps)) := Lib.hid (by
          rw [HNc.out, List.map_append, List.map_append, HWs.out, H3.out, List.append_assoc]
          simp only [List.map_cons, List.map_nil]
          rw [tr_append, tr_append, HT.out, List.append_assoc]; rfl)
        clear r5 o5 A5 G5 X5 R5 k5 hn5 hK35 hl5 hw3l A3
        go_wp2_with (first
          | ((with_reducible refine wpList_load_A rfl (.tmp 12) rfl _ _ rfl ⟨3, x0', x1', x2', n0', n1', n2'⟩ (.slice a' len' cap') ?_ ?_)
             · exact HRng.out)
          | ((with_reducible refine wpList_load_A rfl (.tmp 7) rfl _ _ rfl ⟨3, x0', x1', x2', n0', n1', n2'⟩ (.slice a' len' cap') ?_ ?_)
             · exact World.rangeAt_of_block BY3.out 0 8)
          | (at_builtin; refine wpList_append_run rfl (.tmp 22) (.tmp 24) 22 rfl _ _ rfl rfl RR5.out ?_))
        refine HD.out.mono ?_
        rintro e w6 ⟨rfl, va6, x6, r6, k6, hva6⟩
        have X6 := Lib.hid x6
        have R6 := Lib.hid r6
        have A6 := Lib.hid (A5'.out.far k6 (fun g hg hf => hf.elim (own_box_type A5'.out X5'.out g hg) (own_row_type A5'.out R5'.out g hg)))
        have O6 := Lib.hid (O5.out.far k6 (fun g hg hf => hf.elim (own_box_type O5.out X5'.out g hg) (own_row_type O5.out R5'.out g hg)))
        have K6 : Hid (Kept (fun k => k = X ∨ v.ownBlock = some k ∨ va.ownBlock = some k) w w6) := Lib.hid (HK.out.trans (((K3.out.trans K5.out (fun i _ e => .inr (.inl e))).trans k6 (fun i hi e => by
          rcases e with e | e
          · exact .inl e
          · rcases HV3.out with h | ⟨k, h, h2⟩
            · right; right; rw [← h]; exact e
            · rw [h] at e; cases e; omega))) HSub.out)
        have HV6 : Hid (va6.ownBlock = va.ownBlock ∨ ∃ k, va6.ownBlock = some k ∧ w.heap.size ≤ k) := Lib.hid (by
          rcases hva6 with h | ⟨k, h, h2⟩
          · rw [h]
            rcases HV3.out with h | ⟨k, h, h2⟩
            · rw [h]; exact HVa.out
            · exact .inr ⟨k, h, by omega⟩
          · exact .inr ⟨k, h, by omega⟩)
        clear x6 r6 k6 hva6
        go_wp2_with fail
        go_roundw
        case rel =>
          refine ⟨j + 1, va6, wsj ++ ws3 ++ [ps ++ (ls.take j ++ [(Sh.mk ⟨3, x0', x1', x2', n0', n1', n2'⟩ sb, Value.slice a' len' cap')])], by omega, by go_num, HTr.out, X6.out, ?_, A6.out, ?_, G5'.out, K6.out, HV6.out⟩
          · have := R6.out
            rw [List.append_assoc, List.append_assoc] at this
            rw [List.append_assoc]
            exact this
          · rw [HN.out]; exact O6.out
        case measure => simp [intOf]; omega
      · have hk3' : (k' == 3) = false := by simpa using hk3
        obtain ⟨w3, hw3⟩ : ∃ w3, w3 = W1 := ⟨_, rfl⟩
        obtain ⟨va3, hva3⟩ : ∃ x, x = vaj := ⟨_, rfl⟩
        obtain ⟨ws3, hws3⟩ : ∃ x : List Prs, x = [] := ⟨_, rfl⟩
        have H3 : Hid (ws3.map tr = Q) := Lib.hid (by rw [HQ2.out hk3, hws3]; rfl)
        have R3 : Hid (LRow cA 38 22 w3 ok B (fun g => p g ∧ (Value.slice aj nj cj).ownBlock ≠ some g) va3 (ws ++ wsj ++ ws3)) := Lib.hid (by rw [hw3, hva3, hws3, List.append_nil]; exact HRj.out.keptN KW1.out)
        have J3 : Hid (ORow cA 38 w3 B (.slice aj nj cj) (ps ++ ls.take j)) := Lib.hid (by rw [hw3]; exact Kept.row KW1.out HAj.out (fun _ _ g => g))
        have X3 : Hid (Blk w3 X 25 #[va3]) := Lib.hid (by rw [hw3, hva3]; exact HXj.out.kept KW1.out id)
        have K3 : Hid (Kept (fun k => k = X ∨ (Value.slice aj nj cj).ownBlock = some k ∨ vaj.ownBlock = some k) wr w3) := Lib.hid (by rw [hw3]; exact KW1.out.mono (fun _ _ g => g.elim))
        have BY3 : Hid (Blk w3 wr.heap.size 38 (arrA ⟨k', x0', x1', x2', n0', n1', n2'⟩ (.slice a' len' cap'))) := Lib.hid (by rw [hw3]; exact BY1.out)
        have HV3 : Hid (va3.ownBlock = vaj.ownBlock ∨ ∃ k, va3.ownBlock = some k ∧ wr.heap.size ≤ k) := Lib.hid (.inl (by rw [hva3]))
        have hs3 : wr.heap.size < w3.heap.size := by rw [hw3]; omega
        rw [← hw3] at hW1
        clear hva3 hws3 hYF hokY hw3 c0 c7
        have c0 := BY3.out.cell 0
        simp at c0
        have A3 : ORow cA 38 w3 B v ps := ORow.back HAv.out J3.out HTl.out HSh.out (fun k hk => (HVl.out k hk).2) K3.out (fun g hg hf => by
          rcases hf with hf | hf | hf
          · exact absurd hf (own_box_type HAv.out HXj.out g hg)
          · exact hf
          · exact absurd hf (own_row_type HAv.out HRj.out g hg))
        obtain ⟨a5, n5, c5, w5, r5, o5, A5, G5, R5, X5, k5, hn5⟩ := each_append (w := w) (w3 := w3) (by omega) (by omega) HOk.out A3 (fun k hk => (HVl.out k hk).2) J3.out HTl.out HSh.out R3.out X3.out ⟨k', x0', x1', x2', n0', n1', n2'⟩ sb (.slice a' len' cap') (HS.out.kept K3.out HOY.out) (by rw [List.length_append, HTl.out]; have := HBn.out.1; omega)
        have hs5 := k5.size
        have hK35 : Kids cA w5 ok (ps ++ (ls.take j ++ [(Sh.mk ⟨k', x0', x1', x2', n0', n1', n2'⟩ sb, Value.slice a' len' cap')])) := by
          rw [← List.append_assoc]
          refine ((HQk.out.append (fun q hq => by rw [List.mem_singleton] at hq; subst hq; exact HS.out)).kept K3.out HOY.out).kept k5 (fun b o hb hf => ?_)
          exact HOY.out b o hb (.inr (.inl hf))
        have hl5 : (ps ++ (ls.take j ++ [(Sh.mk ⟨k', x0', x1', x2', n0', n1', n2'⟩ sb, Value.slice a' len' cap')])).length = ps.length + j + 1 := by
          rw [List.length_append, List.length_append, HTl.out]; rfl
        have hw3l : ws3.length ≤ countL sb := by
          have h1 := congrArg List.length H3.out
          have := HQl.out
          rw [List.length_map] at h1
          omega
        have HD := Lib.hid (hand_any ok B (fun g => p g ∧ (Value.slice a5 n5 c5).ownBlock ≠ some g) X w5 (At.own o5) hK35 ⟨by omega, by have := HBn.out.1; omega⟩ X5 R5 HOk.out hBX (by omega) (fun g hg => ⟨HP2.out g (by omega), fun e => by
          obtain ⟨_, cur, hc⟩ := ownsBlk o5 g e
          have := hc.lt; omega⟩) (by rw [List.length_append, List.length_append]; have := HBn.out.2; omega))
        have RR5 := Lib.hid r5
        have O5 := Lib.hid o5
        have A5' := Lib.hid A5
        have G5' := Lib.hid G5
        have X5' := Lib.hid X5
        have R5' := Lib.hid R5
        have K5 := Lib.hid k5
        have HTr : Hid ((wsj ++ ws3 ++ [ps ++ (ls.take j ++ [(Sh.mk ⟨k', x0', x1', x2', n0', n1', n2'⟩ sb, Value.slice a' len' cap')])]).map tr = chL (l.take (j + 1)) (tr ps)) := Lib.hid (by
          rw [HNc.out, List.map_append, List.map_append, HWs.out, H3.out, List.append_assoc]
          simp only [List.map_cons, List.map_nil]
          rw [tr_append, tr_append, HT.out, List.append_assoc]; rfl)
        clear r5 o5 A5 G5 X5 R5 k5 hn5 hK35 hl5 hw3l A3
        go_wp2_with (first
          | ((with_reducible refine wpList_load_A rfl (.tmp 12) rfl _ _ rfl ⟨k', x0', x1', x2', n0', n1', n2'⟩ (.slice a' len' cap') ?_ ?_)
             · exact HRng.out)
          | ((with_reducible refine wpList_load_A rfl (.tmp 7) rfl _ _ rfl ⟨k', x0', x1', x2', n0', n1', n2'⟩ (.slice a' len' cap') ?_ ?_)
             · exact World.rangeAt_of_block BY3.out 0 8)
          | (at_builtin; refine wpList_append_run rfl (.tmp 22) (.tmp 24) 22 rfl _ _ rfl rfl RR5.out ?_))
        refine HD.out.mono ?_
        rintro e w6 ⟨rfl, va6, x6, r6, k6, hva6⟩
        have X6 := Lib.hid x6
        have R6 := Lib.hid r6
        have A6 := Lib.hid (A5'.out.far k6 (fun g hg hf => hf.elim (own_box_type A5'.out X5'.out g hg) (own_row_type A5'.out R5'.out g hg)))
        have O6 := Lib.hid (O5.out.far k6 (fun g hg hf => hf.elim (own_box_type O5.out X5'.out g hg) (own_row_type O5.out R5'.out g hg)))
        have K6 : Hid (Kept (fun k => k = X ∨ v.ownBlock = some k ∨ va.ownBlock = some k) w w6) := Lib.hid (HK.out.trans (((K3.out.trans K5.out (fun i _ e => .inr (.inl e))).trans k6 (fun i hi e => by
          rcases e with e | e
          · exact .inl e
          · rcases HV3.out with h | ⟨k, h, h2⟩
            · right; right; rw [← h]; exact e
            · rw [h] at e; cases e; omega))) HSub.out)
        have HV6 : Hid (va6.ownBlock = va.ownBlock ∨ ∃ k, va6.ownBlock = some k ∧ w.heap.size ≤ k) := Lib.hid (by
          rcases hva6 with h | ⟨k, h, h2⟩
          · rw [h]
            rcases HV3.out with h | ⟨k, h, h2⟩
            · rw [h]; exact HVa.out
            · exact .inr ⟨k, h, by omega⟩
          · exact .inr ⟨k, h, by omega⟩)
        clear x6 r6 k6 hva6
        go_wp2_with fail
        go_roundw
        case rel =>
          refine ⟨j + 1, va6, wsj ++ ws3 ++ [ps ++ (ls.take j ++ [(Sh.mk ⟨k', x0', x1', x2', n0', n1', n2'⟩ sb, Value.slice a' len' cap')])], by omega, by go_num, HTr.out, X6.out, ?_, A6.out, ?_, G5'.out, K6.out, HV6.out⟩
          · have := R6.out
            rw [List.append_assoc, List.append_assoc] at this
            rw [List.append_assoc]
            exact this
          · rw [HN.out]; exact O6.out
        case measure => simp [intOf]; omega
    · obtain rfl : j = len := by omega
      have HE : Hid (l.take j = l) := Lib.hid (by rw [← HL.out]; simp)
      go_wp2_with fail
      refine bodyPost_ret (v := .tuple #[]) (by simp [results, Try.results20, go_sem]) rfl ⟨rfl, vaj, wsj, by rw [HWs.out, HE.out], HXj.out, HRj.out.mono (fun g _ _ hg => hg.1), HAv.out, HK.out, HVa.out⟩
theorem each_tree : ∀ s : Sh, ∀ ok p B X a cap v ps va ws w, Holds cA w ok (.slice a s.subs.length cap) s.subs → ORow cA 38 w B v ps → Kids cA w ok ps → Blk w X 25 #[va] → LRow cA 38 22 w ok B p va ws →
    (∀ b o, ok b o → b < B) → B ≤ X → B ≤ w.heap.size → (∀ g, p g → v.ownBlock ≠ some g) → (∀ g, w.heap.size ≤ g → p g) → ps.length + countL s.subs ≤ 5000 → ws.length + countL s.subs ≤ 5000 →
    Calls Try.prog 20 #[v, .slice a s.subs.length cap, handF X] w (EachEnd ok p B X s.subs v ps va ws w) := by
  refine Sh.ind fun hd subs ih ok p B X a cap v ps va ws w h1 h2 h3 h4 h5 h6 h7 h8 h9 h10 h11 h12 => ?_
  exact each_step subs _ rfl (fun hd' sb hx => ih _ hx) ok p B X a cap v ps va ws w h1 h2 h3 h4 h5 h6 h7 h8 h9 h10 h11 h12
set_option maxHeartbeats 1000000 in
/-- The program's chains, as a law sees them. -/
theorem chains_any (l : List Sh) (hc : countL l ≤ 16) (hk : chkL l 1 = 0) (ok : Nat → Nat → Prop) (a : Option Addr) (cap : Nat) (w : World) (h : Holds cA w ok (.slice a l.length cap) l) (hok : ∀ b o, ok b o → b < w.heap.size) :
    Calls Try.prog 8 #[.slice a l.length cap] w fun e w' => ∃ a' n' c', e = .returned (.slice a' n' c') ∧ Lists cA w' (fun b _ => b < w'.heap.size) (.slice a' n' c') (chL l []) ∧ Kept Nil w w' := by
  have CR := Lib.hid (scopeRight_any l hc hk ok a cap w h)
  have CE : Hid (∀ (w1 W : World) (X : Nat), Kept Nil w w1 → Kept Nil w W → w1.heap.size = X → Blk W X 25 #[.slice none 0 0] → W.heap.size = X + 1 → Calls Try.prog 20 #[.slice none 0 0, .slice a l.length cap, handF X] W (EachEnd ok (fun g => w.heap.size ≤ g) w.heap.size X l (.slice none 0 0) [] (.slice none 0 0) [] W)) := Lib.hid fun w1 W X k1 k hX hb hs => by
    have := k1.size
    exact each_tree (.mk zeroH l) ok (fun g => w.heap.size ≤ g) w.heap.size X a cap (.slice none 0 0) [] (.slice none 0 0) [] W (h.keptN k) (ORow.nil W) Kids.nil hb (LRow.nil W) hok (by omega) (by omega) (fun g _ e => by cases e) (fun g hg => by omega) (by simp [Sh.subs]; omega) (by simp [Sh.subs]; omega)
  have HOk := Lib.hid hok
  clear h hok hk hc
  generalize l.length = n at *
  go_enter Try.func8, Try.ntmps8
  go_wp2_with fail
  refine CR.out.mono ?_
  rintro e w1 ⟨rfl, k1⟩
  have K1 := Lib.hid k1
  clear k1
  go_wp2_with fail
  refine (CE.out w1 _ _ K1.out (K1.out.alloc _) rfl (Blk.new _ _ _) (by simp)).mono ?_
  rintro e w2 ⟨rfl, va', ws', h1, h2, h3, h4, h5, h6⟩
  have hL := h3.lists kindA (ok' := fun b _ => b < w2.heap.size) (fun b o hb => by have := HOk.out b o hb; have := K1.out.size; have := h5.size; simp at this; omega) (fun g _ hg => hg)
  have h1' : ws'.map tr = chL l [] := h1
  rw [List.nil_append, h1'] at hL
  have HL := Lib.hid hL
  have HK : Hid (Kept Nil w w2) := Lib.hid ((K1.out.alloc _).trans h5 (fun i hi e => by
    have := K1.out.size
    rcases e with e | e | e
    · omega
    · cases e
    · cases e))
  have c0 := h2.cell 0
  simp at c0
  obtain ⟨a', n', c', rfl⟩ : ∃ a' n' c', va' = .slice a' n' c' := by obtain ⟨x, y, e⟩ := h3.shape; exact ⟨x, _, y, e⟩
  clear h1 h2 h3 h4 h5 h6 hL h1'
  go_wp2_with fail
  go_ret
  exact ⟨a', n', c', rfl, HL.out, HK.out⟩
end Go.Proofs.Ythabnbljngejbaa
