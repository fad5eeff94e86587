/- Blocks (block.Blocks[string,int]): New, Open. -/
import Derived.Test.YtodghgeghpbdlaaBpH
import Derived.Test.YtodghgeghpbdlaaZPush
namespace Go.Proofs.Ytodghgeghpbdlaa
open Go.RowKit Go.Maps Go.WideMaps
set_option maxRecDepth 100000

section
variable {w w' : World} {B pb n : Nat} {R : List ByteArray} {Ps : List (ByteArray × Int)} {s : SP}
theorem BSP.m_lt (h : BSP w B pb R Ps n s) {b : Nat} (e : s.m = .map (some b)) : b < w.heap.size := by
  rcases h.lst.mp with ⟨e2, _⟩ | ⟨bm, D, e2, _, ho, _⟩
  · rw [e] at e2; cases e2
  · rw [e] at e2; cases e2; exact ho.lt
theorem BSP.opened (h : BSP w B pb R Ps n s) {k : ByteArray} (hk : k ∉ R) {W1 W2 W3 : World} {mb N : Nat} {m' : Value} {g' : Nat → Nat} (hN : N = s.vals.length + 1) (k1 : Kept Nil w W1) (hB : B ≤ w.heap.size) (hmb : w.heap.size ≤ mb) (hM : MapF KI (.bool false) W1 mb [] (fun _ => .bool true))
    (hL : LstP W2 B s.p m' g' (s.row ++ [N]) (s.vals ++ [(k, some mb)])) (hm' : m' = s.m ∨ ∃ bm, m' = .map (some bm) ∧ W1.heap.size ≤ bm) (k2 : Kept (FoP W1 B s.m) W1 W2)
    (hd : MapF KS (.int .i64 0) W3 s.bh (R ++ [k]) (fun x => .int .i64 (updF s.H k N x : Nat))) (hg : W2.grownBy W3 (some s.bh)) :
    BSP W3 B pb (R ++ [k]) Ps (n + 1) ⟨s.p, s.bh, m', g', s.row ++ [N], s.vals ++ [(k, some mb)], updF s.H k N, updF s.Mb k mb⟩ ∧ Kept (FBP w B) w W3 := by
  have h1 := h.keptN k1
  have k3 : Kept (fun b => b = s.bh) W2 W3 := (Kept.refl _ W2).grown hg (fun j e => .inl (by cases e; rfl))
  have hbh := h.hd.lt
  have hbh1 := h1.hd.lt
  have hmb1 := hM.lt
  have hsz := k1.size
  have hd2 : MapF KS (.int .i64 0) W2 s.bh R (fun x => .int .i64 (s.H x : Nat)) := h1.hd.kept k2 (fun e => (h1.fo_ne e).2.1 rfl)
  have hlt : ∀ k' ∈ R, s.Mb k' < w.heap.size := fun k' hk' => (h.bl k' hk').2.lt
  have hM2 : MapF KI (.bool false) W2 mb [] (fun _ => .bool true) := hM.kept k2 (fun e => by
    rcases e.2 with e | ⟨cs, f, e | e⟩
    · have := h.m_lt e; omega
    · exact hM.isMap e
    · exact hM.isMap e)
  have mne : ∀ b, b < W1.heap.size → s.m ≠ .map (some b) → m' ≠ .map (some b) := fun b hb hn => by
    rcases hm' with e | ⟨bm, e, hbm⟩
    · rw [e]; exact hn
    · rw [e]; intro e2; cases e2; omega
  have kept3 : Kept (FBP w B) w W3 := by
    have q12 : Kept (FBP W1 B) W1 W2 := k2.mono (fun j _ e => FBP.of_fo h1 e)
    have q23 : Kept (FBP W2 B) W2 W3 := k3.mono (fun j _ e => by rw [e]; exact ⟨h.baseH, .inl hd2.blk⟩)
    exact FBP.after k1 (FBP.trans q12 q23)
  refine ⟨⟨h.baseB, h.baseH, ?_, hL.kept k3 (fun j hj e => ?_), ?_, ?_, fun k' hk' => ?_, hd, fun k' hk' => ?_, mne _ hbh1 h.am, fun k' hk' => ?_, fun a ha b hb e => ?_, h.ndP, fun x hx => List.mem_append_left _ (h.sub x hx), ?_, Nat.le_succ_of_le h.lp⟩, kept3⟩
  · exact (h1.here.kept k2 (fun e => (h1.fo_ne e).1 rfl)).kept k3 h.pb_ne.1
  · rcases hj.2 with e2 | ⟨cs, f, e2⟩
    · exact mne _ hbh1 h.am (by rw [e2, e])
    · rw [e] at e2
      rcases e2 with e2 | e2 <;> exact hd2.isMap e2
  · show s.row ++ [N] = (R ++ [k]).map (updF s.H k N)
    rw [List.map_append, map_updF hk, ← h.rowR]
    simp [updF_same]
  · show (s.row ++ [N]).Pairwise _
    rw [List.pairwise_append]
    refine ⟨h.rise, by simp, fun a ha b hb => ?_⟩
    have := (h.lst.range a ha).2
    rw [List.mem_singleton.1 hb]
    omega
  · show (s.vals ++ [(k, some mb)])[updF s.H k N k' - 1]? = some (k', some (updF s.Mb k mb k'))
    by_cases e : k' = k
    · subst e
      rw [updF_same, updF_same, hN, Nat.add_sub_cancel, List.getElem?_append_right (Nat.le_refl _)]
      simp
    · have hR := (List.mem_append.1 hk').resolve_right (fun e2 => e (List.mem_singleton.1 e2))
      rw [updF_other e, updF_other e]
      have := h.Hpos hR
      rw [List.getElem?_append_left (by omega)]
      exact h.hv k' hR
  · show B ≤ updF s.Mb k mb k' ∧ MapF KI (.bool false) W3 (updF s.Mb k mb k') (bls Ps k') _
    by_cases e : k' = k
    · subst e
      rw [updF_same, bls_none h.sub hk]
      exact ⟨by omega, hM2.kept k3 (fun e => by omega)⟩
    · have hR := (List.mem_append.1 hk').resolve_right (fun e2 => e (List.mem_singleton.1 e2))
      rw [updF_other e]
      exact ⟨(h.bl k' hR).1, ((h1.bl k' hR).2.kept k2 (fun e => (h1.fo_ne e).2.2 k' hR rfl)).kept k3 (h.amb k' hR).2⟩
  · show m' ≠ .map (some (updF s.Mb k mb k')) ∧ updF s.Mb k mb k' ≠ s.bh
    by_cases e : k' = k
    · subst e
      rw [updF_same]
      exact ⟨mne _ hmb1 (fun e => by have := h.m_lt e; omega), by omega⟩
    · have hR := (List.mem_append.1 hk').resolve_right (fun e2 => e (List.mem_singleton.1 e2))
      rw [updF_other e]
      exact ⟨mne _ (by have := hlt k' hR; omega) (h.amb k' hR).1, (h.amb k' hR).2⟩
  · have e : updF s.Mb k mb a = updF s.Mb k mb b := e
    by_cases ea : a = k
    · by_cases eb : b = k
      · rw [ea, eb]
      · have hR := (List.mem_append.1 hb).resolve_right (fun e2 => eb (List.mem_singleton.1 e2))
        rw [ea, updF_same, updF_other eb] at e
        have := hlt b hR; omega
    · have hR := (List.mem_append.1 ha).resolve_right (fun e2 => ea (List.mem_singleton.1 e2))
      by_cases eb : b = k
      · rw [eb, updF_same, updF_other ea] at e
        have := hlt a hR; omega
      · have hRb := (List.mem_append.1 hb).resolve_right (fun e2 => eb (List.mem_singleton.1 e2))
        rw [updF_other ea, updF_other eb] at e
        exact h.inj a hR b hRb e
  · show (s.vals ++ [(k, some mb)]).length ≤ n + 1
    have := h.lv
    simp; omega
/-- New. -/
theorem newB_p (w : World) :
    Calls Try.prog 26 #[] w fun e w' => ∃ pb, e = .returned (.pointer (some ⟨pb, 0, none⟩)) ∧ BTP w' w.heap.size pb [] [] 0 ∧ Kept Nil w w' ∧ w.heap.size ≤ pb := by
  have hmm := @run_makeMap Try.prog
  go_enter Try.func26, Try.ntmps26
  go_wp2_with fail
  refine (new_p w).mono ?_
  rintro e w1 ⟨rfl, hl, k1⟩
  have hlt := hl.here.lt
  have hsz := k1.size
  have K2 := Lib.hid ((k1.alloc (.map #[] 0)).alloc (.cells #[.pointer (some ⟨w.heap.size, 0, none⟩), .map (some w1.heap.size), .int .i64 0] 139))
  have BB := Lib.hid (Blk.new (w1.alloc (.map #[] 0)) 139 #[.pointer (some ⟨w.heap.size, 0, none⟩), .map (some w1.heap.size), .int .i64 0])
  have HM := Lib.hid ((MapF.made KS (.int .i64 0) (fun _ => .int .i64 (0 : Nat)) w1).alloc (.cells #[.pointer (some ⟨w.heap.size, 0, none⟩), .map (some w1.heap.size), .int .i64 0] 139))
  have HL := Lib.hid ((hl.keptN ((Kept.refl Nil w1).alloc (.map #[] 0))).keptN ((Kept.refl Nil _).alloc (.cells #[.pointer (some ⟨w.heap.size, 0, none⟩), .map (some w1.heap.size), .int .i64 0] 139)))
  have HS := Lib.hid hsz
  clear hl k1
  go_wp2_with fail
  go_ret
  exact ⟨_, rfl, ⟨⟨w.heap.size, w1.heap.size, .map none, fun _ => 0, [], [], fun _ => 0, fun _ => 0⟩, by have := HS.out; simp; omega, HS.out, by simpa using BB.out, HL.out, rfl, List.Pairwise.nil, by simp, HM.out, by simp, by simp, by simp, by simp, List.nodup_nil, by simp, by simp, by simp⟩, K2.out, by have := HS.out; simp; omega⟩
end
end Go.Proofs.Ytodghgeghpbdlaa
