/- CompSteps: the walk over the law's own code. -/
import Derived.Test.YtoceogbanlmnoaaGRefOfT
import Derived.Test.YtoceogbanlmnoaaGBack
import Derived.Test.YtoceogbanlmnoaaGG
import Derived.Test.YtoceogbanlmnoaaGD
import Derived.Test.YtoceogbanlmnoaaEFine
import Derived.Test.YtoceogbanlmnoaaERef
import Derived.Deep.RegionLaw
import Derived.Deep.DeepCutAuto
import Derived.Deep.RegionHeld3
namespace Go.Proofs.Ytoceogbanlmnoaa
open Go.RowKit
set_option maxRecDepth 100000

/-- append of conditions, however many a machine can hold. -/
theorem appendC_wide {w : World} {B : Nat} {v u : Value} {ps qs : Prs} {ok : Nat → Nat → Prop} (h : ORow cA 27 w B v ps) (hu : Lies cA w u qs) (hk : Kids cA w ok qs) (hle : (ps.length + qs.length) * 80 ≤ 140737488355328) (hB : B ≤ w.heap.size) :
    ∃ v' w', (Builtin.append_ #[22, 22] 22 #[v, u]).run Try.prog w = .ok v' w' ∧ ORow cA 27 w' B v' (ps ++ qs) ∧ Kept (fun k => v.ownBlock = some k) w w' ∧ (v'.ownBlock = v.ownBlock ∨ v'.ownBlock = some w.heap.size) := by
  obtain ⟨i, hi, hz, hsz, hby⟩ := info_parts infoCA
  have ht := Try.underlying22
  have hl := flatC_len kindA qs
  have h1 := hk.one kindA
  have key : ∃ v' w', (Builtin.append_ #[22, 22] 22 #[v, u]).run Try.prog w = .ok v' w' ∧ w'.ownsRow B 27 8 v' (ps.length + qs.length) (flatC cA ps ++ flatC cA qs) ∧ Kept (fun k => v.ownBlock = some k) w w' ∧ (v'.ownBlock = v.ownBlock ∨ v'.ownBlock = some w.heap.size) := by
    obtain ⟨a, c, rfl, hat⟩ := hu
    have main : ∀ ad : Addr, a = some ad → (∀ j x, (flatC cA qs)[j]? = some x → w.cell? (ad.add j) = some x) → ∃ v' w', (Builtin.append_ #[22, 22] 22 #[v, .slice a qs.length c]).run Try.prog w = .ok v' w' ∧ w'.ownsRow B 27 8 v' (ps.length + qs.length) (flatC cA ps ++ flatC cA qs) ∧ Kept (fun k => v.ownBlock = some k) w w' ∧ (v'.ownBlock = v.ownBlock ∨ v'.ownBlock = some w.heap.size) := by
      intro ad ha hnews
      subst ha
      obtain ⟨v', w', r, o, g, _, h5⟩ := run_append_own_at (P := Try.prog) w B 22 22 27 i _ 8 80 ht hi hz hsz hby rfl (by decide) v ps.length (flatC cA ps) h ad qs.length c (flatC cA qs) hl hnews h1 (by unfold maxLen; omega) hle hB
      exact ⟨v', w', r, o, ⟨g.os, g.tape, g.output, g.size, fun k hk hF => g.block k hk (fun e => hF e.symm)⟩, h5⟩
    rcases hat with e0 | ⟨b, o, rfl, hc⟩
    · have hq0 : qs.length = 0 := by have := congrArg List.length e0; rw [hl] at this; simp at this; omega
      cases a with
      | none =>
        rw [hq0, e0]
        refine ⟨v, w, ?_, by simpa using h, Kept.refl _ _, .inl rfl⟩
        rcases h.2 with ⟨rfl, _⟩ | ⟨g, cap, cur, rfl, _, _, hnc, _⟩
        · simp [Builtin.append_, run_underlying ht, sizeOf, typeInfo, hi, Builtin.lenOf, Builtin.firstCells]
        · simp [Builtin.append_, run_underlying ht, sizeOf, typeInfo, hi, Builtin.lenOf, Builtin.firstCells, hnc, storeCells]
      | some ad => exact main ad rfl (fun j x hj => by rw [e0] at hj; simp at hj)
    · refine main _ rfl (fun j x hj => ?_)
      rw [Addr.add_mid]
      exact hc j x hj
  obtain ⟨v', w', r, o, k, h5⟩ := key
  exact ⟨v', w', r, by show World.ownsRow _ _ _ _ _ _ _; rw [flatC_append, List.length_append]; exact o, k, h5⟩
/-- The condition is put behind the chain's copy, however long that is. -/
theorem step_wide {W w2 : World} {B e : Nat} {u : Value} {ps : Prs} {ok okc : Nat → Nat → Prop} (hB : B ≤ w2.heap.size) (ho : ORow cA 27 w2 B u ps) (hk : Kids cA w2 ok ps) (hd : Hd) (sb : List Sh) (vs : Value) (hE : Blk w2 e 27 (arrA hd vs)) (hs : Holds cA w2 okc vs sb) (hok : ∀ b o, ok b o → b < B) (hokc : ∀ b o, okc b o → b < B) (hl : (ps.length + 1) * 80 ≤ 140737488355328) (hWB : W.heap.size ≤ B) (k : Kept Nil W w2) :
    ∃ a3 c3 w3, (Builtin.append_ #[22, 22] 22 #[u, .slice (some ⟨e, 0, none⟩) 1 1]).run Try.prog w2 = .ok (.slice a3 (ps.length + 1) c3) w3 ∧
      Holds cA w3 (fun b _ => b < w3.heap.size) (.slice a3 (ps.length + 1) c3) (tr ps ++ [.mk hd sb]) ∧ Kept Nil W w3 := by
  obtain ⟨v5, w5, r5, o5, k5, _⟩ := appendC_wide (qs := [(.mk hd sb, vs)]) (ok := fun b _ => b < B) ho (⟨_, _, rfl, .inr ⟨_, _, rfl, fun j x hj => by rw [Nat.zero_add, hE.cell j, ← hj]; unfold flatC; simp [Sh.hd]⟩⟩) (fun p hp => by
    rw [List.mem_singleton] at hp; subst hp; exact hs.mono hokc) (by simpa using hl) hB
  have ks := k5.size
  have hkk : Kids cA w5 (fun b _ => b < w5.heap.size) (ps ++ [(.mk hd sb, vs)]) := fun p hp => by
    have nf : ∀ b, b < B → ¬ (u.ownBlock = some b) := fun b hb e => by have := (ownsBlk ho b e).1; omega
    rcases List.mem_append.1 hp with hp | hp
    · exact ((hk p hp).kept k5 (fun b _ hb e => nf b (hok b _ hb) e)).mono (fun b o hb => by have := hok b o hb; omega)
    · rw [List.mem_singleton] at hp; subst hp
      exact (hs.kept k5 (fun b _ hb e => nf b (hokc b _ hb) e)).mono (fun b o hb => by have := hokc b o hb; omega)
  obtain ⟨a5, n5, c5, rfl⟩ : ∃ a n c, v5 = .slice a n c := by obtain ⟨x, y, e⟩ := (At.own o5).shape; exact ⟨x, _, y, e⟩
  obtain ⟨sn1, sn2, sn3⟩ := ORow.seen o5
  have hh := Lies.holds kindA (ok := fun b _ => b < w5.heap.size) (a := a5) (n := n5) (cap := c5) (by have := At.own o5; rw [sn1] at this ⊢; exact this) hkk sn2 (fun b o e => sn3 b o e)
  rw [tr_append] at hh
  rw [List.length_append] at sn1
  have sn1' : n5 = ps.length + 1 := sn1
  subst sn1'
  exact ⟨a5, c5, w5, r5, hh, k.trans k5 (fun i hi e => by have := (ownsBlk ho i e).1; omega)⟩
/-- The chain is put into a slice that was made empty. -/
theorem app_one {w W : World} (kW : Kept Nil w W) {cps : Prs} {ac : Option Addr} {cc n g : Nat} (hcl : Lies cA w (.slice ac n cc) cps) (hck : Kids cA w (fun b _ => b < w.heap.size) cps) (hn : cps.length = n) (hl : (n + 1) * 80 ≤ 140737488355328) (hg : Blk W g 27 #[]) (hgw : w.heap.size ≤ g) :
    ∃ a1 c1 w1, (Builtin.append_ #[22, 22] 22 #[.slice (some ⟨g, 0, none⟩) 0 0, .slice ac n cc]).run Try.prog W = .ok (.slice a1 n c1) w1 ∧
      ORow cA 27 w1 w.heap.size (.slice a1 n c1) cps ∧ Kept (fun k => k = g) W w1 ∧ Kept Nil w w1 := by
  have o0 : ORow cA 27 W w.heap.size (.slice (some ⟨g, 0, none⟩) 0 0) [] := ⟨rfl, .inr ⟨g, 0, #[], rfl, hgw, hg, Nat.le_refl _, by decide, rfl, rfl⟩⟩
  obtain ⟨u1, w1, r1, o1, k1, _⟩ := appendC_wide (ok := fun b _ => b < w.heap.size) o0 (At.keptN hcl kW) (hck.kept kW (fun _ _ _ h => h)) (by simp; omega) (by have := kW.size; omega)
  obtain ⟨a1, n1, c1, rfl⟩ : ∃ a n c, u1 = .slice a n c := by obtain ⟨x, y, e⟩ := (At.own o1).shape; exact ⟨x, _, y, e⟩
  rw [List.nil_append] at o1
  obtain ⟨sn1, _, _⟩ := ORow.seen o1
  rw [hn] at sn1
  subst sn1
  have k1' : Kept (fun k => k = g) W w1 := k1.mono (fun k _ e => by cases e; rfl)
  exact ⟨a1, c1, w1, r1, o1, k1', kW.trans k1' (fun i hi e => by omega)⟩
/-- What the law appends, in each order in which the new blocks may come. -/
structure AppOut (w : World) (all : List Sh) (n : Nat) (ac : Option Addr) (cc : Nat) (g e : Nat) (W : World) : Prop where
  out : ∃ a1 c1 w1, (Builtin.append_ #[22, 22] 22 #[.slice (some ⟨g, 0, none⟩) 0 0, .slice ac n cc]).run Try.prog W = .ok (.slice a1 n c1) w1 ∧
    ∃ a3 c3 w3, (Builtin.append_ #[22, 22] 22 #[.slice a1 n c1, .slice (some ⟨e, 0, none⟩) 1 1]).run Try.prog w1 = .ok (.slice a3 (n + 1) c3) w3 ∧ Holds cA w3 (fun b _ => b < w3.heap.size) (.slice a3 (n + 1) c3) all ∧ Kept Nil w w3
theorem app_both {w W : World} (kW : Kept Nil w W) {chl : List Sh} {hd : Hd} {sb : List Sh} {vs : Value} {cps : Prs} {ac : Option Addr} {cc n g e : Nat} (hcp : tr cps = chl) (hcl : Lies cA w (.slice ac n cc) cps) (hck : Kids cA w (fun b _ => b < w.heap.size) cps) (hn : cps.length = n) (hl : (n + 1) * 80 ≤ 140737488355328) (hg : Blk W g 27 #[]) (hgw : w.heap.size ≤ g)
    (he : Blk W e 27 (arrA hd vs)) (hne : e ≠ g) (hs : Holds cA w (fun b _ => b < w.heap.size) vs sb) : AppOut w (chl ++ [.mk hd sb]) n ac cc g e W := by
  obtain ⟨a1, c1, w1, r1, o1, k1, kw1⟩ := app_one kW hcl hck hn hl hg hgw
  obtain ⟨a3, c3, w3, r3, h3, k3⟩ := step_wide (W := w) (B := w.heap.size) kw1.size o1 (ok := fun b _ => b < w.heap.size) (okc := fun b _ => b < w.heap.size) (hck.kept kw1 (fun _ _ _ h => h)) hd sb vs (he.kept k1 hne) (hs.keptN kw1) (fun b _ hb => hb) (fun b _ hb => hb) (by rw [hn]; exact hl) (Nat.le_refl _) kw1
  rw [hn] at r3 h3
  rw [hcp] at h3
  exact ⟨a1, c1, w1, r1, a3, c3, w3, r3, h3, k3⟩
/-- The new element's block is made behind the first append. -/
theorem app_late {w W : World} (kW : Kept Nil w W) {chl : List Sh} {hd : Hd} {sb : List Sh} {vs : Value} {cps : Prs} {ac : Option Addr} {cc n g : Nat} (hcp : tr cps = chl) (hcl : Lies cA w (.slice ac n cc) cps) (hck : Kids cA w (fun b _ => b < w.heap.size) cps) (hn : cps.length = n) (hl : (n + 1) * 80 ≤ 140737488355328) (hg : Blk W g 27 #[]) (hgw : w.heap.size ≤ g)
    (hs : Holds cA w (fun b _ => b < w.heap.size) vs sb) : ∃ a1 c1 w1, (Builtin.append_ #[22, 22] 22 #[.slice (some ⟨g, 0, none⟩) 0 0, .slice ac n cc]).run Try.prog W = .ok (.slice a1 n c1) w1 ∧
    Kept (fun k => k = g) W w1 ∧ ∃ a3 c3 w3, (Builtin.append_ #[22, 22] 22 #[.slice a1 n c1, .slice (some ⟨w1.heap.size, 0, none⟩) 1 1]).run Try.prog (w1.alloc (.cells (arrA hd vs) 27)) = .ok (.slice a3 (n + 1) c3) w3 ∧ Holds cA w3 (fun b _ => b < w3.heap.size) (.slice a3 (n + 1) c3) (chl ++ [.mk hd sb]) ∧ Kept Nil w w3 := by
  obtain ⟨a1, c1, w1, r1, o1, k1, kw1⟩ := app_one kW hcl hck hn hl hg hgw
  have ka := kw1.alloc (.cells (arrA hd vs) 27)
  obtain ⟨a3, c3, w3, r3, h3, k3⟩ := step_wide (W := w) (B := w.heap.size) ka.size (Kept.row ((Kept.refl Nil w1).alloc (.cells (arrA hd vs) 27)) o1 (fun _ _ g => g)) (ok := fun b _ => b < w.heap.size) (okc := fun b _ => b < w.heap.size) (hck.kept ka (fun _ _ _ h => h)) hd sb vs (Blk.new _ _ _) (hs.keptN ka) (fun b _ hb => hb) (fun b _ hb => hb) (by rw [hn]; exact hl) (Nat.le_refl _) ka
  rw [hn] at r3 h3
  rw [hcp] at h3
  exact ⟨a1, c1, w1, r1, k1, a3, c3, w3, r3, h3, k3⟩
/-- What is read in the last region: the box of the condition, that of its step; and nothing that was there has changed. -/
abbrev SeenX (w0 : World) (B B' : Nat) (k : Int) (x0 x1 x2 : Bool) (n0 n1 n2 : Int) (v : Value) (jk j0 j1 j2 : Int) (t u : Value) (w' : World) : Prop :=
  w'.cell? ⟨B, 0, none⟩ = some (.int .i64 k) ∧ w'.cell? ⟨B, 1, none⟩ = some (.bool x0) ∧ w'.cell? ⟨B, 2, none⟩ = some (.int .i64 n0) ∧ w'.cell? ⟨B, 3, none⟩ = some (.bool x1) ∧ w'.cell? ⟨B, 4, none⟩ = some (.int .i64 n1) ∧ w'.cell? ⟨B, 5, none⟩ = some (.bool x2) ∧ w'.cell? ⟨B, 6, none⟩ = some (.int .i64 n2) ∧ w'.cell? ⟨B, 7, none⟩ = some v ∧
  w'.cell? ⟨B', 0, none⟩ = some (.int .i64 jk) ∧ w'.cell? ⟨B', 1, none⟩ = some (.int .i64 j0) ∧ w'.cell? ⟨B', 2, none⟩ = some (.int .i64 j1) ∧ w'.cell? ⟨B', 3, none⟩ = some (.int .i64 j2) ∧ w'.cell? ⟨B', 4, none⟩ = some t ∧ w'.cell? ⟨B', 5, none⟩ = some u ∧ Kept Nil w0 w'
section
variable {w0 w w' : World} {B B' : Nat} {k : Int} {x0 x1 x2 : Bool} {n0 n1 n2 : Int} {v : Value} {jk j0 j1 j2 : Int} {t u : Value}
theorem seenX_of {ts : List Tst} (r : Blk w B 27 (arrA ⟨k, x0, x1, x2, n0, n1, n2⟩ v)) (r' : Blk w B' 42 (arrS ⟨jk, j0, j1, j2, ts⟩ t u)) (kk : Kept Nil w0 w) : SeenX w0 B B' k x0 x1 x2 n0 n1 n2 v jk j0 j1 j2 t u w :=
  ⟨r.cell 0, r.cell 1, r.cell 2, r.cell 3, r.cell 4, r.cell 5, r.cell 6, r.cell 7, r'.cell 0, r'.cell 1, r'.cell 2, r'.cell 3, r'.cell 4, r'.cell 5, kk⟩
theorem seenX_kept (kk : Kept Nil w w') (h : SeenX w0 B B' k x0 x1 x2 n0 n1 n2 v jk j0 j1 j2 t u w) : SeenX w0 B B' k x0 x1 x2 n0 n1 n2 v jk j0 j1 j2 t u w' := by
  obtain ⟨h0, h1, h2, h3, h4, h5, h6, h7, g0, g1, g2, g3, g4, g5, hk⟩ := h
  exact ⟨kk.cellOf h0, kk.cellOf h1, kk.cellOf h2, kk.cellOf h3, kk.cellOf h4, kk.cellOf h5, kk.cellOf h6, kk.cellOf h7, kk.cellOf g0, kk.cellOf g1, kk.cellOf g2, kk.cellOf g3, kk.cellOf g4, kk.cellOf g5, hk.trans kk (fun _ _ g => g)⟩
theorem seenX_k (h : SeenX w0 B B' k x0 x1 x2 n0 n1 n2 v jk j0 j1 j2 t u w) : Kept Nil w0 w := h.2.2.2.2.2.2.2.2.2.2.2.2.2.2
end
theorem goes_one {l : List Sh} {s : Sh} (h : Goes (l ++ [s])) : l.length + s.count ≤ 16 := by
  have h1 := h.1
  rw [countL_append] at h1
  have h3 := length_countL l
  have h4 : countL [s] = s.count := by simp [countL]
  omega
set_option maxHeartbeats 8000000 in
theorem lawSteps_any (l : List Sh) (ac : Option Addr) (cc : Nat) (s : Sh) (a : Option Addr) (cap : Nat) (w : World) (hbig : l.length * 80 ≤ 140737488351232) (h : Holds cA w (fun b _ => b < w.heap.size) (.slice ac l.length cc) l) (hs : Holds cA w (fun b _ => b < w.heap.size) (.slice a s.subs.length cap) s.subs) :
    Calls Try.prog 3 #[.slice ac l.length cc, vA s.hd (.slice a s.subs.length cap)] w fun e w' => e = .returned (.bool true) ∧ Kept Nil w w' := by
  have HA := Lib.hid (fun W => awakeComp_any W)
  obtain ⟨cps, hcps, hcl, hck⟩ := h.pairs kindA
  have hcn : cps.length = l.length := by rw [← tr_len, hcps]
  have HH := Lib.hid h
  have HS := Lib.hid hs
  obtain ⟨⟨k, x0, x1, x2, n0, n1, n2⟩, subs⟩ := s
  obtain ⟨n, hn⟩ : ∃ n, l.length = n := ⟨_, rfl⟩
  obtain ⟨len, hlen⟩ : ∃ n, subs.length = n := ⟨_, rfl⟩
  have HS : Hid (Holds cA w (fun b _ => b < w.heap.size) (.slice a subs.length cap) subs) := Lib.hid hs
  show Calls Try.prog 3 #[.slice ac l.length cc, vA ⟨k, x0, x1, x2, n0, n1, n2⟩ (.slice a subs.length cap)] w _
  rw [hn] at HH hcn hcl hbig ⊢
  rw [hlen] at HS ⊢
  have HN := Lib.hid hn
  have HLen := Lib.hid hlen
  have hHs := HS.out
  have CF : Hid (∀ W a3 c3, Holds cA W (fun b _ => b < W.heap.size) (.slice a3 (n + 1) c3) (l ++ [.mk ⟨k, x0, x1, x2, n0, n1, n2⟩ subs]) → Calls Try.prog 8 #[.slice a3 (n + 1) c3] W (YesEnd (Goes (l ++ [.mk ⟨k, x0, x1, x2, n0, n1, n2⟩ subs])) W)) := Lib.hid fun W a3 c3 hh => by
    have := fineL_any (l ++ [.mk ⟨k, x0, x1, x2, n0, n1, n2⟩ subs]) _ a3 c3 W (by rw [List.length_append, hn]; exact hh) (fun b o hb => hb)
    rw [List.length_append, hn] at this
    exact this
  unfold YesEnd at CF
  obtain ⟨W0, hW0⟩ : ∃ W0, w.alloc (.cells (arrA ⟨k, x0, x1, x2, n0, n1, n2⟩ (.slice a len cap)) 27) = W0 := ⟨_, rfl⟩
  have kW0 : Kept Nil W0 W0.drew := (Kept.refl Nil W0).drew
  have B0 : Hid (Blk W0 w.heap.size 27 (arrA ⟨k, x0, x1, x2, n0, n1, n2⟩ (.slice a len cap))) := Lib.hid (by rw [← hW0]; exact Blk.new w _ _)
  have K0 := Lib.hid (show Kept Nil w W0 by rw [← hW0]; exact (Kept.refl Nil w).alloc _)
  have hw0 : W0.heap.size ≤ W0.drew.heap.size := kW0.size
  have hlt0 := K0.out.size
  replace hcl := At.keptN hcl K0.out
  replace hck : Kids cA W0 (fun b _ => b < W0.heap.size) cps := fun p hp => ((hck p hp).keptN K0.out).mono (fun b o hb => by omega)
  replace hHs : Holds cA W0 (fun b _ => b < W0.heap.size) (.slice a len cap) subs := (hHs.keptN K0.out).mono (fun b o hb => by omega)
  -- the three orders
  obtain ⟨WA, hWA⟩ : ∃ W, W0.drew.alloc (.cells #[] 27) = W := ⟨_, rfl⟩
  obtain ⟨WAB, hWAB⟩ : ∃ W, WA.alloc (.cells (arrA ⟨k, x0, x1, x2, n0, n1, n2⟩ (.slice a len cap)) 27) = W := ⟨_, rfl⟩
  obtain ⟨WB, hWB⟩ : ∃ W, W0.drew.alloc (.cells (arrA ⟨k, x0, x1, x2, n0, n1, n2⟩ (.slice a len cap)) 27) = W := ⟨_, rfl⟩
  obtain ⟨WBA, hWBA⟩ : ∃ W, WB.alloc (.cells #[] 27) = W := ⟨_, rfl⟩
  have sA : WA.heap.size = W0.heap.size + 1 := by rw [← hWA]; simp
  have sB : WB.heap.size = W0.heap.size + 1 := by rw [← hWB]; simp
  have kA : Kept Nil W0 WA := by rw [← hWA]; exact kW0.alloc _
  have kAB : Kept Nil W0 WAB := by rw [← hWAB]; exact kA.alloc _
  have kB : Kept Nil W0 WB := by rw [← hWB]; exact kW0.alloc _
  have kBA : Kept Nil W0 WBA := by rw [← hWBA]; exact kB.alloc _
  have bA : Blk WA W0.heap.size 27 #[] := by rw [← hWA]; exact Blk.new W0.drew _ _
  have V1 := app_late kA (chl := l) (hd := ⟨k, x0, x1, x2, n0, n1, n2⟩) (sb := subs) (vs := .slice a len cap) hcps hcl hck hcn (by omega) bA hw0 hHs
  have V2 := app_both kAB (chl := l) (hd := ⟨k, x0, x1, x2, n0, n1, n2⟩) (sb := subs) (vs := .slice a len cap) (g := W0.heap.size) (e := WA.heap.size) hcps hcl hck hcn (by omega) (by rw [← hWAB]; exact bA.alloc _) hw0 (by rw [← hWAB]; exact Blk.new WA _ _) (by omega) hHs
  have V3 := app_both kBA (chl := l) (hd := ⟨k, x0, x1, x2, n0, n1, n2⟩) (sb := subs) (vs := .slice a len cap) (g := WB.heap.size) (e := W0.heap.size) hcps hcl hck hcn (by omega) (by rw [← hWBA]; exact Blk.new WB _ _) (by omega) (by rw [← hWBA, ← hWB]; exact (Blk.new W0.drew _ _).alloc _) (by omega) hHs
  obtain ⟨a1, c1, w1, r1, k1, a3, c3, w3, r3, h3, k3⟩ := V1
  obtain ⟨⟨a4, c4, w4, r4, a5, c5, w5, r5, h5, k5⟩⟩ := V2
  obtain ⟨⟨a6, c6, w6, r6, a7, c7, w7, r7, h7, k7⟩⟩ := V3
  obtain ⟨W1B, hW1B⟩ : ∃ W, w1.alloc (.cells (arrA ⟨k, x0, x1, x2, n0, n1, n2⟩ (.slice a len cap)) 27) = W := ⟨_, rfl⟩
  rw [hW1B] at r3
  have bbA : Blk WA w.heap.size 27 (arrA ⟨k, x0, x1, x2, n0, n1, n2⟩ (.slice a len cap)) := by rw [← hWA]; exact B0.out.drew.alloc _
  have b1 : Blk w1 w.heap.size 27 (arrA ⟨k, x0, x1, x2, n0, n1, n2⟩ (.slice a len cap)) := bbA.kept k1 (fun e => by have := B0.out.lt; omega)
  have z0 := B0.out.cell 0
  have z1 := B0.out.cell 1
  have z2 := B0.out.cell 2
  have z3 := B0.out.cell 3
  have z4 := B0.out.cell 4
  have z5 := B0.out.cell 5
  have z6 := B0.out.cell 6
  have z7 := B0.out.cell 7
  have y0 := b1.cell 0
  have y1 := b1.cell 1
  have y2 := b1.cell 2
  have y3 := b1.cell 3
  have y4 := b1.cell 4
  have y5 := b1.cell 5
  have y6 := b1.cell 6
  have y7 := b1.cell 7
  have x0' := bbA.cell 0
  have x1' := bbA.cell 1
  have x2' := bbA.cell 2
  have x3' := bbA.cell 3
  have x4' := bbA.cell 4
  have x5' := bbA.cell 5
  have x6' := bbA.cell 6
  have x7' := bbA.cell 7
  simp at z0 z1 z2 z3 z4 z5 z6 z7 y0 y1 y2 y3 y4 y5 y6 y7 x0' x1' x2' x3' x4' x5' x6' x7'
  have hX0 : w.heap.size < W0.heap.size := B0.out.lt
  have hX1 : w.heap.size < w1.heap.size := b1.lt
  have hX2 : w.heap.size < WA.heap.size := bbA.lt
  have sA' := Lib.hid sA
  have sB' := Lib.hid sB
  clear sA sB
  have K3 := Lib.hid k3
  have K5 := Lib.hid k5
  have K7 := Lib.hid k7
  have H3 := Lib.hid h3
  have H5 := Lib.hid h5
  have H7 := Lib.hid h7
  clear k3 k5 k7 h3 h5 h7 b1 bbA bA k1 hw0 hlt0 kW0 kA kAB kB kBA hck hcl hcps hcn hHs hn hlen hbig hs h
  have hX0' := Lib.hid hX0
  clear hX0
  obtain ⟨g0, hg0⟩ : ∃ g, W0.heap.size = g := ⟨_, rfl⟩
  obtain ⟨gA, hgA⟩ : ∃ g, WA.heap.size = g := ⟨_, rfl⟩
  obtain ⟨gB, hgB⟩ : ∃ g, WB.heap.size = g := ⟨_, rfl⟩
  obtain ⟨g1, hg1⟩ : ∃ g, w1.heap.size = g := ⟨_, rfl⟩
  rw [hg0] at r1
  rw [hg0] at r4 r7 hX0'
  rw [hgA] at r5 hX2
  rw [hgB] at r6
  rw [hg1] at r3 hX1
  go_enter Try.func3, Try.ntmps3
  go_upto_region 1 with fail
  go_cut [17] from 10 to 17 (fun v wx => ∃ b : Bool, v = .bool (!b) ∧ Kept Nil w wx ∧ Blk wx w.heap.size 27 (arrA ⟨k, x0, x1, x2, n0, n1, n2⟩ (.slice a len cap)) ∧ (b = true → Goes (l ++ [.mk ⟨k, x0, x1, x2, n0, n1, n2⟩ subs])))
  case first =>
    go_region_law (first
      | (refine step_append_run (v' := .slice a1 n c1) (w' := w1) rfl (.tmp 10) (.tmp 11) 22 rfl (.slice (some ⟨g0, 0, none⟩) 0 0) (.slice ac n cc) rfl rfl (by with_reducible exact r1) ?_)
      | (refine step_append_run (v' := .slice a4 n c4) (w' := w4) rfl (.tmp 10) (.tmp 11) 22 rfl (.slice (some ⟨g0, 0, none⟩) 0 0) (.slice ac n cc) rfl rfl (by with_reducible exact r4) ?_)
      | (refine step_append_run (v' := .slice a6 n c6) (w' := w6) rfl (.tmp 10) (.tmp 11) 22 rfl (.slice (some ⟨gB, 0, none⟩) 0 0) (.slice ac n cc) rfl rfl (by with_reducible exact r6) ?_)
      | (refine step_append_run (v' := .slice a3 (n + 1) c3) (w' := w3) rfl (.tmp 12) (.tmp 14) 22 rfl (.slice a1 n c1) (.slice (some ⟨g1, 0, none⟩) 1 1) rfl rfl (by with_reducible exact r3) ?_)
      | (refine step_append_run (v' := .slice a5 (n + 1) c5) (w' := w5) rfl (.tmp 12) (.tmp 14) 22 rfl (.slice a4 n c4) (.slice (some ⟨gA, 0, none⟩) 1 1) rfl rfl (by with_reducible exact r5) ?_)
      | (refine step_append_run (v' := .slice a7 (n + 1) c7) (w' := w7) rfl (.tmp 12) (.tmp 14) 22 rfl (.slice a6 n c6) (.slice (some ⟨g0, 0, none⟩) 1 1) rfl rfl (by with_reducible exact r7) ?_)
      | (go_simp; go_at_call 8; (first | (with_reducible refine (CF.out _ _ _ H3.out).mono ?_) | (with_reducible refine (CF.out _ _ _ H5.out).mono ?_) | (with_reducible refine (CF.out _ _ _ H7.out).mono ?_)); rintro e w8 ⟨b, rfl, k8, hb⟩))
    all_goals
      have HBn := Lib.hid hb
      first
        | (with_reducible have KK := Lib.hid (K3.out.trans k8 (fun _ _ g => g)))
        | (with_reducible have KK := Lib.hid (K5.out.trans k8 (fun _ _ g => g)))
        | (with_reducible have KK := Lib.hid (K7.out.trans k8 (fun _ _ g => g)))
      have BB := Lib.hid (B0.out.kept KK.out id)
      clear hb k8
      go_wp2_with fail
      go_meet
      exact ⟨b, rfl, K0.out.trans KK.out (fun _ _ g => g), BB.out, HBn.out⟩
  case rest =>
    obtain ⟨b, rfl, kc, bc, hb⟩ := hcut
    have KC := Lib.hid kc
    have BC := Lib.hid bc
    have HBn := Lib.hid hb
    clear kc bc hb
    clear r1 r3 r4 r5 r6 r7 K3 K5 K7 H3 H5 H7 CF z0 z1 z2 z3 z4 z5 z6 z7 y0 y1 y2 y3 y4 y5 y6 y7 x0' x1' x2' x3' x4' x5' x6' x7' hX0' hX1 hX2 hgA hgB hg1 hWA hWB hWAB hWBA hW1B sA' sB' B0 K0
    cases b
    · go_wp2_with fail
      refine (HA.out _).mono ?_
      rintro e w8 ⟨rfl, k8⟩
      go_wp2_with fail
      go_ret
      exact ⟨rfl, KC.out.trans k8 (fun _ _ g => g)⟩
    · have HGa : Hid (Goes (l ++ [.mk ⟨k, x0, x1, x2, n0, n1, n2⟩ subs])) := Lib.hid (HBn.out rfl)
      have HG : Hid (Goes l) := Lib.hid ⟨by have := HGa.out.1; rw [countL_append] at this; omega, chkL_all.2 fun x hx => chkL_all.1 HGa.out.2 x (List.mem_append_left _ hx)⟩
      have HM : Hid (massL (stL l []) ≤ 64) := Lib.hid (by have := st_mass.2 l []; have := HG.out.1; omega)
      have HSL : Hid ((stL l []).length = n) := Lib.hid (by rw [stL_length]; exact HN.out)
      have hn16 : n ≤ 16 := by have := length_countL l; have := HG.out.1; have := HN.out; omega
      have HCs : Hid (l.length + Sh.count (.mk ⟨k, x0, x1, x2, n0, n1, n2⟩ subs) ≤ 16) := Lib.hid (goes_one HGa.out)
      clear HBn
      have CC : Hid (∀ W, Kept Nil w W → Calls Try.prog 10 #[.slice ac n cc] W fun e w' => ∃ a cap, e = .returned (.slice a n cap) ∧ SHolds w' (okM W.heap.size w') (.slice a n cap) (stL l []) ∧ Kept Nil W w') := Lib.hid fun W kW => by
        have := compile_any l HG.out _ ac cc W (by rw [HN.out]; exact HH.out.keptN kW)
        unfold StsEnd at this
        rw [HSL.out, HN.out] at this
        exact this
      have CF : Hid (∀ W ok a cap, SHolds W ok (.slice a n cap) (stL l []) → Calls Try.prog 12 #[.slice a n cap] W fun e w' => ∃ a cap, e = .returned (.slice a n cap) ∧ SHolds w' (okM W.heap.size w') (.slice a n cap) (stL l []) ∧ Kept Nil W w') := Lib.hid fun W ok a cap hh => by
        have := refs_any (stL l []) (by have := HM.out; omega) ok a cap W (by rw [HSL.out]; exact hh)
        unfold StsEnd at this
        rw [HSL.out] at this
        exact this
      have C6 : Hid (∀ W, Kept Nil w W → Calls Try.prog 14 #[.slice ac n cc] W fun e w' => ∃ a' cap', e = .returned (.slice a' n cap') ∧ Holds cR w' (okM W.heap.size w') (.slice a' n cap') l ∧ Kept Nil W w') := Lib.hid fun W kW => by
        have := refL_any l (by have := HG.out.1; omega) _ ac cc W (by rw [HN.out]; exact HH.out.keptN kW)
        unfold ListEnd at this
        rw [HN.out] at this
        exact this
      have CO : Hid (∀ W ok a cap, Holds cR W ok (.slice a n cap) l → Calls Try.prog 13 #[.slice a n cap] W fun e w' => ∃ a cap, e = .returned (.slice a n cap) ∧ SHolds w' (okM W.heap.size w') (.slice a n cap) (stL l []) ∧ Kept Nil W w') := Lib.hid fun W ok a cap hh => by
        have := refCompile_of of_all l HG.out ok a cap W (by rw [HN.out]; exact hh)
        unfold StsEnd at this
        rw [stL_length, HN.out] at this
        exact this
      have CT : Hid (∀ W ok ok' a a' cap cap', SHolds W ok (.slice a n cap) (stL l []) → SHolds W ok' (.slice a' n cap') (stL l []) → Calls Try.prog 11 #[.slice a n cap, .slice a' n cap'] W fun e w' => e = .returned (.bool true) ∧ Kept Nil W w') := Lib.hid fun W ok ok' a a' cap cap' h1 h2 => by
        have := all_any (stL l []) (stL l []) (by have := HM.out; omega) (by have := HM.out; omega) ok ok' a a' cap cap' W (by rw [HSL.out]; exact h1) (by rw [HSL.out]; exact h2)
        rw [sameSL_refl, HSL.out] at this
        exact this
      go_wp2_with fail
      refine (CC.out _ KC.out).mono ?_
      rintro e w2 ⟨sa, sc, rfl, h2, k2⟩
      have K2 := Lib.hid (KC.out.trans k2 (fun _ _ g => g))
      have B2 := Lib.hid (BC.out.kept k2 id)
      have H2 := Lib.hid h2
      clear k2 h2 CC
      go_wp2_with fail
      refine (CF.out _ _ _ _ H2.out).mono ?_
      rintro e w3 ⟨a3, c3, rfl, h3, k3⟩
      have K3 := Lib.hid k3
      have H3 := Lib.hid h3
      clear k3 h3 CF
      go_wp2_with fail
      refine (C6.out _ (K2.out.trans K3.out (fun _ _ g => g))).mono ?_
      rintro e w4 ⟨a4, c4, rfl, h4, k4⟩
      have K4 := Lib.hid (K3.out.trans k4 (fun _ _ g => g))
      have H34 := Lib.hid (H3.out.keptN k4)
      have H4 := Lib.hid h4
      clear k4 h4 H3 K3
      go_wp2_with fail
      refine (CO.out _ _ _ _ H4.out).mono ?_
      rintro e w5 ⟨a5, c5, rfl, h5, k5⟩
      have K5 := Lib.hid (K4.out.trans k5 (fun _ _ g => g))
      have H35 := Lib.hid (H34.out.keptN k5)
      have H5 := Lib.hid h5
      clear k5 h5 H34 H4 CO K4
      go_wp2_with fail
      refine (CT.out _ _ _ _ _ _ _ H35.out H5.out).mono ?_
      rintro e w6 ⟨rfl, k6⟩
      have K6 := Lib.hid (K5.out.trans k6 (fun _ _ g => g))
      clear k6 H35 H5 CT K5
      go_wp2_with fail
      go_loopw [6, 30] (fun u i wr => ∃ j m : Nat, j ≤ n ∧ m ≤ j ∧ i = .int .i64 j ∧ u = .int .i64 m ∧ Hid (m = posN ((stL l []).take j)) ∧ Kept Nil w2 wr) (fun _ i _ => n - (intOf i).toNat)
      case atStart => exact ⟨0, 0, by omega, by omega, rfl, rfl, Lib.hid rfl, K6.out⟩
      case round =>
        obtain ⟨j, m, hj, hm, rfl, rfl, HP, hK⟩ := hrel
        have HK := Lib.hid hK
        clear hK K6
        by_cases hlt : j < n
        · obtain ⟨⟨⟨k', k0', k1', k2', ts'⟩, sb⟩, hx⟩ : ∃ x, (stL l [])[j]? = some x := ⟨_, List.getElem?_eq_getElem (by have := HSL.out; omega)⟩
          obtain ⟨b, o, ta', tc', a', cap', rfl, _, hr, ht, hs⟩ := (H2.out.keptN HK.out).at_ hx
          have HRow : Hid (wr.rangeAt b (o + j * 6) (cS ⟨k', k0', k1', k2', ts'⟩ (.slice ta' ts'.length tc') (.slice a' sb.length cap'))) := Lib.hid hr
          have HNx : Hid (posN ((stL l []).take (j + 1)) = posN ((stL l []).take j) + (if k' = 1 then 1 else 0)) := Lib.hid (posN_take_succ hx)
          have CR : Hid (∀ W, Kept Nil wr W → Calls Try.prog 15 #[vS ⟨k', k0', k1', k2', ts'⟩ (.slice ta' ts'.length tc') (.slice a' sb.length cap')] W fun e w' => e = .returned (.bool true) ∧ Kept Nil W w') := Lib.hid fun W kW => by
            have := stRight_any (.mk ⟨k', k0', k1', k2', ts'⟩ sb) (Nat.le_trans (mass_mem (List.mem_of_getElem? hx)) (by have := HM.out; omega)) _ ta' tc' a' cap' W (ht.keptN kW) (hs.keptN kW)
            rw [stL_right (ch := []) HG.out.2 (by have := HG.out.1; simp; omega) _ (List.mem_of_getElem? hx)] at this
            exact this
          clear hx hr ht hs
          generalize ts'.length = tn' at HRow CR
          generalize sb.length = sn' at HRow CR
          have KA := Lib.hid ((Kept.refl Nil wr).alloc (.cells (arrS ⟨k', k0', k1', k2', ts'⟩ (.slice ta' tn' tc') (.slice a' sn' cap')) 42))
          have BA := Lib.hid (Blk.new wr 42 (arrS ⟨k', k0', k1', k2', ts'⟩ (.slice ta' tn' tc') (.slice a' sn' cap')))
          go_wp2_with ((with_reducible refine wpList_load_S rfl (.tmp 32) rfl _ _ rfl ⟨k', k0', k1', k2', ts'⟩ (.slice ta' tn' tc') (.slice a' sn' cap') ?_ ?_)
                       · exact HRow.out)
          refine (CR.out _ KA.out).mono ?_
          rintro e w7 ⟨rfl, k7⟩
          have K7 := Lib.hid (KA.out.trans k7 (fun _ _ g => g))
          have q0 := (BA.out.kept k7 id).cell 0
          simp at q0
          clear k7 CR KA BA
          by_cases hk : k' = 1
          · subst hk
            have HE : Hid (m + 1 = posN ((stL l []).take (j + 1))) := Lib.hid (by rw [HNx.out, ← HP.out, if_pos rfl])
            clear HNx
            go_wp2_with fail
            go_roundw
            case rel => exact ⟨j + 1, m + 1, by omega, by omega, by go_num, by go_num, HE, HK.out.trans K7.out (fun _ _ g => g)⟩
            case measure => simp [intOf]; omega
          · have hkb : (k' == 1) = false := by simpa using hk
            have HE : Hid (m = posN ((stL l []).take (j + 1))) := Lib.hid (by rw [HNx.out, ← HP.out, if_neg hk]; rfl)
            clear HNx
            go_wp2_with fail
            go_roundw
            case rel => exact ⟨j + 1, m, by omega, by omega, by go_num, by go_num, HE, HK.out.trans K7.out (fun _ _ g => g)⟩
            case measure => simp [intOf]; omega
        · obtain rfl : n = j := by omega
          have HPn : Hid (posN (stL l []) = m) := Lib.hid (by rw [HP.out, List.take_of_length_le (by rw [HSL.out]; exact Nat.le_refl _)])
          have BR := Lib.hid (B2.out.kept HK.out id)
          have KR := Lib.hid (K2.out.trans HK.out (fun _ _ g => g))
          have CS : Hid (∀ W, Kept Nil w W → Calls Try.prog 16 #[.slice ac n cc, vA ⟨k, x0, x1, x2, n0, n1, n2⟩ (.slice a len cap)] W (StEnd ((Sh.mk ⟨k, x0, x1, x2, n0, n1, n2⟩ subs).st l).hd ((Sh.mk ⟨k, x0, x1, x2, n0, n1, n2⟩ subs).st l).subs W)) := Lib.hid fun W kW => by
            have := stepP_any l k x0 x1 x2 n0 n1 n2 subs HGa.out _ _ ac cc a cap W (by rw [HN.out]; exact HH.out.keptN kW) (by rw [HLen.out]; exact HS.out.keptN kW)
            rw [HLen.out, HN.out] at this
            exact this
          have C4 : Hid (∀ W, Kept Nil w W → Calls Try.prog 20 #[vA ⟨k, x0, x1, x2, n0, n1, n2⟩ (.slice a len cap)] W fun e w' => ∃ a' cap', e = .returned (vR ⟨k, x0, x1, x2, n0, n1, n2⟩ (.slice a' len cap')) ∧ Holds cR w' (okM W.heap.size w') (.slice a' len cap') subs ∧ Kept Nil W w') := Lib.hid fun W kW => by
            have := refT_any (.mk ⟨k, x0, x1, x2, n0, n1, n2⟩ subs) (by have := HCs.out; omega) _ a cap W (by show Holds cA W _ (.slice a subs.length cap) subs; rw [HLen.out]; exact HS.out.keptN kW)
            unfold RefEnd at this
            rw [show (Sh.mk ⟨k, x0, x1, x2, n0, n1, n2⟩ subs).subs.length = len from HLen.out] at this
            exact this
          have COf : Hid (∀ W ok1 ok2 ac cc a cap, Holds cR W ok1 (.slice ac n cc) l → Holds cR W ok2 (.slice a len cap) subs → Calls Try.prog 19 #[.slice ac n cc, vR ⟨k, x0, x1, x2, n0, n1, n2⟩ (.slice a len cap)] W (StEnd ((Sh.mk ⟨k, x0, x1, x2, n0, n1, n2⟩ subs).st l).hd ((Sh.mk ⟨k, x0, x1, x2, n0, n1, n2⟩ subs).st l).subs W)) := Lib.hid fun W ok1 ok2 ac cc a cap h1 h2 => by
            have := of_all (.mk ⟨k, x0, x1, x2, n0, n1, n2⟩ subs) l ok1 ok2 ac cc a cap W (by rw [HN.out]; exact h1) (by show Holds cR W ok2 (.slice a subs.length cap) subs; rw [HLen.out]; exact h2) (by have := HCs.out; omega) ⟨1, chkL_all.1 HGa.out.2 _ (by simp)⟩
            rw [show (Sh.mk ⟨k, x0, x1, x2, n0, n1, n2⟩ subs).subs.length = len from HLen.out, HN.out] at this
            exact this
          have HMj : Hid (((Sh.mk ⟨k, x0, x1, x2, n0, n1, n2⟩ subs).st l).mass ≤ 64) := Lib.hid (by have := st_mass.1 (.mk ⟨k, x0, x1, x2, n0, n1, n2⟩ subs) l; have := HCs.out; omega)
          have HRj : Hid (((Sh.mk ⟨k, x0, x1, x2, n0, n1, n2⟩ subs).st l).right = true) := Lib.hid (st_right (chkL_all.1 HGa.out.2 _ (by simp)) HCs.out)
          have CB : Hid (∀ W, Kept Nil w2 W → Calls Try.prog 21 #[.slice sa n sc] W fun e w' => e = .returned (.int .i64 (m : Int)) ∧ Kept Nil W w') := Lib.hid fun W kW => by
            have := back_any (stL l []) (by rw [HSL.out]; omega) _ sa sc W (by rw [HSL.out]; exact H2.out.keptN kW)
            rw [HSL.out, HPn.out] at this
            exact this
          unfold StEnd at CS COf
          generalize (Sh.mk ⟨k, x0, x1, x2, n0, n1, n2⟩ subs).st l = sj at CS COf HMj HRj
          obtain ⟨⟨jk, jk0, jk1, jk2, jts⟩, jsb⟩ := sj
          have CX : Hid (∀ W ok ta tc a cap, TsAt W ok (.slice ta jts.length tc) jts → SHolds W ok (.slice a jsb.length cap) jsb → Calls Try.prog 18 #[vS ⟨jk, jk0, jk1, jk2, jts⟩ (.slice ta jts.length tc) (.slice a jsb.length cap)] W fun e w' => ∃ ta tc a cap, e = .returned (vS ⟨jk, jk0, jk1, jk2, jts⟩ (.slice ta jts.length tc) (.slice a jsb.length cap)) ∧ TsAt w' (okM W.heap.size w') (.slice ta jts.length tc) jts ∧ SHolds w' (okM W.heap.size w') (.slice a jsb.length cap) jsb ∧ Kept Nil W w') := Lib.hid fun W ok ta tc a cap h1 h2 => refSt_any (.mk ⟨jk, jk0, jk1, jk2, jts⟩ jsb) (by have := HMj.out; omega) ok ta tc a cap W h1 h2
          have CRt : Hid (∀ W ok ta tc a cap, TsAt W ok (.slice ta jts.length tc) jts → SHolds W ok (.slice a jsb.length cap) jsb → Calls Try.prog 15 #[vS ⟨jk, jk0, jk1, jk2, jts⟩ (.slice ta jts.length tc) (.slice a jsb.length cap)] W fun e w' => e = .returned (.bool true) ∧ Kept Nil W w') := Lib.hid fun W ok ta tc a cap h1 h2 => by
            have := stRight_any (.mk ⟨jk, jk0, jk1, jk2, jts⟩ jsb) (by have := HMj.out; omega) ok ta tc a cap W h1 h2
            rw [HRj.out] at this
            exact this
          have CSm : Hid (∀ W ok ok' ta tc a cap ta' tc' a' cap', TsAt W ok (.slice ta jts.length tc) jts → SHolds W ok (.slice a jsb.length cap) jsb → TsAt W ok' (.slice ta' jts.length tc') jts → SHolds W ok' (.slice a' jsb.length cap') jsb → Calls Try.prog 17 #[vS ⟨jk, jk0, jk1, jk2, jts⟩ (.slice ta jts.length tc) (.slice a jsb.length cap), vS ⟨jk, jk0, jk1, jk2, jts⟩ (.slice ta' jts.length tc') (.slice a' jsb.length cap')] W fun e w' => e = .returned (.bool true) ∧ Kept Nil W w') := Lib.hid fun W ok ok' ta tc a cap ta' tc' a' cap' h1 h2 h3 h4 => by
            have := refSameS_any (.mk ⟨jk, jk0, jk1, jk2, jts⟩ jsb) (by have := HMj.out; omega) (.mk ⟨jk, jk0, jk1, jk2, jts⟩ jsb) (by have := HMj.out; omega) ok ok' ta tc a cap ta' tc' a' cap' W h1 h2 h3 h4
            rw [sameS_refl.1] at this
            exact this
          replace CS : Hid (∀ W, Kept Nil w W → Calls Try.prog 16 #[.slice ac n cc, vA ⟨k, x0, x1, x2, n0, n1, n2⟩ (.slice a len cap)] W fun e w' => ∃ ta tc a cap, e = .returned (vS ⟨jk, jk0, jk1, jk2, jts⟩ (.slice ta jts.length tc) (.slice a jsb.length cap)) ∧ TsAt w' (okM W.heap.size w') (.slice ta jts.length tc) jts ∧ SHolds w' (okM W.heap.size w') (.slice a jsb.length cap) jsb ∧ Kept Nil W w') := CS
          replace COf : Hid (∀ W ok1 ok2 ac cc a cap, Holds cR W ok1 (.slice ac n cc) l → Holds cR W ok2 (.slice a len cap) subs → Calls Try.prog 19 #[.slice ac n cc, vR ⟨k, x0, x1, x2, n0, n1, n2⟩ (.slice a len cap)] W fun e w' => ∃ ta tc a cap, e = .returned (vS ⟨jk, jk0, jk1, jk2, jts⟩ (.slice ta jts.length tc) (.slice a jsb.length cap)) ∧ TsAt w' (okM W.heap.size w') (.slice ta jts.length tc) jts ∧ SHolds w' (okM W.heap.size w') (.slice a jsb.length cap) jsb ∧ Kept Nil W w') := COf
          generalize jts.length = tn at CS COf CX CRt CSm
          generalize jsb.length = sn at CS COf CX CRt CSm
          clear HCs HMj HRj HP
          go_wp2_with ((with_reducible refine wpList_load_A rfl (.tmp 3) rfl _ _ rfl ⟨k, x0, x1, x2, n0, n1, n2⟩ (.slice a len cap) ?_ ?_)
                       · exact World.rangeAt_of_block BR.out 0 8)
          refine (CS.out _ KR.out).mono ?_
          rintro e w9 ⟨ta, tc, sa9, sc9, rfl, h9t, h9s, k9⟩
          have HT9 := Lib.hid h9t
          have HS9 := Lib.hid h9s
          have K9 := Lib.hid (KR.out.trans k9 (fun _ _ g => g))
          have K29 := Lib.hid (HK.out.trans k9 (fun _ _ g => g))
          have B9 := Lib.hid (BR.out.kept k9 id)
          clear h9t h9s k9 CS
          go_wp2_with fail
          have S0 := Lib.hid (seenX_of (w0 := w9) (B9.out.alloc (.cells (arrS ⟨jk, jk0, jk1, jk2, jts⟩ (.slice ta tn tc) (.slice sa9 sn sc9)) 42)).drew (Blk.new w9 42 (arrS ⟨jk, jk0, jk1, jk2, jts⟩ (.slice ta tn tc) (.slice sa9 sn sc9))).drew (((Kept.refl Nil w9).alloc (.cells (arrS ⟨jk, jk0, jk1, jk2, jts⟩ (.slice ta tn tc) (.slice sa9 sn sc9)) 42)).drew))
          go_region_held3 (SeenX w9 w.heap.size w9.heap.size k x0 x1 x2 n0 n1 n2 (.slice a len cap) jk jk0 jk1 jk2 (.slice ta tn tc) (.slice sa9 sn sc9))
            (first | (with_reducible assumption) | (with_reducible exact S0.out) | (with_reducible exact seenX_kept k11 (by with_reducible assumption)) | (with_reducible exact seenX_kept k12 (by with_reducible assumption)) | (with_reducible exact seenX_kept k13 (by with_reducible assumption)) | (with_reducible exact seenX_kept k14 (by with_reducible assumption)) | (with_reducible exact seenX_kept k15 (by with_reducible assumption)) | (with_reducible exact seenX_kept k16 (by with_reducible assumption)) | (with_reducible exact seenX_kept k17 (by with_reducible assumption)) | (with_reducible exact seenX_kept k18 (by with_reducible assumption)))
            (first
          | (go_at_call 18; (with_reducible refine (CX.out _ _ _ _ _ _ (HT9.out.keptN (seenX_k (by with_reducible assumption))) (HS9.out.keptN (seenX_k (by with_reducible assumption)))).mono ?_); rintro e w11 ⟨t11, d11, a11, c11, rfl, h11, g11, k11⟩)
          | (go_at_call 14; (with_reducible refine (C6.out _ (K9.out.trans (seenX_k (by with_reducible assumption)) (fun _ _ g => g))).mono ?_); rintro e w12 ⟨a12, c12, rfl, h12, k12⟩)
          | (go_at_call 20; (with_reducible refine (C4.out _ (K9.out.trans (seenX_k (by with_reducible assumption)) (fun _ _ g => g))).mono ?_); rintro e w13 ⟨a13, c13, rfl, h13, k13⟩)
          | (go_at_call 19; (with_reducible refine (COf.out _ _ _ _ _ _ _ (h12.keptN k13) h13).mono ?_); rintro e w14 ⟨t14, d14, a14, c14, rfl, h14, g14, k14⟩)
          | (go_at_call 17; (with_reducible refine (CSm.out _ _ _ _ _ _ _ _ _ _ _ (((h11.keptN k12).keptN k13).keptN k14) (((g11.keptN k12).keptN k13).keptN k14) h14 g14).mono ?_); rintro e w15 ⟨rfl, k15⟩)
          | (go_at_call 15; (with_reducible refine (CRt.out _ _ _ _ _ _ (HT9.out.keptN (seenX_k (by with_reducible assumption))) (HS9.out.keptN (seenX_k (by with_reducible assumption)))).mono ?_); rintro e w16 ⟨rfl, k16⟩)
          | (go_at_call 21; (with_reducible refine (CB.out _ (K29.out.trans (seenX_k (by with_reducible assumption)) (fun _ _ g => g))).mono ?_); rintro e w17 ⟨rfl, k17⟩)
          | (go_at_call 9; refine (HA.out _).mono ?_; rintro e w18 ⟨rfl, k18⟩))
          all_goals
            have HKE := Lib.hid (seenX_k (by with_reducible assumption))
            go_wp2_with fail
            go_ret
            exact ⟨rfl, K9.out.trans HKE.out (fun _ _ g => g)⟩
end Go.Proofs.Ytoceogbanlmnoaa
