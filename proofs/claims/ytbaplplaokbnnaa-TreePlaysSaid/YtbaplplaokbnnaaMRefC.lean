/- The document's own tree: Delete, Up, Facts. -/
import Derived.Test.YtbaplplaokbnnaaMRefB
namespace Go.Proofs.Ytbaplplaokbnnaa
open Go.RowKit Go.Maps Go.WideMaps
set_option maxRecDepth 100000

theorem flat_out : ∀ (L : List TokS) (j : Nat), j < L.length → (L.modify j (fun x => { x with out := true })).flatMap cR = (L.flatMap cR).set (j * 4 + 3) (.int .i64 1)
  | [], j, h => by simp at h
  | x :: r, 0, _ => by
    rw [List.modify_zero_cons, List.flatMap_cons, List.flatMap_cons]
    rfl
  | x :: r, j + 1, h => by
    rw [List.modify_succ_cons, List.flatMap_cons, List.flatMap_cons, flat_out r j (by simpa using h)]
    show _ = List.set (_ :: _ :: _ :: _ :: (r.flatMap cR)) ((j + 1) * 4 + 3) _
    rw [show (j + 1) * 4 + 3 = j * 4 + 3 + 1 + 1 + 1 + 1 by omega]
    rfl
section
variable {w : World} {B q : Nat} {a : Option Addr} {cap : Nat} {L : List TokS}
/-- One token of the document's own tree turned. -/
theorem RTx.kill (h : RTx w B q a cap L) {id : Int} (h1 : 1 ≤ id) (h2 : id ≤ L.length) : ∃ b, a = some ⟨b, 0, none⟩ ∧ (∃ v, w.cell? ⟨b, (id - 1).toNat * 4 + 3, none⟩ = some v) ∧ w.frozen? ⟨b, (id - 1).toNat * 4 + 3, none⟩ = false ∧ RTx (w.setCell ⟨b, (id - 1).toNat * 4 + 3, none⟩ (.int .i64 1)) B q a cap (kill L id) ∧ Kept (fun i => (Value.slice a L.length cap).ownBlock = some i) w (w.setCell ⟨b, (id - 1).toNat * 4 + 3, none⟩ (.int .i64 1)) := by
  have hj : (id - 1).toNat < L.length := by omega
  obtain ⟨x, hx⟩ : ∃ x, L[(id - 1).toNat]? = some x := ⟨_, List.getElem?_eq_getElem hj⟩
  obtain ⟨b0, o0, e0, _, _, _, z3⟩ := h.at_ hx
  rcases h.row.2 with ⟨_, e⟩ | ⟨g, c, cur, e, hB, hg, hn, hm, hs, ht⟩
  · omega
  · cases e
    cases e0
    have hk : Kept (fun i => (Value.slice (some ⟨b0, 0, none⟩) L.length cap).ownBlock = some i) w (w.setCell ⟨b0, (id - 1).toNat * 4 + 3, none⟩ (.int .i64 1)) := Kept.setCell (F := fun i => (Value.slice (some ⟨b0, 0, none⟩) L.length cap).ownBlock = some i) (Kept.refl _ w) ⟨b0, (id - 1).toNat * 4 + 3, none⟩ (.inl rfl) _
    have hgq : b0 ≠ q := h.ne rfl
    have hkl := kill_length L id
    refine ⟨b0, rfl, ⟨_, by rw [Nat.zero_add] at z3; exact z3⟩, by simp [World.frozen?, hg], ⟨?_, h.low, ?_⟩, hk⟩
    · rw [hkl]; exact h.here.kept hk (fun e => hgq (Option.some.inj e))
    · unfold Row
      rw [hkl]
      refine ⟨by rw [flat_len cR_len, hkl], .inr ⟨b0, cap, cur.setIfInBounds ((id - 1).toNat * 4 + 3) (.int .i64 1), rfl, hB, ?_, hn, hm, by simpa using hs, ?_⟩⟩
      · simp [World.setCell, Array.getElem?_modify, hg]
      · have hf : (Proofs.Ytbaplplaokbnnaa.kill L id).flatMap cR = (L.flatMap cR).set ((id - 1).toNat * 4 + 3) (.int .i64 1) := by
          unfold Proofs.Ytbaplplaokbnnaa.kill
          rw [if_pos h1]
          exact flat_out L _ hj
        rw [hf, ← ht, Array.toList_setIfInBounds, List.take_set]
set_option maxHeartbeats 4000000 in
theorem refDelete_any (h : RTx w B q a cap L) (hl : L.length ≤ 1000) {al : Option Addr} {nl cl : Nat} {l : List Int} (hI : In cN 1 w al nl l) (hb : ∀ x ∈ l, 1 ≤ x ∧ x ≤ L.length) (hF : ∀ b, (Value.slice al nl cl).ownBlock = some b → ¬ RF q a L.length cap b) (hnl : nl ≤ 5000) :
    Calls Try.prog 15 #[.pointer (some ⟨q, 0, none⟩), .slice al nl cl] w fun e w' => e = .returned (.tuple #[]) ∧ RTx w' B q a cap (kills L l) ∧ Kept (RF q a L.length cap) w w' := by
  have HR := Lib.hid h
  have HI := Lib.hid hI
  have HBd := Lib.hid hb
  have HF := Lib.hid hF
  have HLl := Lib.hid hI.1
  clear h hI hb hF
  go_enter Try.func15, Try.ntmps15
  go_wp2_with fail
  go_loopw [8] (fun i wr => ∃ j : Nat, j ≤ nl ∧ i = .int .i64 j ∧ RTx wr B q a cap (kills L (l.take j)) ∧ Kept (RF q a L.length cap) w wr) (fun i _ => nl - (intOf i).toNat)
  case atStart => exact ⟨0, Nat.zero_le _, rfl, by rw [List.take_zero]; exact HR.out, Kept.refl _ _⟩
  case round =>
    obtain ⟨j, hj, rfl, hR, hK⟩ := hrel
    have HR2 := Lib.hid hR
    have HK := Lib.hid hK
    have c0 := hR.cell
    rw [kills_length] at c0
    clear hR hK
    by_cases hlt : j < nl
    · obtain ⟨x, hx⟩ : ∃ x, l[j]? = some x := ⟨_, List.getElem?_eq_getElem (by rw [HLl.out]; exact hlt)⟩
      obtain ⟨b, o, rfl, _, hc⟩ := (HI.out.keptF HK.out (cap := cl) HF.out).at_ hx
      have z0 := hc 0 _ rfl
      simp only [Nat.mul_one, Nat.add_zero] at z0
      obtain ⟨x1, x2⟩ := HBd.out x (List.mem_of_getElem? hx)
      obtain ⟨b2, rfl, ⟨v2, z2⟩, f2, hR3, k3⟩ := HR2.out.kill x1 (by rw [kills_length]; exact x2)
      rw [kills_length] at k3
      have HE : Hid (kill (kills L (l.take j)) x = kills L (l.take (j + 1))) := Lib.hid (by rw [List.take_add_one, hx]; exact (kills_snoc L x _).symm)
      have HR4 := Lib.hid hR3
      have K4 := Lib.hid (HK.out.trans k3 (fun b _ e => .inr e))
      obtain ⟨jx, hjx⟩ : ∃ jx, (x - 1).toNat = jx := ⟨_, rfl⟩
      have s1 : IntKind.i64.wrap (x - 1) = (jx : Int) := by rw [IntKind.wrap_i64]; omega
      have g0 : (0 : Int) ≤ (jx : Int) := by omega
      obtain ⟨nL, hnL⟩ : ∃ nL, L.length = nL := ⟨_, rfl⟩
      have g1 : (jx : Int) < (nL : Int) := by omega
      rw [hjx] at z2 f2 HR4 K4
      rw [hnL] at c0
      have HNL := Lib.hid hnL
      clear hx hc x1 x2 hR3 k3 hjx hnL
      go_wp2_with fail
      go_roundw
      case rel => exact ⟨j + 1, by omega, by go_num, by rw [← HE.out]; exact HR4.out, K4.out⟩
      case measure => simp [intOf]; omega
    · obtain rfl : j = nl := by omega
      have HTk : Hid (l.take j = l) := Lib.hid (List.take_of_length_le (by rw [HLl.out]; exact Nat.le_refl _))
      go_wp2_with fail
      go_end0
      exact ⟨rfl, by have := HR2.out; rw [HTk.out] at this; exact this, HK.out⟩
set_option maxHeartbeats 4000000 in
theorem refUp_any (hwf : WF L) (hl : L.length ≤ 1000) (at_ : ByteArray) : ∀ id, ∀ w, RTx w B q a cap L → Calls Try.prog 42 #[.pointer (some ⟨q, 0, none⟩), .int .i64 id, .string at_] w fun e w' => e = .returned (.int .i64 (upI L id at_)) ∧ w' = w := by
  refine line_ind hwf (fun id ht w h => ?_) (fun id x ht ih w h => ?_)
  · have CT := Lib.hid (refThere_any h hl id)
    rw [ht] at CT
    rw [upI_none at_ ht]
    clear h ht
    go_enter Try.func42, Try.ntmps42
    go_wp2_with fail
    refine CT.out.mono ?_
    rintro e w1 ⟨rfl, rfl⟩
    go_wp2_with fail
    go_ret
    exact ⟨rfl, rfl⟩
  · have CT := Lib.hid (refThere_any h hl id)
    rw [ht] at CT
    have IH := Lib.hid (ih w h)
    obtain ⟨h1, hx, hxo⟩ := tok_some.1 ht
    have hb := tok_bound ht
    obtain ⟨b, o, rfl, z0, z1, _, _⟩ := h.at_ hx
    have c0 := h.cell
    obtain ⟨n, hn⟩ : ∃ n, L.length = n := ⟨_, rfl⟩
    rw [hn] at c0 hb
    obtain ⟨j, hj⟩ : ∃ j, (id - 1).toNat = j := ⟨_, rfl⟩
    rw [hj] at z0 z1
    have s1 : IntKind.i64.wrap (id - 1) = (j : Int) := by rw [IntKind.wrap_i64]; omega
    have g0 : (0 : Int) ≤ (j : Int) := by omega
    have g1 : (j : Int) < (n : Int) := by omega
    have HHere := Lib.hid (fun (e : x.loc = at_) => upI_here hwf ht e)
    have HUp := Lib.hid (fun (e : x.loc ≠ at_) => upI_up hwf ht e)
    obtain ⟨xp, xl, xf, xo⟩ := x
    simp only at z0 z1 IH HHere HUp
    clear h ih ht hx hxo h1 hb hn hj
    by_cases e : xl = at_
    · have HE := Lib.hid (HHere.out e)
      subst e
      go_enter Try.func42, Try.ntmps42
      go_wp2_with fail
      refine CT.out.mono ?_
      rintro e w1 ⟨rfl, rfl⟩
      go_wp2_with fail
      go_ret
      rw [HE.out]
      exact ⟨rfl, rfl⟩
    · have HE := Lib.hid (HUp.out e)
      have heb : (xl.toList == at_.toList) = false := str_ne e
      clear e
      go_enter Try.func42, Try.ntmps42
      go_wp2_with fail
      refine CT.out.mono ?_
      rintro e w1 ⟨rfl, rfl⟩
      go_wp2_with fail
      refine IH.out.mono ?_
      rintro e w2 ⟨rfl, rfl⟩
      go_wp2_with fail
      go_ret
      rw [HE.out]
      exact ⟨rfl, rfl⟩
set_option maxHeartbeats 4000000 in
theorem refFacts_any (hwf : WF L) (hl : L.length ≤ 1000) : ∀ id, ∀ w, RTx w B q a cap L → Calls Try.prog 37 #[.pointer (some ⟨q, 0, none⟩), .int .i64 id] w fun e w' => ∃ a' n' c', e = .returned (.slice a' n' c') ∧ Row cN 3 1 w' w.heap.size (.slice a' n' c') (factsI L id) ∧ Kept Nil w w' := by
  refine line_ind hwf (fun id ht w h => ?_) (fun id x ht ih w h => ?_)
  · have CT := Lib.hid (refThere_any h hl id)
    rw [ht] at CT
    rw [factsI_none ht]
    clear h ht
    go_enter Try.func37, Try.ntmps37
    go_wp2_with fail
    refine CT.out.mono ?_
    rintro e w1 ⟨rfl, rfl⟩
    go_wp2_with fail
    go_ret
    exact ⟨none, 0, 0, rfl, Row.nil _ _, Kept.refl _ _⟩
  · have CT := Lib.hid (refThere_any h hl id)
    rw [ht] at CT
    have IH := Lib.hid (ih w h)
    obtain ⟨h1, hx, hxo⟩ := tok_some.1 ht
    have hb := tok_bound ht
    obtain ⟨b, o, rfl, z0, _, z2, _⟩ := h.at_ hx
    have HH := Lib.hid h
    have c0 := h.cell
    have HX := Lib.hid hx
    obtain ⟨n, hn⟩ : ∃ n, L.length = n := ⟨_, rfl⟩
    rw [hn] at c0 hb
    obtain ⟨j, hj⟩ : ∃ j, (id - 1).toNat = j := ⟨_, rfl⟩
    rw [hj] at z0 z2 HX
    have s1 : IntKind.i64.wrap (id - 1) = (j : Int) := by rw [IntKind.wrap_i64]; omega
    have g0 : (0 : Int) ≤ (j : Int) := by omega
    have g1 : (j : Int) < (n : Int) := by omega
    have HS := Lib.hid (factsI_some hwf ht)
    have HLp := Lib.hid (factsI_length hwf x.par)
    have HNn := Lib.hid hn
    obtain ⟨xp, xl, xf, xo⟩ := x
    simp only at z0 z2 IH HS HLp
    clear h ih ht hx hxo h1 hb hn hj
    go_enter Try.func37, Try.ntmps37
    go_wp2_with fail
    refine CT.out.mono ?_
    rintro e w1 ⟨rfl, rfl⟩
    go_wp2_with fail
    refine IH.out.mono ?_
    rintro e w2 ⟨a2, n2, c2, rfl, r2, k2⟩
    have R2 := Lib.hid r2
    have K2 := Lib.hid k2
    have hsz := k2.size
    have hh := HH.out.keptN k2
    obtain ⟨b', o', e', _, _, y2, _⟩ := hh.at_ HX.out
    cases e'
    have d0 := hh.cell
    rw [HNn.out] at d0
    clear r2 k2 hh IH CT
    by_cases hf : xf = 0
    · have hfb : (xf != 0) = false := by simpa using hf
      have HE : Hid (factsI L id = factsI L xp) := Lib.hid (by rw [HS.out, if_neg (by simpa using hf)])
      clear hf
      go_wp2_with fail
      go_ret
      rw [HE.out]
      exact ⟨a2, n2, c2, rfl, R2.out, K2.out⟩
    · have hfb : (xf != 0) = true := bne_iff_ne.2 hf
      have HE : Hid (factsI L id = factsI L xp ++ [xf]) := Lib.hid (by rw [HS.out, if_pos hf])
      clear hf
      obtain ⟨a3, c3, W3, r3, o3, k3, _⟩ := R2.out.push2 elsI1 cN_len cN_one 38 hsz (by have := HLp.out; omega) xf #[.int .i64 xf] rfl
      have R3 := Lib.hid r3
      have O3 := Lib.hid o3
      have K3 := Lib.hid (K2.out.trans k3 (fun b hb e => by have := (R2.out.lt b e).1; omega))
      clear r3 o3 k3
      go_wp2_with (at_builtin; refine wpList_append_run rfl (.tmp 31) (.tmp 41) 38 rfl _ _ rfl rfl R3.out ?_)
      go_ret
      rw [HE.out]
      exact ⟨a3, n2 + 1, c3, rfl, O3.out, K3.out⟩
end
end Go.Proofs.Ytbaplplaokbnnaa
