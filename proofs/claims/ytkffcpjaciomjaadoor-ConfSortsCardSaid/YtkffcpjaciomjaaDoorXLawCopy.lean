/- What is copied is alike, and shares nothing: ConfCopies returns true, and writes nothing that was there. No condition but Go's own variables. -/
import Derived.Test.YtkffcpjaciomjaaDoorXLawCmp
namespace Go.Proofs.YtkffcpjaciomjaaDoor
open Go.RowKit Go.Shelf Go.Sort
set_option maxRecDepth 100000

/-! ### A law that spoils what it was told -/
theorem setN (x : Int) : ∀ (ids : List Int) (j : Nat), (ids.flatMap cN).set j (.int .i64 x) = (ids.set j x).flatMap cN
  | [], j => by simp
  | i :: r, 0 => rfl
  | i :: r, j + 1 => by
    show .int .i64 i :: ((r.flatMap cN).set j (.int .i64 x)) = _
    rw [setN x r j]; rfl
theorem soft_set {w : World} {B : Nat} {a : Option Addr} {n c : Nat} {ids : List Int} (h : Row cN 3 1 w B (.slice a n c) ids) (b j : Nat) (x : Int) : ∃ ids', Row cN 3 1 (w.setCell ⟨b, j, none⟩ (.int .i64 x)) B (.slice a n c) ids' := by
  by_cases e : (Value.slice a n c).ownBlock = some b
  · rcases h.addr with ⟨e1, _⟩ | ⟨g, e1, _⟩
    · rw [e1] at e; cases e
    · rw [e1] at e h ⊢
      cases e
      obtain ⟨_, _, e2⟩ := h.shape
      have hn : n = ids.length := (Value.slice.inj e2).2.1
      subst hn
      obtain ⟨h1, _⟩ := World.ownsRow.stored h j (.int .i64 x)
      rw [setN] at h1
      refine ⟨ids.set j x, ?_⟩
      unfold Row
      rw [List.length_set]
      exact h1
  · exact ⟨ids, h.keptF (Kept.setCell (F := fun k => k = b) (Kept.refl _ w) ⟨b, j, none⟩ (.inl rfl) _) (fun q hq e2 => e (by rw [hq]; congr 1))⟩
/-- Between two stores. -/
structure Spo (w3 : World) (B : Nat) (a : Option Addr) (n c : Nat) (l2 l' : List MC) (wr : World) : Prop where
  kept : Kept (fun k => B ≤ k) w3 wr
  row : Row cM 37 2 wr B (.slice a n c) l2
  soft : ∀ m ∈ l', ∃ ids', Row cN 3 1 wr B (.slice m.a m.n m.c) ids'
theorem Spo.start {w w3 : World} {B : Nat} {a : Option Addr} {n c : Nat} {l' : List MC} (hr : Row cM 37 2 w B (.slice a n c) l') (ho : Own w B a l') (k : Kept Nil w w3) : Spo w3 B a n c l' l' w3 :=
  ⟨Kept.refl _ _, hr.keptN k, fun m hm => ⟨m.ids, (ho m hm).2.1.keptN k⟩⟩
/-- A cell of an element's ids: it is there, and may be written. -/
theorem Spo.at_ {w3 : World} {B : Nat} {a : Option Addr} {n c : Nat} {l2 l' : List MC} {wr : World} (h : Spo w3 B a n c l2 l' wr) {m : MC} (hm : m ∈ l') {k : Nat} (hk : k < m.n) : ∃ b x, m.a = some ⟨b, 0, none⟩ ∧ wr.cell? ⟨b, k, none⟩ = some (.int .i64 x) ∧ wr.frozen? ⟨b, k, none⟩ = false ∧ Spo w3 B a n c l2 l' (wr.setCell ⟨b, k, none⟩ (.int .i64 (-5))) := by
  obtain ⟨ids, hr⟩ := h.soft m hm
  have hin := hr.toIn cN_len (by decide)
  obtain ⟨x, hx⟩ : ∃ x, ids[k]? = some x := ⟨_, List.getElem?_eq_getElem (by rw [hin.1]; exact hk)⟩
  obtain ⟨b, off, e1, _, hc⟩ := hin.at_ hx
  have q0 := hc 0 _ rfl
  rw [Nat.mul_one, Nat.add_zero] at q0
  rcases hr.addr with ⟨e2, _⟩ | ⟨g, e2, hB, _⟩
  · rw [e2] at e1; cases e1
  · rw [e2] at e1
    cases e1
    rw [Nat.zero_add] at q0
    obtain ⟨cur, hb⟩ := hr.block (k := b) (by rw [e2]; rfl)
    refine ⟨b, x, e2, q0, by simp [World.frozen?, hb], ⟨h.kept.setCell ⟨b, k, none⟩ (.inl hB) _, ?_, fun m2 hm2 => ?_⟩⟩
    · refine h.row.keptF (Kept.setCell (F := fun q => q = b) (Kept.refl _ wr) ⟨b, k, none⟩ (.inl rfl) _) (fun q hq e => ?_)
      obtain ⟨cur2, hb2⟩ := h.row.block hq
      have e' : q = b := e
      subst e'
      rw [hb] at hb2
      injection hb2 with e3
      injection e3 with _ e4
      exact absurd e4 (by decide)
    · obtain ⟨ids2, hr2⟩ := h.soft m2 hm2
      exact soft_set hr2 b k (-5)
/-- A whole element stored. -/
theorem Spo.put {w3 : World} {B g : Nat} {n c : Nat} {l2 l' : List MC} {wr : World} (h : Spo w3 B (some ⟨g, 0, none⟩) n c l2 l' wr) {i : Nat} (hi : i < l2.length) (z : MC) {u v : Value} (hz : cM z = [u, v]) : Spo w3 B (some ⟨g, 0, none⟩) n c (l2.set i z) l' ((wr.setCell ⟨g, i * 2, none⟩ u).setCell ⟨g, i * 2 + 1, none⟩ v) := by
  obtain ⟨h1, k1⟩ := h.row.put hi z hz
  have hB := (h.row.lt g rfl).1
  refine ⟨h.kept.trans k1 (fun _ _ e => by rw [e]; exact hB), h1, fun m hm => ?_⟩
  obtain ⟨ids, hr⟩ := h.soft m hm
  refine ⟨ids, hr.keptF k1 (fun q hq e => ?_)⟩
  obtain ⟨cur, hb⟩ := hr.block hq
  obtain ⟨cur2, hb2⟩ := h.row.block (k := g) rfl
  have e' : q = g := e
  subst e'
  rw [hb] at hb2
  injection hb2 with e3
  injection e3 with _ e4
  exact absurd e4 (by decide)
/-- What was there ahead of what is spoilt. -/
theorem Ms.low {w w3 wr : World} {a : Option Addr} {n B : Nat} {l : List MC} (h : Ms w a n l) (k : Kept Nil w w3) (hB : w.heap.size ≤ B) (hk : Kept (fun q => B ≤ q) w3 wr) : Ms wr a n l :=
  ⟨h.row.keptLow k hk (fun _ e => Nat.le_trans hB e), fun m hm => ⟨(h.ok m hm).ids.keptLow k hk (fun _ e => Nat.le_trans hB e), (h.ok m hm).fits, (h.ok m hm).few, (h.ok m hm).small⟩⟩
theorem Kept.low {w w3 wr : World} {B : Nat} (k : Kept Nil w w3) (hB : w.heap.size ≤ B) (hk : Kept (fun q => B ≤ q) w3 wr) : Kept Nil w wr := k.trans hk (fun _ hi e => absurd (Nat.le_trans hB e) (Nat.not_le.2 hi))

def zM : MC := ⟨⟨#[]⟩, [], 0, none, 0⟩
set_option maxHeartbeats 8000000 in
theorem lawCopy_any {w : World} {a : Option Addr} {n c : Nat} {l : List MC} (h : LIn w a n l) (E : TabW w) :
    Calls Tryd.prog 7 #[.slice a n c] w fun e w' => e = .returned (.bool true) ∧ Kept Nil w w' := by
  have HE := Lib.hid E
  have HH := Lib.hid h
  have CA : Hid (∀ W, Kept Nil w W → Calls Tryd.prog 10 #[] W fun e w' => e = .returned (.bool true) ∧ Kept Nil W w') := Lib.hid fun W k => awake_any W (HE.out.kept k)
  have CS := Lib.hid (smallIn_any (c := c) h)
  cases hsm : smL l with
  | false =>
    rw [hsm] at CS
    clear h E hsm
    go_enter Tryd.func7, Tryd.ntmps7
    go_wp2_with fail
    refine CS.out.mono ?_
    rintro e w1 ⟨rfl, k1⟩
    go_wp2_with fail
    refine (CA.out _ k1).mono ?_
    rintro e w2 ⟨rfl, k2⟩
    go_wp2_with fail
    go_ret
    exact ⟨rfl, k1.trans k2 (fun _ _ e => e)⟩
  | true =>
    have hms := h.ms hsm
    have hn := h.le hsm
    have HMS := Lib.hid hms
    have CRL : Hid (∀ W, Kept Nil w W → Calls Tryd.prog 11 #[.slice a n c] W fun e w' => ∃ a' c' l', e = .returned (.slice a' n c') ∧ Ms w' a' n l' ∧ l'.map MC.val = l.map MC.val ∧ Kept Nil W w') := Lib.hid fun W k => refL_any (HMS.out.kept k) (by omega)
    have CCP : Hid (∀ W, Kept Nil w W → Calls Tryd.prog 25 #[.slice a n c] W (CopyEnd (l.map MC.val) W)) := Lib.hid fun W k => copy2_any (HMS.out.kept k) (by omega)
    have HLL : Hid ((l.map MC.val).length = n) := Lib.hid (by rw [List.length_map]; exact hms.row.1)
    rw [hsm] at CS
    clear h E hsm hms
    go_enter Tryd.func7, Tryd.ntmps7
    go_wp2_with fail
    refine CS.out.mono ?_
    rintro e w1 ⟨rfl, k1⟩
    have K1 := Lib.hid k1
    clear k1
    go_wp2_with fail
    refine (CRL.out _ K1.out).mono ?_
    rintro e w2 ⟨ax, cx, lx, rfl, hmx, hvx, k2⟩
    have K2 := Lib.hid (K1.out.trans k2 (fun _ _ e => e))
    have HMX := Lib.hid hmx
    have HVX := Lib.hid hvx
    clear k2 hmx hvx
    go_wp2_with fail
    refine (CCP.out _ K2.out).mono ?_
    rintro e w3 ⟨ac, nc, cc, lc, rfl, hnc, hrc, hvc, hoc, k3⟩
    rw [HLL.out] at hnc
    subst hnc
    have HRC := Lib.hid hrc
    have HOC := Lib.hid hoc
    have K3 := Lib.hid k3
    have HMC : Hid (Ms w3 ac nc lc) := Lib.hid ⟨hrc.toIn cM_len (by decide), fun m hm => (hoc m hm).1⟩
    have C1 := Lib.hid (lawSame_any (c := cc) (d := cx) HMC.out (HMX.out.kept k3) (by omega))
    rw [hvc, HVX.out, decide_eq_true rfl] at C1
    clear hrc hvc hoc k3
    go_wp2_with fail
    refine C1.out.mono ?_
    rintro e w4 ⟨rfl, k4⟩
    have K4 := Lib.hid (K3.out.trans k4 (fun _ _ e => e))
    have P0 : Hid (Spo w4 w2.heap.size ac nc cc lc lc w4) := Lib.hid (Spo.start HRC.out HOC.out k4)
    have HCL : Hid (lc.length = nc) := Lib.hid HMC.out.row.1
    have HFEW : Hid (∀ m ∈ lc, m.n ≤ 1000) := Lib.hid fun m hm => (HOC.out m hm).1.few
    clear k4 C1
    go_wp2_with fail
    go_loopw [5, 6, 21, 29, 30] (fun _ _ i _ _ wr => ∃ (j : Nat) (l2 : List MC), j ≤ nc ∧ i = .int .i64 j ∧ Hid (l2.length = nc ∧ ∀ (q : Nat), j ≤ q → l2[q]? = lc[q]?) ∧ Hid (Spo w4 w2.heap.size ac nc cc l2 lc wr)) (fun _ _ i _ _ _ => nc - (intOf i).toNat)
    case atStart => exact ⟨0, lc, Nat.zero_le _, rfl, ⟨HCL.out, fun _ _ => rfl⟩, P0⟩
    case round =>
      obtain ⟨j, l2, hj, rfl, HL2, HP⟩ := hrel
      by_cases hlt : j < nc
      · obtain ⟨m, hm⟩ : ∃ m, lc[j]? = some m := ⟨_, List.getElem?_eq_getElem (by have := HCL.out; omega)⟩
        have hm2 : l2[j]? = some m := by rw [HL2.out.2 j (Nat.le_refl _)]; exact hm
        have HM := Lib.hid (List.mem_of_getElem? hm)
        have HM2 := Lib.hid hm2
        obtain ⟨g, eg, _⟩ : ∃ g, ac = some ⟨g, 0, none⟩ ∧ True := by
          rcases HP.out.row.addr with ⟨_, e2⟩ | ⟨g, e, _⟩
          · rw [e2] at hm2; cases hm2
          · exact ⟨g, e, trivial⟩
        subst eg
        obtain ⟨q0, q1, q2, q3⟩ := HP.out.row.at_ hm2
        have hfew := HFEW.out m HM.out
        obtain ⟨mr, mids, mn, ma, mc⟩ := m
        simp only at q0 q1 hfew
        clear hm hm2
        go_wp2_with fail
        go_loopw [6, 30] (fun _ k wt => ∃ k' : Nat, k' ≤ mn ∧ k = .int .i64 k' ∧ Hid (Spo w4 w2.heap.size (some ⟨g, 0, none⟩) nc cc l2 lc wt)) (fun _ k _ => mn - (intOf k).toNat)
        case atStart => exact ⟨0, Nat.zero_le _, rfl, HP⟩
        case round =>
          obtain ⟨k', hk', rfl, HP2⟩ := hrel
          clear q0 q1 q2 q3
          obtain ⟨q0, q1, q2, q3⟩ := HP2.out.row.at_ HM2.out
          simp only at q0 q1
          by_cases hlt2 : k' < mn
          · obtain ⟨b, x, hb, p0, p1, hp⟩ := HP2.out.at_ HM.out hlt2
            simp only at hb
            subst hb
            have HP3 := Lib.hid hp
            clear hp
            go_wp2_with fail
            go_roundw
            case rel => exact ⟨k' + 1, hlt2, by go_num, HP3⟩
            case measure => simp [intOf]; omega
          · have e : k' = mn := by omega
            subst e
            have HP3 := Lib.hid (HP2.out.put (by rw [HL2.out.1]; exact hlt) zM rfl)
            have HL3 : Hid ((l2.set j zM).length = nc ∧ ∀ (q : Nat), j + 1 ≤ q → (l2.set j zM)[q]? = lc[q]?) := Lib.hid ⟨by rw [List.length_set]; exact HL2.out.1, fun q hq => by rw [List.getElem?_set_ne (by omega)]; exact HL2.out.2 q (by omega)⟩
            go_wp2_with fail
            go_roundw
            case rel => exact ⟨j + 1, _, hlt, by go_num, HL3, HP3⟩
            case measure => simp [intOf]; omega
      · have HK := Lib.hid (HP.out.kept)
        have HML : Hid (Ms wr a nc l) := Lib.hid ((HMS.out.kept K2.out).low K4.out (Nat.le_refl _) HK.out)
        have HMXR : Hid (Ms wr ax nc lx) := Lib.hid (HMX.out.low K4.out (Nat.le_refl _) HK.out)
        have KR : Hid (Kept Nil w wr) := Lib.hid (K2.out.trans (Kept.low K4.out (Nat.le_refl _) HK.out) (fun _ _ e => e))
        have C2 := Lib.hid (lawSame_any (c := c) (d := cx) HML.out HMXR.out (by omega))
        rw [HVX.out, decide_eq_true rfl] at C2
        go_wp2_with fail
        refine C2.out.mono ?_
        rintro e w8 ⟨rfl, k8⟩
        have K8 := Lib.hid (KR.out.trans k8 (fun _ _ e => e))
        go_wp2_with fail
        refine (CA.out _ K8.out).mono ?_
        rintro e w9 ⟨rfl, k9⟩
        go_wp2_with fail
        go_ret
        exact ⟨rfl, K8.out.trans k9 (fun _ _ e => e)⟩
end Go.Proofs.YtkffcpjaciomjaaDoor
