/- TestTerms: the walk over the law's own code. -/
import Derived.Test.YtefojaeinhgeiaaVAwake
import Derived.Test.YtefojaeinhgeiaaVFit
import Derived.Test.YtefojaeinhgeiaaGRefOfT
import Derived.Test.YtefojaeinhgeiaaGE
import Derived.Test.YtefojaeinhgeiaaEFine
import Derived.BigRegion
import Derived.Deep.RegionHeld3
import Derived.Deep.DeepCutAuto
namespace Go.Proofs.Ytefojaeinhgeiaa
open Go.RowKit
set_option maxRecDepth 100000

theorem fieldCond (k : Int) (i0 i1 i2 : Int) (n0 n1 n2 : Int) (s : Option Addr) (n c : Nat) (W : World) : (Instr.field 45 (.agg #[.int .i64 k, .int .i64 i0, .int .i64 n0, .int .i64 i1, .int .i64 n1, .int .i64 i2, .int .i64 n2, .slice s n c]) 1).run Try.prog W = .ok (.agg #[.int .i64 i0, .int .i64 n0, .int .i64 i1, .int .i64 n1, .int .i64 i2, .int .i64 n2]) W := by
  kernel_rfl
/-- What the law's Fit sees of memory. -/
abbrev Seen11 (w0 : World) (B : Nat) (k : Int) (x0 x1 x2 : Bool) (n0 n1 n2 : Int) (u : Value) (g q : Nat) (t1 t2 t3 : Int) (W : World) : Prop :=
  W.cell? ⟨B, 0, none⟩ = some (.int .i64 k) ∧ W.cell? ⟨B, 1, none⟩ = some (.bool x0) ∧ W.cell? ⟨B, 2, none⟩ = some (.int .i64 n0) ∧ W.cell? ⟨B, 3, none⟩ = some (.bool x1) ∧ W.cell? ⟨B, 4, none⟩ = some (.int .i64 n1) ∧ W.cell? ⟨B, 5, none⟩ = some (.bool x2) ∧ W.cell? ⟨B, 6, none⟩ = some (.int .i64 n2) ∧ W.cell? ⟨B, 7, none⟩ = some u ∧
  W.cell? ⟨g, q, none⟩ = some (.int .i64 t1) ∧ W.cell? ⟨g, q + 1, none⟩ = some (.int .i64 t2) ∧ W.cell? ⟨g, q + 2, none⟩ = some (.int .i64 t3) ∧ Kept Nil w0 W
section
variable {w0 w w' : World} {B : Nat} {k : Int} {x0 x1 x2 : Bool} {n0 n1 n2 : Int} {u : Value} {g q : Nat} {t1 t2 t3 : Int}
theorem seen11_k (h : Seen11 w0 B k x0 x1 x2 n0 n1 n2 u g q t1 t2 t3 w) : Kept Nil w0 w := h.2.2.2.2.2.2.2.2.2.2.2
theorem seen11_kept (kk : Kept Nil w w') (h : Seen11 w0 B k x0 x1 x2 n0 n1 n2 u g q t1 t2 t3 w) : Seen11 w0 B k x0 x1 x2 n0 n1 n2 u g q t1 t2 t3 w' := by
  obtain ⟨h1, h2, h3, h4, h5, h6, h7, h8, h9, h10, h11, h12⟩ := h
  exact ⟨kk.cellOf h1, kk.cellOf h2, kk.cellOf h3, kk.cellOf h4, kk.cellOf h5, kk.cellOf h6, kk.cellOf h7, kk.cellOf h8, kk.cellOf h9, kk.cellOf h10, kk.cellOf h11, h12.trans kk (fun _ _ e => e)⟩
end
theorem QRow.keptO {F : Nat → Prop} {w w' : World} {B : Nat} {v : Value} {ps : List P2} (h : QRow w B v ps) (k : Kept F w w') (hF : ∀ b, v.ownBlock = some b → ¬ F b) : QRow w' B v ps := k.row h hF
theorem QRow.block {w : World} {B : Nat} {v : Value} {ps : List P2} (h : QRow w B v ps) {k : Nat} (hk : v.ownBlock = some k) : ∃ cur, w.heap[k]? = some (.cells cur 74 (0, 0)) := by
  rcases h.2 with ⟨rfl, _⟩ | ⟨g, cap, cur, rfl, _, hg, _⟩
  · cases hk
  · cases hk; exact ⟨cur, hg⟩
theorem neqTP : 48 ≠ 74 := by decide
theorem rows_apart {w : World} {B B' : Nat} {v v' : Value} {ps : List P2} {bk : List T3} (h : QRow w B v ps) (h' : Row cT3 48 3 w B' v' bk) : ∀ b, v.ownBlock = some b → ¬ v'.ownBlock = some b := fun b hb hb' => by
  obtain ⟨c1, e1⟩ := h.block hb
  obtain ⟨c2, e2⟩ := h'.block hb'
  rw [e1] at e2
  injection e2 with e2
  injection e2 with _ e3 _
  exact neqTP e3.symm
theorem infoTr : (Try.prog.info? 48).map (fun i => (i.zero, i.size, i.bytes)) = some (some (.agg #[.int .i64 0, .int .i64 0, .int .i64 0]), 3, 24) := by kernel_rfl
theorem elsTr : Els Try.prog 23 48 3 := Els.of Try.underlying23 infoTr rfl (by decide) (by decide)
theorem rightL_get {l : List T3} (h : rightL l = true) {j : Nat} {t : T3} (ht : l[j]? = some t) : okT t = true := List.all_eq_true.1 h t (List.mem_of_getElem? ht)
/-- The state of the law's loop. -/
structure QT (w4 wr : World) (ch : List Sh) (bk : List T3) (b : Bd) (vb : Value) (ps : List P2) (ak : Option Addr) (ck : Nat) (j : Nat) : Prop where
  kept : Kept Nil w4 wr
  inv : Inv ch bk b
  row : QRow wr w4.heap.size vb ps
  len : ps.length ≤ 3 * j
  rep : Rep ps b
  back : Row cT3 48 3 wr w4.heap.size (.slice ak bk.length ck) bk
  num : bk.length ≤ j
theorem QT.keptN {w4 wr w' : World} {ch : List Sh} {bk : List T3} {b : Bd} {vb : Value} {ps : List P2} {ak : Option Addr} {ck j : Nat} (h : QT w4 wr ch bk b vb ps ak ck j) (k : Kept Nil wr w') : QT w4 w' ch bk b vb ps ak ck j :=
  ⟨h.kept.trans k (fun _ _ e => e), h.inv, h.row.kept k, h.len, h.rep, h.back.keptN k, h.num⟩
set_option maxHeartbeats 16000000 in
theorem lawTerms_any (l : List Sh) (a : Option Addr) (cap : Nat) (af : Option Addr) (nf cf : Nat) (fs : List T3) (w : World) (h : Holds cA w (fun b _ => b < w.heap.size) (.slice a l.length cap) l) (hf : In cT3 3 w af nf fs) (hm : nf ≤ maxLen) :
    Calls Try.prog 3 #[.slice a l.length cap, .slice af nf cf] w fun e w' => e = .returned (.bool true) ∧ Kept Nil w w' := by
  have hm1 := hm
  unfold maxLen at hm1
  have HA := Lib.hid (fun W => awakeT_any W)
  have CF := Lib.hid (fun W (kW : Kept Nil w W) => fineL_any l (fun b _ => b < w.heap.size) a cap W (h.keptN kW) (fun b o hb => Nat.lt_of_lt_of_le hb kW.size))
  unfold YesEnd at CF
  have CR := Lib.hid (fun W (kW : Kept Nil w W) => rightL_any fs af nf cf hm W (hf.kept kW))
  have HF := Lib.hid hf
  have HH := Lib.hid h
  have hlen0 : l.length ≤ cap := h.fits.2
  obtain ⟨len, hlen⟩ : ∃ len, l.length = len := ⟨_, rfl⟩
  rw [hlen] at CF HH hlen0 ⊢
  have HL := Lib.hid hlen
  clear h hf hm hlen
  by_cases h8 : 8 < len
  · have hd : decide (8 < len) = true := decide_eq_true h8
    go_enter Try.func3, Try.ntmps3
    go_wp2_with fail
    refine (HA.out _).mono ?_
    rintro e w3 ⟨rfl, k3⟩
    go_wp2_with fail
    go_ret
    exact ⟨rfl, k3⟩
  have hd : decide (8 < len) = false := decide_eq_false h8
  by_cases hnl : nf = len
  rotate_left
  · have hn1 : ((nf : Int) != (len : Int)) = true := bne_iff_ne.2 (by omega)
    go_enter Try.func3, Try.ntmps3
    go_wp2_with fail
    refine (HA.out _).mono ?_
    rintro e w3 ⟨rfl, k3⟩
    go_wp2_with fail
    go_ret
    exact ⟨rfl, k3⟩
  subst hnl
  go_enter Try.func3, Try.ntmps3
  go_wp2_with fail
  refine (CF.out _ (Kept.refl _ _)).mono ?_
  rintro e w1 ⟨b, rfl, k1, hb⟩
  have K1 := Lib.hid k1
  have HFb := Lib.hid hb
  clear k1 hb CF
  cases b
  · go_wp2_with fail
    refine (HA.out _).mono ?_
    rintro e w3 ⟨rfl, k3⟩
    go_wp2_with fail
    go_ret
    exact ⟨rfl, K1.out.trans k3 (fun _ _ g => g)⟩
  have HG : Hid (countL l ≤ 16 ∧ chkL l 1 = 0) := Lib.hid (HFb.out rfl)
  clear HFb
  go_wp2_with fail
  refine (CR.out _ K1.out).mono ?_
  rintro e w2 ⟨rfl, k2⟩
  have K2 := Lib.hid (K1.out.trans k2 (fun _ _ g => g))
  clear k2 CR
  cases hr : rightL fs
  · go_wp2_with fail
    refine (HA.out _).mono ?_
    rintro e w3 ⟨rfl, k3⟩
    go_wp2_with fail
    go_ret
    exact ⟨rfl, K2.out.trans k3 (fun _ _ g => g)⟩
  have HR := Lib.hid hr
  clear hr
  have HM : Hid (massL (stL l []) ≤ 64) := Lib.hid (by have := st_mass.2 l []; have := HG.out.1; omega)
  have HSL : Hid ((stL l []).length = nf) := Lib.hid (by rw [stL_length]; exact HL.out)
  have C6 : Hid (∀ W, Kept Nil w W → Calls Try.prog 11 #[.slice a nf cap] W fun e w' => ∃ a' cap', e = .returned (.slice a' nf cap') ∧ Holds cR w' (okM W.heap.size w') (.slice a' nf cap') l ∧ Kept Nil W w') := Lib.hid fun W kW => by
    have := refL_any l (by have := HG.out.1; omega) _ a cap W (by rw [HL.out]; exact HH.out.keptN kW)
    unfold ListEnd at this
    rw [HL.out] at this
    exact this
  have CO : Hid (∀ W ok a cap, Holds cR W ok (.slice a nf cap) l → Calls Try.prog 10 #[.slice a nf cap] W fun e w' => ∃ a cap, e = .returned (.slice a nf cap) ∧ SHolds w' (okM W.heap.size w') (.slice a nf cap) (stL l []) ∧ Kept Nil W w') := Lib.hid fun W ok a cap hh => by
    have := refCompile_of of_all l HG.out ok a cap W (by rw [HL.out]; exact hh)
    unfold StsEnd at this
    rw [stL_length, HL.out] at this
    exact this
  have CS : Hid (∀ W ok a cap, SHolds W ok (.slice a nf cap) (stL l []) → Calls Try.prog 9 #[.slice a nf cap] W fun e w' => ∃ a cap, e = .returned (.slice a nf cap) ∧ SHolds w' (okM W.heap.size w') (.slice a nf cap) (stL l []) ∧ Kept Nil W w') := Lib.hid fun W ok a cap hh => by
    have := steps_any (stL l []) (by have := HM.out; omega) ok a cap W (by rw [HSL.out]; exact hh)
    unfold StsEnd at this
    rw [HSL.out] at this
    exact this
  go_wp2_with fail
  refine (C6.out _ K2.out).mono ?_
  rintro e w3 ⟨a3, c3, rfl, h3, k3⟩
  have K3 := Lib.hid (K2.out.trans k3 (fun _ _ g => g))
  have H3 := Lib.hid h3
  clear k3 h3 C6
  go_wp2_with fail
  refine (CO.out _ _ _ _ H3.out).mono ?_
  rintro e w4 ⟨a4, c4, rfl, h4, k4⟩
  have K4 := Lib.hid (K3.out.trans k4 (fun _ _ g => g))
  have H4 := Lib.hid h4
  clear k4 h4 CO H3
  go_wp2_with fail
  refine (CS.out _ _ _ _ H4.out).mono ?_
  rintro e w5 ⟨a5, c5, rfl, h5, k5⟩
  have K5 := Lib.hid (K4.out.trans k5 (fun _ _ g => g))
  have H5 := Lib.hid h5
  clear k5 h5 CS H4 K1 K2 K3 K4 HM
  go_wp2_with fail
  go_loopw [6, 7, 39] (fun vb vk i wr => ∃ (j : Nat) (ps : List P2) (b : Bd) (bk : List T3) (ak : Option Addr) (ck : Nat), j ≤ nf ∧ i = .int .i64 j ∧ vk = .slice ak bk.length ck ∧ QT w5 wr (l.take j) bk b vb ps ak ck j) (fun _ _ i _ => nf - (intOf i).toNat)
  case atStart => exact ⟨0, [], zeroB, [], none, 0, Nat.zero_le _, rfl, rfl, ⟨Kept.refl _ _, by rw [List.take_zero]; exact Inv.nil, QRow.nil _ _, Nat.zero_le _, ⟨fun p hp => (by cases hp), fun _ _ _ => rfl⟩, Row.nil _ _, Nat.zero_le _⟩⟩
  case round =>
    obtain ⟨j, ps, bd, bk, ak, ck, hj, rfl, rfl, hQ⟩ := hrel
    have HQ := Lib.hid hQ
    clear hQ
    by_cases hjn : j < nf
    rotate_left
    · go_wp2_with fail
      refine (HA.out _).mono ?_
      rintro e w6 ⟨rfl, k6⟩
      go_wp2_with fail
      go_ret
      exact ⟨rfl, (K5.out.trans HQ.out.kept (fun _ _ g => g)).trans k6 (fun _ _ g => g)⟩
    obtain ⟨⟨⟨k', x0', x1', x2', n0', n1', n2'⟩, sb⟩, hx⟩ : ∃ x, l[j]? = some x := ⟨_, List.getElem?_eq_getElem (by have := HL.out; omega)⟩
    obtain ⟨⟨t1, t2, t3⟩, hft⟩ : ∃ t, fs[j]? = some t := ⟨_, List.getElem?_eq_getElem (by have := HF.out.1; omega)⟩
    obtain ⟨b, o, a', cap', rfl, hok, hr, hs⟩ := (HH.out.keptN (K5.out.trans HQ.out.kept (fun _ _ g => g))).at_ hx
    obtain ⟨bf, of, rfl, hbf, p0, p1, p2⟩ := (HF.out.kept (K5.out.trans HQ.out.kept (fun _ _ g => g))).three hft
    have hst := stL_get l [] j _ hx
    rw [List.nil_append] at hst
    have hchk : (Sh.mk ⟨k', x0', x1', x2', n0', n1', n2'⟩ sb).chk 1 = 0 := chkL_all.1 HG.out.2 _ (List.mem_of_getElem? hx)
    have hcnt : (Sh.mk ⟨k', x0', x1', x2', n0', n1', n2'⟩ sb).count ≤ 16 := Nat.le_trans (count_mem (List.mem_of_getElem? hx)) HG.out.1
    have HT := Lib.hid (rightL_get HR.out hft)
    have HRng := Lib.hid hr
    have HS := Lib.hid hs
    simp only at p0 p1 p2
    have HTk : Hid (l.take (j + 1) = l.take j ++ [Sh.mk ⟨k', x0', x1', x2', n0', n1', n2'⟩ sb]) := Lib.hid (by rw [List.take_add_one, hx]; rfl)
    have HC := Lib.hid (And.intro hchk hcnt)
    have BY := Lib.hid (Blk.new wr 38 #[.int .i64 k', .bool x0', .int .i64 n0', .bool x1', .int .i64 n1', .bool x2', .int .i64 n2', .slice a' sb.length cap'])
    have KY := Lib.hid ((Kept.refl Nil wr).alloc (.cells #[.int .i64 k', .bool x0', .int .i64 n0', .bool x1', .int .i64 n1', .bool x2', .int .i64 n2', .slice a' sb.length cap'] 38))
    generalize hsl : sb.length = slen at *
    have HSl := Lib.hid hsl
    clear hr hs hok hsl hchk hcnt hft
    by_cases e3 : k' = 3
    · subst e3
      go_wp2_with ((with_reducible refine wpList_load_A rfl (.tmp 42) rfl _ _ rfl ⟨3, x0', x1', x2', n0', n1', n2'⟩ (.slice a' slen cap') ?_ ?_)
                   · exact HRng.out)
      refine (HA.out _).mono ?_
      rintro e w6 ⟨rfl, k6⟩
      go_wp2_with fail
      go_ret
      exact ⟨rfl, ((K5.out.trans HQ.out.kept (fun _ _ g => g)).trans KY.out (fun _ _ g => g)).trans k6 (fun _ _ g => g)⟩
    have n3 : (k' == 3) = false := beq_eq_false_iff_ne.2 e3
    have hk12 : (k' = 1 ∨ k' = 2) ∧ (⟨k', x0', x1', x2', n0', n1', n2'⟩ : Hd).fine = true := by
      have := HC.out.1
      unfold Sh.chk at this
      rw [if_neg (by omega), if_neg (show ¬ (⟨k', x0', x1', x2', n0', n1', n2'⟩ : Hd).k = 3 from e3)] at this
      by_cases e12 : k' = 1 ∨ k' = 2
      · refine ⟨e12, ?_⟩
        rw [if_pos (show (⟨k', x0', x1', x2', n0', n1', n2'⟩ : Hd).k = 1 ∨ (⟨k', x0', x1', x2', n0', n1', n2'⟩ : Hd).k = 2 from e12)] at this
        cases hfn : (⟨k', x0', x1', x2', n0', n1', n2'⟩ : Hd).fine with
        | true => rfl
        | false => rw [if_pos hfn] at this; omega
      · rw [if_neg (show ¬ ((⟨k', x0', x1', x2', n0', n1', n2'⟩ : Hd).k = 1 ∨ (⟨k', x0', x1', x2', n0', n1', n2'⟩ : Hd).k = 2) from e12)] at this
        omega
    have HK := Lib.hid hk12
    rw [st_mk, if_neg (show ¬ (⟨k', x0', x1', x2', n0', n1', n2'⟩ : Hd).k = 3 from e3)] at hst
    have HST := Lib.hid hst
    clear e3 hk12 hst
    go_wp2_with ((with_reducible refine wpList_load_A rfl (.tmp 42) rfl _ _ rfl ⟨k', x0', x1', x2', n0', n1', n2'⟩ (.slice a' slen cap') ?_ ?_)
                 · exact HRng.out)
    have HQ6 := Lib.hid (HQ.out.keptN KY.out)
    have hcc := BY.out.cell 0
    have B6 := Lib.hid BY.out
    have hp0 := KY.out.cellOf p0
    have hp1 := KY.out.cellOf p1
    have hp2 := KY.out.cellOf p2
    have S0 := Lib.hid (show Seen11 (wr.alloc (.cells #[.int .i64 k', .bool x0', .int .i64 n0', .bool x1', .int .i64 n1', .bool x2', .int .i64 n2', .slice a' slen cap'] 38)).drew wr.heap.size k' x0' x1' x2' n0' n1' n2' (.slice a' slen cap') bf (of + j * 3) t1 t2 t3 (wr.alloc (.cells #[.int .i64 k', .bool x0', .int .i64 n0', .bool x1', .int .i64 n1', .bool x2', .int .i64 n2', .slice a' slen cap'] 38)).drew from ⟨BY.out.cell 0, BY.out.cell 1, BY.out.cell 2, BY.out.cell 3, BY.out.cell 4, BY.out.cell 5, BY.out.cell 6, BY.out.cell 7, hp0, hp1, hp2, Kept.refl _ _⟩)
    have HKW := Lib.hid ((K5.out.trans HQ6.out.kept (fun _ _ g => g)).drew)
    have HS6 := Lib.hid (HS.out.keptN KY.out.drew)
    clear hcc p0 p1 p2 HQ KY BY HS HRng HH
    have hbw : wr.heap.size < (wr.alloc (.cells #[.int .i64 k', .bool x0', .int .i64 n0', .bool x1', .int .i64 n1', .bool x2', .int .i64 n2', .slice a' slen cap'] 38)).heap.size := B6.out.lt
    have hbf6 : bf < (wr.alloc (.cells #[.int .i64 k', .bool x0', .int .i64 n0', .bool x1', .int .i64 n1', .bool x2', .int .i64 n2', .slice a' slen cap'] 38)).heap.size := Nat.lt_of_lt_of_le hbf (by simp)
    generalize wr.alloc (.cells #[.int .i64 k', .bool x0', .int .i64 n0', .bool x1', .int .i64 n1', .bool x2', .int .i64 n2', .slice a' slen cap'] 38) = w6 at *
    generalize wr.heap.size = B at *
    have HQd := Lib.hid (HQ6.out.keptN ((Kept.refl Nil w6).drew))
    have hps : ps.length ≤ 21 := by have := HQ6.out.len; omega
    have CRef : Hid (∀ W, Kept Nil w6.drew W → Calls Try.prog 13 #[.agg #[.int .i64 k', .bool x0', .int .i64 n0', .bool x1', .int .i64 n1', .bool x2', .int .i64 n2', .slice a' slen cap']] W fun e w' => ∃ a2 c2, e = .returned (.agg #[.int .i64 k', .int .i64 (isV x0'), .int .i64 n0', .int .i64 (isV x1'), .int .i64 n1', .int .i64 (isV x2'), .int .i64 n2', .slice a2 slen c2]) ∧ Kept Nil W w') := Lib.hid fun W kW => by
      have := refT_any (.mk ⟨k', x0', x1', x2', n0', n1', n2'⟩ sb) (by have := HC.out.2; omega) _ a' cap' W (by show Holds _ _ _ (.slice a' sb.length cap') sb; rw [HSl.out]; exact HS6.out.keptN kW)
      unfold RefEnd at this
      rw [show (Sh.mk ⟨k', x0', x1', x2', n0', n1', n2'⟩ sb).subs.length = slen from HSl.out] at this
      exact this.mono fun e w' ⟨a2, c2, he, _, hk⟩ => ⟨a2, c2, he, hk⟩
    have hq : fitOk (flH ⟨k', x0', x1', x2', n0', n1', n2'⟩ (t1, t2, t3)) bd = meetH (stepH (l.take j) ⟨k', x0', x1', x2', n0', n1', n2'⟩) bk (t1, t2, t3) := fit_meets HQ6.out.inv HK.out.1 HK.out.2 HT.out
    have CFit : Hid (∀ W, Kept Nil w6.drew W → Calls Try.prog 12 #[.agg #[.int .i64 (isV x0'), .int .i64 n0', .int .i64 (isV x1'), .int .i64 n1', .int .i64 (isV x2'), .int .i64 n2'], .agg #[.int .i64 t1, .int .i64 t2, .int .i64 t3], u6] W fun e w' => ∃ v qs, e = .returned (.tuple #[v, .bool (fitOk (flH ⟨k', x0', x1', x2', n0', n1', n2'⟩ (t1, t2, t3)) bd)]) ∧ QRow w' w5.heap.size v qs ∧ qs.length ≤ ps.length + 3 ∧ Rep qs (fitB (flH ⟨k', x0', x1', x2', n0', n1', n2'⟩ (t1, t2, t3)) bd) ∧ Kept Nil W w') := Lib.hid fun W kW =>
      refFitN_any (B := w5.heap.size) HK.out.2 (okT_pos HT.out) (HQd.out.row.kept kW) (Nat.le_trans HQd.out.kept.size kW.size) (by omega) HQ6.out.rep
    obtain ⟨b5, o5, ta, tc, sa, sc, rfl, _, hr5, ht5, hs5⟩ := (H5.out.keptN HQd.out.kept).at_ HST.out
    have hfine := st_fine (.mk ⟨k', x0', x1', x2', n0', n1', n2'⟩ sb) (l.take j)
    have hstm := HST.out
    have CM : Hid (∀ W, Kept Nil w6.drew W → Calls Try.prog 14 #[.agg #[.int .i64 k', .int .i64 (kF x0' n0'), .int .i64 (kF x1' n1'), .int .i64 (kF x2' n2'), .slice ta (tstL (l.take j) ⟨k', x0', x1', x2', n0', n1', n2'⟩).length tc, .slice sa 0 sc], .slice ak bk.length ck, .agg #[.int .i64 t1, .int .i64 t2, .int .i64 t3]] W fun e w' => e = .returned (.bool (meetH (stepH (l.take j) ⟨k', x0', x1', x2', n0', n1', n2'⟩) bk (t1, t2, t3))) ∧ Kept Nil W w') := Lib.hid fun W kW =>
      meets_any (stepH (l.take j) ⟨k', x0', x1', x2', n0', n1', n2'⟩) bk (t1, t2, t3) tstL_fine (Nat.le_trans (tstL_len _ _) (by decide)) ak bk.length ck (by unfold maxLen; have := HQ6.out.num; omega) _ ta tc (.slice sa 0 sc) ⟨sa, 0, sc, rfl⟩ W ((HQd.out.back.toIn cT3_len (by decide)).kept kW) (ht5.keptN kW)
    rw [← hq] at CM
    have r0 := hr5 0 _ rfl
    have r1 := hr5 1 _ rfl
    have r2 := hr5 2 _ rfl
    have r3 := hr5 3 _ rfl
    have r4 := hr5 4 _ rfl
    have r5 := hr5 5 _ rfl
    have HR5 := Lib.hid (And.intro r0 (And.intro r1 (And.intro r2 (And.intro r3 (And.intro r4 r5)))))
    simp only [Nat.add_zero] at HR5
    clear r0 r1 r2 r3 r4 r5 hr5 ht5 hs5 hfine hstm hq
    generalize hqv : fitOk (flH ⟨k', x0', x1', x2', n0', n1', n2'⟩ (t1, t2, t3)) bd = q at *
    have HQV := Lib.hid hqv
    generalize hbn : bk.length = bn at *
    have HBN := Lib.hid hbn
    have hfld : ∀ (a7 : Option Addr) (c7 : Nat) (W : World), (Instr.field 45 (.agg #[.int .i64 k', .int .i64 (isV x0'), .int .i64 n0', .int .i64 (isV x1'), .int .i64 n1', .int .i64 (isV x2'), .int .i64 n2', .slice a7 slen c7]) 1).run Try.prog W = .ok (.agg #[.int .i64 (isV x0'), .int .i64 n0', .int .i64 (isV x1'), .int .i64 n1', .int .i64 (isV x2'), .int .i64 n2']) W := fun a7 c7 W => fieldCond k' (isV x0') (isV x1') (isV x2') n0' n1' n2' a7 slen c7 W
    generalize isV x0' = i0 at *
    generalize isV x1' = i1 at *
    generalize isV x2' = i2 at *
    clear hqv hbn
    go_region_held3 (Seen11 w6.drew B k' x0' x1' x2' n0' n1' n2' (.slice a' slen cap') bf (of + j * 3) t1 t2 t3)
      (first | (with_reducible assumption) | (with_reducible exact S0.out) | (with_reducible exact seen11_kept k7 (by with_reducible assumption)) | (with_reducible exact seen11_kept k8 (by with_reducible assumption)))
      (first
        | (go_at_call 13; (with_reducible refine (CRef.out _ (seen11_k (by with_reducible assumption))).mono ?_); rintro e w7 ⟨a7, c7, rfl, k7⟩)
        | (go_at_call 12; (with_reducible refine (CFit.out _ (seen11_k (by with_reducible assumption))).mono ?_); rintro e w8 ⟨v8, qs8, rfl, hq8, hl8, hr8, k8⟩))
    have HS8 : Hid (Seen11 w6.drew B k' x0' x1' x2' n0' n1' n2' (.slice a' slen cap') bf (of + j * 3) t1 t2 t3 w8) := Lib.hid (by with_reducible assumption)
    have K8 := Lib.hid (seen11_k HS8.out)
    have HQ8 := Lib.hid (HQd.out.keptN K8.out)
    have HN8 := Lib.hid (And.intro hq8 (And.intro hl8 hr8))
    have HW8 := Lib.hid (HKW.out.trans K8.out (fun _ _ g => g))
    have y0 : ∀ n : CW (Kept Nil w8), n.w.cell? ⟨b5, o5 + j * 6, none⟩ = some (.int .i64 k') := fun n => (K8.out.trans n.of (fun _ _ g => g)).cellOf HR5.out.1
    have y1 : ∀ n : CW (Kept Nil w8), n.w.cell? ⟨b5, o5 + j * 6 + 1, none⟩ = some (.int .i64 (kF x0' n0')) := fun n => (K8.out.trans n.of (fun _ _ g => g)).cellOf HR5.out.2.1
    have y2 : ∀ n : CW (Kept Nil w8), n.w.cell? ⟨b5, o5 + j * 6 + 2, none⟩ = some (.int .i64 (kF x1' n1')) := fun n => (K8.out.trans n.of (fun _ _ g => g)).cellOf HR5.out.2.2.1
    have y3 : ∀ n : CW (Kept Nil w8), n.w.cell? ⟨b5, o5 + j * 6 + 3, none⟩ = some (.int .i64 (kF x2' n2')) := fun n => (K8.out.trans n.of (fun _ _ g => g)).cellOf HR5.out.2.2.2.1
    have y4 : ∀ n : CW (Kept Nil w8), n.w.cell? ⟨b5, o5 + j * 6 + 4, none⟩ = some (.slice ta (tstL (l.take j) ⟨k', x0', x1', x2', n0', n1', n2'⟩).length tc) := fun n => (K8.out.trans n.of (fun _ _ g => g)).cellOf HR5.out.2.2.2.2.1
    have y5 : ∀ n : CW (Kept Nil w8), n.w.cell? ⟨b5, o5 + j * 6 + 5, none⟩ = some (.slice sa 0 sc) := fun n => (K8.out.trans n.of (fun _ _ g => g)).cellOf HR5.out.2.2.2.2.2
    have z0 : ∀ n : CW (Kept Nil w8), n.w.cell? ⟨bf, of + j * 3, none⟩ = some (.int .i64 t1) := fun n => n.of.cellOf HS8.out.2.2.2.2.2.2.2.2.1
    have z1 : ∀ n : CW (Kept Nil w8), n.w.cell? ⟨bf, of + j * 3 + 1, none⟩ = some (.int .i64 t2) := fun n => n.of.cellOf HS8.out.2.2.2.2.2.2.2.2.2.1
    have z2 : ∀ n : CW (Kept Nil w8), n.w.cell? ⟨bf, of + j * 3 + 2, none⟩ = some (.int .i64 t3) := fun n => n.of.cellOf HS8.out.2.2.2.2.2.2.2.2.2.2.1
    generalize (tstL (l.take j) ⟨k', x0', x1', x2', n0', n1', n2'⟩).length = tn at *
    generalize kF x0' n0' = f0 at *
    generalize kF x1' n1' = f1 at *
    generalize kF x2' n2' = f2 at *
    clear hq8 hl8 hr8 k7 k8 hp0 hp1 hp2 S0 HQd HQ6 HKW CRef CFit hfld HS6 B6 HST H5 HR5 HSl
    go_wp2_with fail
    refine wp_region_in (Kept Nil w8) (by kernel_rfl) (by kernel_rfl) ((Kept.refl _ _).drew) ?_
    have inst : Nonempty (CW (Kept Nil w8)) := ⟨⟨w8, Kept.refl _ _⟩⟩
    repeat (go_big_quiet_step ((go_at_call 14; with_reducible exact call_in (kept_in w8) (CM.out _ (K8.out.trans (CW.of _) (fun _ _ e => e))))))
    refine wpQuiet_nil ?_
    rintro w9 ⟨n, hn⟩
    have hk9 : Kept Nil w8 w9 := by rw [hn]; exact n.of
    have K9 := Lib.hid hk9
    clear hn n
    have HQ9 := Lib.hid (HQ8.out.keptN K9.out)
    have c0 : w9.cell? ⟨B, 0, none⟩ = some (.int .i64 k') := K9.out.cellOf HS8.out.1
    have p0 : w9.cell? ⟨bf, of + j * 3, none⟩ = some (.int .i64 t1) := K9.out.cellOf HS8.out.2.2.2.2.2.2.2.2.1
    have p1 : w9.cell? ⟨bf, of + j * 3 + 1, none⟩ = some (.int .i64 t2) := K9.out.cellOf HS8.out.2.2.2.2.2.2.2.2.2.1
    have p2 : w9.cell? ⟨bf, of + j * 3 + 2, none⟩ = some (.int .i64 t3) := K9.out.cellOf HS8.out.2.2.2.2.2.2.2.2.2.2.1
    clear y0 y1 y2 y3 y4 y5 z0 z1 z2 CM hk9
    by_cases e1 : k' = 1
    rotate_left
    · have n1 : (k' != 1) = true := bne_iff_ne.2 e1
      have HE1 := Lib.hid e1
      clear e1
      go_wp2_with fail
      go_roundw
      case rel =>
        refine ⟨j + 1, ps, bd, bk, ak, ck, hjn, by go_num, by rw [HBN.out], ?_⟩
        rw [HTk.out]
        exact ⟨HQ9.out.kept, HQ9.out.inv.skip HE1.out, HQ9.out.row, by have := HQ9.out.len; omega, HQ9.out.rep, HQ9.out.back, by have := HQ9.out.num; omega⟩
      case measure => simp [intOf]; omega
    subst e1
    cases q
    · go_wp2_with fail
      refine (HA.out _).mono ?_
      rintro e w10 ⟨rfl, k10⟩
      go_wp2_with fail
      go_ret
      exact ⟨rfl, (HW8.out.trans K9.out (fun _ _ g => g)).trans k10 (fun _ _ g => g)⟩
    · obtain ⟨g, hg⟩ : ∃ g, runL (flH ⟨1, x0', x1', x2', n0', n1', n2'⟩ (t1, t2, t3)) bd = some g := Option.isSome_iff_exists.1 HQV.out
      have hrp := HN8.out.2.2
      rw [(fit_some hg).1] at hrp
      have HN := Lib.hid (show QRow w9 w5.heap.size v8 qs8 ∧ qs8.length ≤ ps.length + 3 ∧ Rep qs8 g ∧ Inv (l.take j ++ [.mk ⟨1, x0', x1', x2', n0', n1', n2'⟩ sb]) (bk ++ [(t1, t2, t3)]) g from ⟨HN8.out.1.kept K9.out, HN8.out.2.1, hrp, HQ9.out.inv.more rfl HK.out.2 HT.out hg⟩)
      have hbk := HQ9.out.back
      rw [HBN.out] at hbk
      have hbl : bk.length ≤ 5000 := by have := HQ9.out.num; omega
      obtain ⟨a', cap2, w10, r10, row10, kn10, ko10⟩ := hbk.push elsTr cT3_len cT3_one 23 HQ9.out.kept HBN.out.symm hbl (t1, t2, t3) #[.int .i64 t1, .int .i64 t2, .int .i64 t3] rfl
      have R10 := Lib.hid r10
      have H10 := Lib.hid (And.intro row10 (And.intro kn10 (HN.out.1.keptO ko10 (rows_apart HN.out.1 hbk))))
      clear hg hrp hbk r10 row10 kn10 ko10 hbl
      go_wp2_with (at_builtin; refine wpList_append_run rfl (.tmp 79) (.tmp 84) 23 rfl _ _ rfl rfl R10.out ?_)
      go_roundw
      case rel =>
        have e3 : (bk ++ [(t1, t2, t3)]).length = bn + 1 := by rw [List.length_append, HBN.out]; rfl
        refine ⟨j + 1, qs8, g, bk ++ [(t1, t2, t3)], a', cap2, hjn, by go_num, by rw [e3], ?_⟩
        rw [HTk.out]
        exact ⟨H10.out.2.1, HN.out.2.2.2, H10.out.2.2, by have := HN.out.2.1; have := HQ9.out.len; omega, HN.out.2.2.1, by rw [e3]; exact H10.out.1, by rw [e3]; have := HQ9.out.num; have := HBN.out; omega⟩
      case measure => simp [intOf]; omega
end Go.Proofs.Ytefojaeinhgeiaa
