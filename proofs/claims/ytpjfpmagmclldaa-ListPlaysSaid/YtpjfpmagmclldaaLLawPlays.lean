/- Whatever is called, ListPlays returns true, and writes nothing that was there. -/
import Derived.Test.YtpjfpmagmclldaaLLawTurns
import Derived.Test.YtpjfpmagmclldaaQuiet
namespace Go.Proofs.Ytpjfpmagmclldaa
set_option maxRecDepth 100000
open Go.RowKit Go.Maps

theorem keptStep {w : World} : ∀ W W', Kept Nil w W → Kept Nil W W' → Kept Nil w W' := fun _ _ h k => h.trans k (fun _ _ e => e)
section
variable {w w' : World} {B p : Nat} {m : Value} {g : Nat → Nat} {row : List Nat} {vals : List ByteArray}
/-- No block of another type is the list's. -/
theorem LstS.other (h : LstS w B p m g row vals) {k : Nat} {cs : Array Value} {t : TypeId} {f : Nat × Nat} (hb : w.heap[k]? = some (.cells cs t f)) (h1 : t ≠ 66) (h2 : t ≠ 71) : ¬ FoS w B m k := by
  rintro ⟨_, e | ⟨cs', f', e | e⟩⟩
  · rcases h.mp with ⟨e', _⟩ | ⟨bm, D, e', _, ho, _⟩
    · rw [e'] at e; cases e
    · rw [e'] at e
      cases e
      obtain ⟨es, c, hbb, _⟩ := ho
      rw [hbb] at hb; cases hb
  · rw [hb] at e; simp at e; exact h1 e.2.1
  · rw [hb] at e; simp at e; exact h2 e.2.1
/-- The law's own variable, and the reference's list in it. -/
structure Held (w : World) (bx : Nat) (row : List Nat) (vals : List ByteArray) : Prop where
  held : ∃ a c b d, Blk w bx 29 #[.slice a row.length c, .slice b vals.length d] ∧ RefL w (.slice a row.length c) (.slice b vals.length d) row vals
theorem Held.grew {row' : List Nat} {vals' : List ByteArray} {bx : Nat} (h : Held w bx row vals) (hl : LstS w B p m g row' vals') (hk : Kept (FoS w B m) w w') : Held w' bx row vals := by
  obtain ⟨a, c, b, d, hb, hr⟩ := h.held
  exact ⟨a, c, b, d, hb.kept hk (hl.other hb (by decide) (by decide)), hr.kept hk (fun k cs e => by
    rcases e with e | e
    · exact hl.other e (by decide) (by decide)
    · exact hl.other e (by decide) (by decide))⟩
theorem Held.keptN {bx : Nat} (h : Held w bx row vals) (hk : Kept Nil w w') : Held w' bx row vals := by
  obtain ⟨a, c, b, d, hb, hr⟩ := h.held
  exact ⟨a, c, b, d, hb.kept hk (fun e => e), hr.keptN hk⟩
/-- The list's parts stay when the law writes its own variable. -/
theorem LstS.own {bx : Nat} {cs : Array Value} (h : LstS w B p m g row vals) (hb : Blk w bx 29 cs) (i : Nat) (u : Value) : LstS (w.setCell ⟨bx, i, none⟩ u) B p m g row vals :=
  h.kept (F := fun k => k = bx) ((Kept.refl (fun k => k = bx) w).setCell ⟨bx, i, none⟩ (Or.inl rfl) u) (fun k hf e => by subst e; exact h.other hb (by decide) (by decide) hf)
end
/-- The reference's answer stored in the law's own variable. -/
theorem stored_of {w : World} {B p bx : Nat} {m : Value} {g : Nat → Nat} {row row' : List Nat} {vals vals' : List ByteArray} {x y r v : Value} (hL : LstS w B p m g row vals) (hb : Blk w bx 29 #[x, y]) (hR : RefL w r v row' vals') :
    LstS ((w.setCell ⟨bx, 0, none⟩ r).setCell ⟨bx, 1, none⟩ v) B p m g row vals ∧ Held ((w.setCell ⟨bx, 0, none⟩ r).setCell ⟨bx, 1, none⟩ v) bx row' vals' ∧ Kept (fun k => k = bx) w ((w.setCell ⟨bx, 0, none⟩ r).setCell ⟨bx, 1, none⟩ v) := by
  obtain ⟨a, c, b, d, rfl, rfl, _⟩ := hR.shapes
  refine ⟨(hL.own hb 0 _).own (hb.set_ 0 _) 1 _, ⟨a, c, b, d, (hb.set_ 0 _).set_ 1 _, (hR.set hb 0 _).set (hb.set_ 0 _) 1 _⟩, ?_⟩
  exact ((Kept.refl (fun k => k = bx) w).setCell ⟨bx, 0, none⟩ (Or.inl rfl) _).setCell ⟨bx, 1, none⟩ (Or.inl rfl) _
theorem LstS.keptN' {w : World} {B p : Nat} {m : Value} {g : Nat → Nat} {row : List Nat} {vals : List ByteArray} (h : LstS w B p m g row vals) (o : Obj) : LstS (w.alloc o) B p m g row vals := h.keptN ((Kept.refl Nil w).alloc o)
theorem Held.alloc {w : World} {bx : Nat} {row : List Nat} {vals : List ByteArray} (h : Held w bx row vals) (o : Obj) : Held (w.alloc o) bx row vals := h.keptN ((Kept.refl Nil w).alloc o)
/-- What stands at the head of each round. -/
def RoundP (w wr : World) (p bx j : Nat) : Prop := ∃ m g row vals, LstS wr w.heap.size p m g row vals ∧ Held wr bx row vals ∧ vals.length ≤ j ∧ row.length ≤ j ∧ Kept Nil w wr

theorem RoundP.grew {w wr w5 : World} {p bx j : Nat} {m : Value} {g : Nat → Nat} {row row' : List Nat} {vals vals' : List ByteArray} (k : Kept Nil w wr) (hl : LstS wr w.heap.size p m g row vals) (hh : Held wr bx row' vals') (h : GrewS wr w5 w.heap.size p m row' vals') (h1 : vals'.length ≤ j) (h2 : row'.length ≤ j) : RoundP w w5 p bx j := by
  obtain ⟨m', g', hl', _, hk⟩ := h
  exact ⟨m', g', row', vals', hl', hh.grew hl hk, h1, h2, FoS.fresh k hk⟩

set_option maxHeartbeats 4000000 in
theorem listPlays_any (a : Option Addr) (len cap : Nat) (os : List OpV) (w : World) (h : In cO 3 w a len os) (hok : ∀ o ∈ os, okO o) (hml : len ≤ maxLen) :
    Calls Try.prog 3 #[.slice a len cap] w fun e w' => e = .returned (.bool true) ∧ Kept Nil w w' := by
  obtain ⟨hlen, hat⟩ := h
  have HLen := Lib.hid hlen
  have HOk := Lib.hid hok
  have HAt := Lib.hid hat
  unfold maxLen at hml
  clear hlen hok hat
  by_cases hbig : 60 < len
  · go_enter Try.func3, Try.ntmps3
    go_wp2_with fail
    refine (new_s _).mono ?_
    rintro e w1 ⟨rfl, t1, k1⟩
    have K1 := Lib.hid k1
    clear t1 k1
    go_wp2_with fail
    refine (awake_any _).mono ?_
    rintro e w2 ⟨rfl, k2⟩
    go_wp2_with fail
    go_ret
    exact ⟨rfl, K1.out.trans k2 (fun _ _ g => g)⟩
  · have hd : decide (60 < (len : Int)) = false := decide_eq_false (by omega)
    go_enter Try.func3, Try.ntmps3
    go_wp2_with fail
    refine (new_s _).mono ?_
    rintro e w1 ⟨rfl, t1, k1⟩
    have A1 := Lib.hid (show RoundP w (w1.alloc (.cells #[.slice none 0 0, .slice none 0 0] 29)) w.heap.size w1.heap.size 0 from ⟨_, _, _, _, t1.keptN ((Kept.refl Nil w1).alloc _), ⟨none, 0, none, 0, Blk.new _ _ _, RefL.nil _⟩, Nat.le_refl _, Nat.le_refl _, k1.alloc _⟩)
    have HX := Lib.hid k1.size
    clear t1 k1
    go_wp2_with fail
    generalize hbx : w1.heap.size = bx at *
    clear hbx
    go_loopw [35] (fun i wr => ∃ j : Nat, j ≤ len ∧ i = .int .i64 (j : Int) ∧ RoundP w wr w.heap.size bx j) (fun i _ => len - (intOf i).toNat)
    case atStart => exact ⟨0, Nat.zero_le _, rfl, A1.out⟩
    case round =>
      obtain ⟨j, hj, rfl, m, g, row, vals, hL, hH, hv, hr, hk⟩ := hrel
      have HL := Lib.hid hL
      have HK := Lib.hid hk
      have HH := Lib.hid hH
      clear hL hk hH
      by_cases hlt : j < len
      · obtain ⟨o, ho⟩ : ∃ o, os[j]? = some o := ⟨os[j]'(by have := HLen.out; omega), by simp⟩
        have hoo := HOk.out o (List.mem_of_getElem? ho)
        rcases HAt.out with e | ⟨b, off, rfl, hb, hc⟩
        · omega
        have d0 : wr.cell? ⟨b, off + j * 3, none⟩ = some (Value.int .i64 o.k) := (HK.out.cell (p := ⟨b, off + j * 3 + 0, none⟩) hb (fun e => e)).trans (hc j o 0 _ ho rfl)
        have d1 : _ = some (Value.int .i64 o.h) := (HK.out.cell (p := ⟨b, off + j * 3 + 1, none⟩) hb (fun e => e)).trans (hc j o 1 _ ho rfl)
        have d2 : _ = some (Value.string o.v) := (HK.out.cell (p := ⟨b, off + j * 3 + 2, none⟩) hb (fun e => e)).trans (hc j o 2 _ ho rfl)
        have KA := Lib.hid ((HK.out).alloc (.cells #[.int .i64 o.k, .int .i64 o.h, .string o.v] 31))
        have KN := Lib.hid ((Kept.refl Nil wr).alloc (.cells #[.int .i64 o.k, .int .i64 o.h, .string o.v] 31))
        have HLA := Lib.hid (HL.out.keptN KN.out)
        have hHA := HH.out.keptN KN.out
        obtain ⟨ra, rc, va, vc, hbx, hR⟩ := hHA.held
        have q0 := hbx.cell 0
        have q1 := hbx.cell 1
        have HBX := Lib.hid hbx
        have HR := Lib.hid hR
        have HOB := Lib.hid (Blk.new wr 31 #[.int .i64 o.k, .int .i64 o.h, .string o.v])
        have hw := hoo.2.1
        clear hc ho hoo hHA hbx hR
        by_cases h1 : o.k = 1
        · rw [h1] at d0 KA KN HLA HBX HR HOB q0 q1
          clear h1
          go_wp2_with fail
          refine (pushR_any HR.out (by omega) (by omega) o.v).mono ?_
          rintro e w2 ⟨r', v', rfl, hR2, k2⟩
          obtain ⟨ra', rc', va', vc', rfl, rfl, t1, t2, t3, t4⟩ := hR2.shapes
          have el : (vals ++ [o.v]).length = vals.length + 1 := by simp
          have er : (row ++ [vals.length + 1]).length = row.length + 1 := by simp
          rw [el, er] at hR2
          rw [el] at t3
          rw [er] at t1
          simp only [el, er]
          have hbx2 := HBX.out.kept k2 (fun e => e)
          have q20 := hbx2.cell 0
          have q21 := hbx2.cell 1
          have f20 := hbx2.frozen 0
          have f21 := hbx2.frozen 1
          have hob2 := HOB.out.kept k2 (fun e => e)
          have hbl := hbx2.lt
          have hol := hob2.lt
          have p0 := hob2.cell 2
          have K2 := Lib.hid k2
          have HR2 := Lib.hid hR2
          have HBX2 := Lib.hid hbx2
          have HOB2 := Lib.hid hob2
          clear k2 hR2 hbx2 hob2 q0 q1
          go_wp2_with fail
          have hW := stored_of ((HLA.out.keptN K2.out)) HBX2.out HR2.out
          have HW1 := Lib.hid (hW.1.keptN' (.cells #[.slice ra' (row.length + 1) rc', .slice va' (vals.length + 1) vc'] 29))
          have HW2 := Lib.hid (hW.2.1.alloc (.cells #[.slice ra' (row.length + 1) rc', .slice va' (vals.length + 1) vc'] 29))
          have KW := Lib.hid (((KA.out.trans K2.out (fun _ _ e => e)).trans hW.2.2 (fun k hk e => by have := HX.out; omega)).alloc (.cells #[.slice ra' (row.length + 1) rc', .slice va' (vals.length + 1) vc'] 29))
          clear hW
          generalize ((w2.setCell ⟨bx, 0, none⟩ (.slice ra' (row.length + 1) rc')).setCell ⟨bx, 1, none⟩ (.slice va' (vals.length + 1) vc')).alloc (.cells #[.slice ra' (row.length + 1) rc', .slice va' (vals.length + 1) vc'] 29) = w3 at *
          refine (push_s HW1.out (by omega) o.v).mono ?_
          rintro e w5 ⟨rfl, hg⟩
          have HRR := Lib.hid (RoundP.grew (j := j + 1) KW.out HW1.out HW2.out hg (by rw [el]; omega) (by rw [er]; omega))
          clear hg el er q20 q21 f20 f21 p0
          go_wp2_with fail
          go_roundw
          case rel => exact ⟨j + 1, hlt, by go_num, HRR.out⟩
          case measure => simp [intOf]; omega
        · have e1 : (o.k == 1) = false := by simp [h1]
          by_cases h2 : o.k = 2
          · rw [h2] at d0 KA KN HLA HBX HR HOB q0 q1
            clear h1 h2 e1
            go_wp2_with fail
            refine (beforeR_any HR.out (by omega) (by omega) HLA.out.nodup o.h o.v).mono ?_
            rintro e w2 ⟨r', v', rfl, hR2, k2⟩
            have B3 := Lib.hid (fun W (hl : LstS W w.heap.size w.heap.size m g row vals) => before_any hl (by omega) hw o.v)
            have br := befRow_le (row := row) (k := o.h) (n := vals.length + 1)
            have bv := befVals_le (row := row) (vals := vals) (k := o.h) (v := o.v)
            generalize befRow row o.h (vals.length + 1) = row2 at *
            generalize befVals row vals o.h o.v = vals2 at *
            generalize befH row vals o.h = hh at *
            obtain ⟨ra', rc', va', vc', rfl, rfl, t1, t2, t3, t4⟩ := hR2.shapes
            have hbx2 := HBX.out.kept k2 (fun e => e)
            have q20 := hbx2.cell 0
            have q21 := hbx2.cell 1
            have f20 := hbx2.frozen 0
            have f21 := hbx2.frozen 1
            have hob2 := HOB.out.kept k2 (fun e => e)
            have hbl := hbx2.lt
            have hol := hob2.lt
            have p0 := hob2.cell 2
            have p1 := hob2.cell 1
            have hW := stored_of ((HLA.out.keptN k2)) hbx2 hR2
            generalize hnr : row2.length = nr at *
            generalize hnv : vals2.length = nv at *
            have HW1 := Lib.hid (hW.1.keptN' (.cells #[.slice ra' nr rc', .slice va' nv vc'] 29))
            have HW2 := Lib.hid (hW.2.1.alloc (.cells #[.slice ra' nr rc', .slice va' nv vc'] 29))
            have KW := Lib.hid (((KA.out.trans k2 (fun _ _ e => e)).trans hW.2.2 (fun k hk e => by have := HX.out; omega)).alloc (.cells #[.slice ra' nr rc', .slice va' nv vc'] 29))
            have HNR := Lib.hid hnr
            have HNV := Lib.hid hnv
            have hneq : bx ≠ wr.heap.size := fun e => by
              have h1 := hbx2
              have h2 := hob2
              unfold Blk at h1 h2
              rw [e, h2] at h1
              simp at h1
            have hneq2 : wr.heap.size ≠ bx := fun e => hneq e.symm
            clear k2 hR2 hbx2 hob2 q0 q1 hW hnr hnv
            go_wp2_with fail
            generalize ((w2.setCell ⟨bx, 0, none⟩ (.slice ra' nr rc')).setCell ⟨bx, 1, none⟩ (.slice va' nv vc')).alloc (.cells #[.slice ra' nr rc', .slice va' nv vc'] 29) = w3 at *
            refine (B3.out _ HW1.out).mono ?_
            rintro e w5 ⟨rfl, hg⟩
            have HRR := Lib.hid (RoundP.grew (j := j + 1) KW.out HW1.out HW2.out hg (by have := HNV.out; omega) (by have := HNR.out; omega))
            clear hg q20 q21 f20 f21 p0 p1
            go_wp2_with fail
            go_roundw
            case rel => exact ⟨j + 1, hlt, by go_num, HRR.out⟩
            case measure => simp [intOf]; omega
          · have e2 : (o.k == 2) = false := by simp [h2]
            by_cases h3 : o.k = 3
            · rw [h3] at d0 KA KN HLA HBX HR HOB q0 q1
              clear h1 h2 h3 e1 e2
              go_wp2_with fail
              refine (getR_any HR.out (by omega) (by omega) HLA.out.nodup HLA.out.range o.h).mono ?_
              rintro e w2 ⟨rfl, k2⟩
              have B3 := Lib.hid (fun W (hl : LstS W w.heap.size w.heap.size m g row vals) => remove_any hl (by omega) hw)
              generalize getV row vals o.h = gv at *
              generalize getB row o.h = gb at *
              have hbx2 := HBX.out.kept k2 (fun e => e)
              have q20 := hbx2.cell 0
              have q21 := hbx2.cell 1
              have hob2 := HOB.out.kept k2 (fun e => e)
              have p1 := hob2.cell 1
              have hR2 := HR.out.keptN k2
              have HR2 := Lib.hid hR2
              have K2 := Lib.hid k2
              have HBX2 := Lib.hid hbx2
              have HOB2 := Lib.hid hob2
              clear k2 hbx2 hob2 hR2 q0 q1
              go_wp2_with fail
              refine (removeR_any HR2.out (by omega) o.h).mono ?_
              rintro e w3 ⟨r', rfl, hR3, k3⟩
              have br := rmI_le (row := row) (k := o.h)
              generalize rmI row o.h = row2 at *
              obtain ⟨ra', rc', va', vc', e5, e6, t1, t2, t3, t4⟩ := hR3.shapes
              simp at e6
              obtain ⟨rfl, rfl⟩ := e6
              subst e5
              have hbx3 := HBX2.out.kept k3 (fun e => e)
              have q30 := hbx3.cell 0
              have q31 := hbx3.cell 1
              have f30 := hbx3.frozen 0
              have f31 := hbx3.frozen 1
              have hob3 := HOB2.out.kept k3 (fun e => e)
              have p31 := hob3.cell 1
              have hbl := hbx3.lt
              have hol := hob3.lt
              have hW := stored_of ((HLA.out.keptN K2.out).keptN k3) hbx3 hR3
              generalize hnr : row2.length = nr at *
              have HW1 := Lib.hid hW.1
              have HW2 := Lib.hid hW.2.1
              have KW := Lib.hid ((((KA.out.trans K2.out (fun _ _ e => e)).trans k3 (fun _ _ e => e)).trans hW.2.2 (fun k hk e => by have := HX.out; omega)))
              have HNR := Lib.hid hnr
              have hneq : bx ≠ wr.heap.size := fun e => by
                have h1 := hbx3
                have h2 := hob3
                unfold Blk at h1 h2
                rw [e, h2] at h1
                simp at h1
              have hneq2 : wr.heap.size ≠ bx := fun e => hneq e.symm
              clear k3 hR3 hbx3 hob3 q20 q21 hW hnr p1
              go_wp2_with fail
              generalize (w3.setCell ⟨bx, 0, none⟩ (.slice ra' nr rc')).setCell ⟨bx, 1, none⟩ (.slice va vals.length vc) = w4 at *
              refine (B3.out _ HW1.out).mono ?_
              rintro e w5 ⟨rfl, hl5, hk5⟩
              have HRR := Lib.hid (show RoundP w w5 w.heap.size bx (j + 1) from ⟨_, _, _, _, hl5, HW2.out.grew HW1.out hk5, by omega, by have := HNR.out; omega, FoS.fresh KW.out hk5⟩)
              clear hl5 hk5 q30 q31 f30 f31 p31
              go_wp2_with fail
              go_roundw
              case rel => exact ⟨j + 1, hlt, by go_num, HRR.out⟩
              case measure => simp [intOf]; omega
            · have e3 : (o.k == 3) = false := by simp [h3]
              have HRR := Lib.hid (show RoundP w (wr.alloc (.cells #[.int .i64 o.k, .int .i64 o.h, .string o.v] 31)) w.heap.size bx (j + 1) from ⟨_, _, _, _, HLA.out, HH.out.alloc _, by omega, by omega, KA.out⟩)
              clear h1 h2 h3
              go_wp2_with fail
              go_roundw
              case rel => exact ⟨j + 1, hlt, by go_num, HRR.out⟩
              case measure => simp [intOf]; omega
      · rename World => wo
        obtain ⟨ra, rc, va, vc, hbx, hR⟩ := HH.out.held
        have HBX := Lib.hid hbx
        have HR := Lib.hid hR
        have hv60 : vals.length ≤ 60 := by omega
        have hr60 : row.length ≤ 60 := by omega
        clear hbx hR hv hr
        go_wp2_with fail
        generalize hnv : vals.length = nv at *
        have HNV := Lib.hid hnv
        clear hnv
        go_loopw [15] (fun hv wf => ∃ c : Int, hv = .int .i64 c ∧ -1 ≤ c ∧ c ≤ nv + 2 ∧ Kept Nil wo wf) (fun hv _ => (100 - intOf hv).toNat)
        case atStart => exact ⟨-1, rfl, by omega, by omega, Kept.refl _ _⟩
        case round =>
          obtain ⟨c, rfl, hc1, hc2, hk3⟩ := hrel
          have HK3 := Lib.hid hk3
          have hbx3 := HBX.out.kept hk3 (fun e => e)
          have q0 := hbx3.cell 0
          have q1 := hbx3.cell 1
          clear hbx3 hk3
          by_cases hle : c ≤ (nv : Int) + 1
          · have hd1 : decide (c ≤ (nv : Int) + 1) = true := decide_eq_true hle
            have hw : (Lit.int .i64 c).wf = true := WalkArith.wf_i64 (by omega)
            go_wp2_with fail
            refine (get_any (HL.out.keptN HK3.out) (by have := HNV.out; omega) hw).mono ?_
            rintro e w4 ⟨rfl, k4⟩
            have HG := Lib.hid (fun W (h : RefL W (.slice ra row.length rc) (.slice va nv vc) row vals) => getR_any h (by omega) (by have := HNV.out; omega) HL.out.nodup HL.out.range c)
            generalize getV row vals c = gv at *
            generalize getB row c = gb at *
            have HK4 := Lib.hid (HK3.out.trans k4 (fun _ _ e => e))
            have hbx4 := HBX.out.kept HK4.out (fun e => e)
            have q40 := hbx4.cell 0
            have q41 := hbx4.cell 1
            clear hbx4 k4 q0 q1
            go_wp2_with fail
            refine (HG.out _ (HR.out.keptN HK4.out)).mono ?_
            rintro e w5 ⟨rfl, k5⟩
            have HK5 := Lib.hid (HK4.out.trans k5 (fun _ _ e => e))
            have hbx5 := HBX.out.kept HK5.out (fun e => e)
            have HC5 := Lib.hid hbx5
            clear hbx5 k5 q40 q41
            go_wp2_with fail
            have O := Lib.hid (show Kept Nil w5 w5.drew from (Kept.refl Nil w5).drew)
            have CN1 := Lib.hid (fun n : CW (Kept Nil w5) => next_s (HL.out.keptN (HK5.out.trans n.of (fun _ _ e => e))) (by have := HNV.out; omega) hw)
            have CN2 := Lib.hid (fun n : CW (Kept Nil w5) => nextR1_any (HR.out.keptN (HK5.out.trans n.of (fun _ _ e => e))) (by omega) HL.out.nodup HL.out.zero c)
            have CP1 := Lib.hid (fun n : CW (Kept Nil w5) => prev_s (HL.out.keptN (HK5.out.trans n.of (fun _ _ e => e))) (by have := HNV.out; omega) hw)
            have CP2 := Lib.hid (fun n : CW (Kept Nil w5) => nextRm_any (HR.out.keptN (HK5.out.trans n.of (fun _ _ e => e))) (by omega) HL.out.nodup HL.out.zero c)
            generalize ((nxI row c : Nat) : Int) = nn at *
            generalize ((pvI row c : Nat) : Int) = pp at *
            have y0 : ∀ n : CW (Kept Nil w5), n.w.cell? ⟨bx, 0, none⟩ = some (.slice ra row.length rc) := fun n => (HC5.out.kept n.of (fun e => e)).cell 0
            have y1 : ∀ n : CW (Kept Nil w5), n.w.cell? ⟨bx, 1, none⟩ = some (.slice va nv vc) := fun n => (HC5.out.kept n.of (fun e => e)).cell 1
            have g2 : (gb != gb) = false := by cases gb <;> rfl
            refine wp_region_in (Kept Nil w5) (by kernel_rfl) (by kernel_rfl) O.out ?_
            have inst : Nonempty (CW (Kept Nil w5)) := ⟨⟨_, O.out⟩⟩
            repeat (go_big_quiet_step (first
              | (go_at_call 17; with_reducible exact call_in keptStep (CN1.out _))
              | (go_at_call 19; with_reducible exact call_in keptStep (CP1.out _))
              | (go_at_call 18; first | (with_reducible exact call_in keptStep (CN2.out _)) | (with_reducible exact call_in keptStep (CP2.out _)))))
            refine wpQuiet_nil ?_
            rintro _ ⟨n, rfl⟩
            have KF := Lib.hid (HK5.out.trans n.of (fun _ _ e => e))
            clear y0 y1
            go_wp2_with fail
            go_roundw
            case rel => exact ⟨c + 1, by go_num, by omega, by omega, KF.out⟩
            case measure => simp [intOf]; omega
          · have hd1 : decide (c ≤ (nv : Int) + 1) = false := decide_eq_false hle
            have HA := Lib.hid (fun W => awake_any W)
            go_wp2_with fail
            rename World => w5
            have O := Lib.hid (show Kept Nil w5 w5.drew from (Kept.refl Nil w5).drew)
            have CL := Lib.hid (fun n : CW (Kept Nil w5) => len_s (HL.out.keptN (HK3.out.trans n.of (fun _ _ e => e))))
            have y0 : ∀ n : CW (Kept Nil w5), n.w.cell? ⟨bx, 0, none⟩ = some (.slice ra row.length rc) := fun n => (HBX.out.kept (HK3.out.trans n.of (fun _ _ e => e)) (fun e => e)).cell 0
            refine wp_region_in (Kept Nil w5) (by kernel_rfl) (by kernel_rfl) O.out ?_
            have inst : Nonempty (CW (Kept Nil w5)) := ⟨⟨_, O.out⟩⟩
            repeat (go_big_quiet_step (first
              | (go_at_call 20; with_reducible exact call_in_same (CL.out _))
              | (go_at_call 8; with_reducible exact call_in keptStep (HA.out _))))
            refine wpQuiet_nil ?_
            rintro _ ⟨n, rfl⟩
            have KF := Lib.hid (HK.out.trans (HK3.out.trans n.of (fun _ _ e => e)) (fun _ _ e => e))
            clear y0
            go_wp2_with fail
            go_ret
            exact ⟨rfl, KF.out⟩
end Go.Proofs.Ytpjfpmagmclldaa
