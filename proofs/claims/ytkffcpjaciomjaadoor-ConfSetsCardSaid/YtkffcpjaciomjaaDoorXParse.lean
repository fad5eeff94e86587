/- Contracts of the program's Parse, and of the reference's Digits, Text, Parse. -/
import Derived.Test.YtkffcpjaciomjaaDoorXText
import Derived.Test.YtkffcpjaciomjaaDoorXWords
namespace Go.Proofs.YtkffcpjaciomjaaDoor
open Go.RowKit Go.Shelf Go.Sort
set_option maxRecDepth 100000

/-- The match whose text it is. -/
def parseE (s : ByteArray) : Option M := match parseM s.data.toList with
  | some (x, ids) => if okName ⟨x.toArray⟩ then some (⟨x.toArray⟩, ids) else none
  | none => none
/-- What Parse hands back. -/
def ParseEnd (s : ByteArray) (w : World) (e : Ending) (w' : World) : Prop := Kept Nil w w' ∧ ((parseE s = none ∧ e = .returned (.tuple #[.agg #[.string ⟨#[]⟩, .slice none 0 0], .int .i64 14])) ∨ ∃ m, parseE s = some m.val ∧ Mok w' m ∧ e = .returned (.tuple #[vM m, .int .i64 0]))
def szOf : Value → Nat
  | .string s => s.size
  | _ => 0
def bOf : Value → Nat
  | .bool true => 1
  | _ => 0
theorem bsize (l : List UInt8) : (⟨l.toArray⟩ : ByteArray).size = l.length := by show l.toArray.size = _; simp
theorem parseE_name {s : ByteArray} {x : List UInt8} {r : List (List UInt8)} (h : wl s.data.toList = x :: r) (hx : okName ⟨x.toArray⟩ = false) : parseE s = none := by
  unfold parseE parseM
  rw [h]
  simp only
  split
  · rename_i e
    split at e
    · cases e; rw [hx]; rfl
    · cases e
  · rfl
theorem parseE_bad {s : ByteArray} {x : List UInt8} {r : List (List UInt8)} {y : List UInt8} (h : wl s.data.toList = x :: r) (hy : y ∈ r) (hn : ¬ 1 ≤ numL y) : parseE s = none := by
  unfold parseE parseM
  rw [h]
  simp only
  rw [if_neg]
  intro hall
  exact hn (of_decide_eq_true (List.all_eq_true.1 hall y hy))
theorem parseE_good {s : ByteArray} {x : List UInt8} {r : List (List UInt8)} (h : wl s.data.toList = x :: r) (hx : okName ⟨x.toArray⟩ = true) (hr : ∀ y ∈ r, 1 ≤ numL y) : parseE s = some (⟨x.toArray⟩, r.map numL) := by
  unfold parseE parseM
  rw [h]
  simp only
  rw [if_pos (List.all_eq_true.2 fun y hy => decide_eq_true (hr y hy))]
  simp only
  rw [if_pos hx]
/-- Between two rounds of Parse. -/
structure PS (s : ByteArray) (w0 w : World) (R mb : Nat) (x : List UInt8) (more : Bool) (t : List UInt8) (a : Option Addr) (j c : Nat) (done : List (List UInt8)) (wr : World) : Prop where
  kept : Kept Nil w0 wr
  res : Blk wr R 37 #[.string ⟨#[]⟩, .slice none 0 0]
  box : Blk wr mb 37 #[.string ⟨x.toArray⟩, .slice a j c]
  row : Row cN 3 1 wr w.heap.size (.slice a j c) (done.map numL)
  words : wl s.data.toList = x :: (done ++ if more then wl t else [])
  good : ∀ y ∈ done, 1 ≤ numL y
  short : t.length ≤ s.size
  few : done.length + (if more then t.length + 1 else 0) ≤ s.size + 1
  len : j = done.length
set_option maxHeartbeats 8000000 in
theorem parse_any (s : ByteArray) (hs : s.size ≤ 900) (w : World) (E : Env w) :
    Calls Tryd.prog 23 #[.string s] w (ParseEnd s w) := by
  have HE := Lib.hid E
  have K0 := Lib.hid ((Kept.refl Nil w).alloc (.cells #[.string ⟨#[]⟩, .slice none 0 0] 37))
  have hR0 := Lib.hid (Blk.new w 37 #[.string ⟨#[]⟩, .slice none 0 0])
  have hcw := cut_wl s.data.toList
  have hcl := cut_len s.data.toList
  have hcs := @cut_shrinks s.data.toList
  have CU : Hid (∀ W, Kept Nil w W → Calls Tryd.prog 40 #[.string s, .string sp] W fun e w' => e = .returned (.tuple #[.string ⟨(Lib.cut s.data.toList [32]).1.toArray⟩, .string ⟨(Lib.cut s.data.toList [32]).2.1.toArray⟩, .bool (Lib.cut s.data.toList [32]).2.2]) ∧ Kept Nil W w') := Lib.hid fun W k => cut_any s (by omega) W (HE.out.kept k)
  obtain ⟨x, hx⟩ : ∃ x, (Lib.cut s.data.toList [32]).1 = x := ⟨_, rfl⟩
  obtain ⟨y, hy⟩ : ∃ y, (Lib.cut s.data.toList [32]).2.1 = y := ⟨_, rfl⟩
  obtain ⟨b, hb⟩ : ∃ b, (Lib.cut s.data.toList [32]).2.2 = b := ⟨_, rfl⟩
  rw [hx, hy, hb] at CU hcw
  rw [hx, hy] at hcl
  rw [hy, hb] at hcs
  have hsl : s.data.toList.length = s.size := by simp
  rw [hsl] at hcl hcs
  have HCW := Lib.hid hcw
  have HCS := Lib.hid hcs
  have hxl : x.length ≤ 900 := by omega
  have hyl : y.length ≤ s.size := hcl.2
  have CR := Lib.hid (fun W => right_any ⟨x.toArray⟩ W (by rw [bsize]; unfold maxLen; omega))
  have CC := Lib.hid (fun W => clone_any ⟨x.toArray⟩ W (by rw [bsize]; omega))
  have CUT : Hid (∀ t : List UInt8, t.length ≤ s.size → ∀ W, Kept Nil w W → Calls Tryd.prog 40 #[.string ⟨t.toArray⟩, .string sp] W fun e w' => e = .returned (.tuple #[.string ⟨(Lib.cut t [32]).1.toArray⟩, .string ⟨(Lib.cut t [32]).2.1.toArray⟩, .bool (Lib.cut t [32]).2.2]) ∧ Kept Nil W w') := Lib.hid fun t ht W k => by
    have := cut_any ⟨t.toArray⟩ (by rw [bsize]; omega) W (HE.out.kept k)
    simpa using this
  have CP : Hid (∀ t : List UInt8, t.length ≤ s.size → ∀ W, Kept Nil w W → Calls Tryd.prog 42 #[.string ⟨t.toArray⟩] W fun e w' => e = .returned (.tuple #[.int .i64 (if pidL t then fld t else 0), .bool (pidL t)]) ∧ Kept Nil W w') := Lib.hid fun t ht W k => by
    have := parseId_any ⟨t.toArray⟩ (by rw [bsize]; omega) W (HE.out.kept k)
    simpa using this
  clear hx hy hb hcw hcl hcs E hsl
  unfold sp at CU CUT
  go_enter Tryd.func23, Tryd.ntmps23
  go_wp2_with fail
  refine (CU.out _ K0.out).mono ?_
  rintro e w1 ⟨rfl, k1⟩
  have hR1 := Lib.hid (hR0.out.kept k1 (fun e => e))
  have K1 := Lib.hid (K0.out.trans k1 (fun _ _ e => e))
  clear k1
  go_wp2_with fail
  refine (CR.out _).mono ?_
  rintro e w2 ⟨rfl, k2⟩
  have hR2 := Lib.hid (hR1.out.kept k2 (fun e => e))
  have K2 := Lib.hid (K1.out.trans k2 (fun _ _ e => e))
  clear k2
  cases hok : okName ⟨x.toArray⟩ with
  | false =>
    have HP : Hid (parseE s = none) := Lib.hid (by
      have h := HCW.out
      by_cases hb2 : b = true
      · rw [if_pos hb2] at h; exact parseE_name h hok
      · rw [if_neg hb2] at h; exact parseE_name h hok)
    have z0 := hR2.out.cell 0
    have z1 := hR2.out.cell 1
    have z2 := hR2.out.frozen 0
    have z3 := hR2.out.frozen 1
    simp at z0 z1
    clear hok
    go_wp2_with fail
    refine bodyPost_ret (v := .tuple #[.agg #[.string ⟨#[]⟩, .slice none 0 0], .int .i64 14]) (by simp [results, Tryd.results23, go_sem, z0, z1]) rfl ⟨?_, .inl ⟨HP.out, rfl⟩⟩
    exact (K2.out.setCell _ (.inr (Nat.le_refl _)) _).setCell _ (.inr (Nat.le_refl _)) _
  | true =>
    have HOK := Lib.hid hok
    clear hok
    go_wp2_with fail
    refine (CC.out _).mono ?_
    rintro e w3 ⟨rfl, k3⟩
    have hR3 := Lib.hid (hR2.out.kept k3 (fun e => e))
    have K3 := Lib.hid (K2.out.trans k3 (fun _ _ e => e))
    have hRlt : w.heap.size < w3.heap.size := hR3.out.lt
    have P0 : Hid (PS s w (w3.alloc (.cells #[.string ⟨x.toArray⟩, .slice none 0 0] 37)) w.heap.size w3.heap.size x b y none 0 0 [] (w3.alloc (.cells #[.string ⟨x.toArray⟩, .slice none 0 0] 37))) := Lib.hid
      ⟨K3.out.alloc _, hR3.out.alloc _, Blk.new _ _ _, Row.nil _ _, by
        have h := HCW.out
        rw [h]
        cases b <;> rfl, fun y hy => (by cases hy), hyl, (by
        cases hb2 : b with
        | true => have := HCS.out hb2; simp; omega
        | false => simp), rfl⟩
    have HMB : Hid ((w3.alloc (.cells #[.string ⟨x.toArray⟩, .slice none 0 0] 37)).heap.size = w3.heap.size + 1) := Lib.hid (by simp)
    have KW : Hid (w.heap.size ≤ w3.heap.size) := Lib.hid (Nat.le_of_lt hRlt)
    have KWs : Hid (w.heap.size < w3.heap.size) := Lib.hid hRlt
    clear hRlt
    generalize hmb : w3.heap.size = mb at *
    generalize hW4 : w3.alloc (.cells #[.string ⟨x.toArray⟩, .slice none 0 0] 37) = w4 at P0 HMB
    have HW4 := Lib.hid hW4
    clear hW4 hR0 hR1 hR2 hR3 K0 K1 K2 K3 k3
    go_wp2_with fail
    go_loopw [5, 6, 8, 9, 10, 24, 25, 31] (fun rest more _ _ _ _ _ _ wr => ∃ (mo : Bool) (t : List UInt8) (a : Option Addr) (j c : Nat) (done : List (List UInt8)), rest = .string ⟨t.toArray⟩ ∧ more = .bool mo ∧ Hid (PS s w w4 w.heap.size mb x mo t a j c done wr)) (fun rest more _ _ _ _ _ _ _ => bOf more * (szOf rest + 1))
    case atStart => exact ⟨b, y, none, 0, 0, [], rfl, rfl, by rw [HW4.out]; exact P0⟩
    case round =>
      obtain ⟨mo, t, a, j, c, done, rfl, rfl, HP⟩ := hrel
      have hR := HP.out.res
      have hM := HP.out.box
      have r0 := hR.cell 0
      have r1 := hR.cell 1
      have r2 := hR.frozen 0
      have r3 := hR.frozen 1
      have m0 := hM.cell 0
      have m1 := hM.cell 1
      have m2 := hM.frozen 1
      simp at r0 r1 m0 m1
      cases mo with
      | false =>
        have HG : Hid (parseE s = some (⟨x.toArray⟩, done.map numL)) := Lib.hid (by
          have h := HP.out.words
          simp only [Bool.false_eq_true, if_false, List.append_nil] at h
          exact parseE_good h HOK.out HP.out.good)
        have HM2 : Hid (∀ W, Kept (fun k => k = w.heap.size) wr W → Mok W ⟨⟨x.toArray⟩, done.map numL, j, a, c⟩) := Lib.hid fun W kW => by
          have hrow := HP.out.row.keptF kW (fun b hb e => by
            have h1 := (HP.out.row.lt b hb).1
            have := HMB.out
            have := KW.out
            omega)
          refine ⟨hrow.toIn cN_len (by decide), hrow.cap, ?_, ?_⟩
          · have := HP.out.len
            have := HP.out.few
            simp only [Bool.false_eq_true, if_false] at this
            show j ≤ 1000
            omega
          · show (⟨x.toArray⟩ : ByteArray).size ≤ 1000
            rw [bsize]; omega
        have KR := Lib.hid HP.out.kept
        clear hR hM
        go_wp2_with fail
        refine bodyPost_ret (v := .tuple #[.agg #[.string ⟨x.toArray⟩, .slice a j c], .int .i64 0]) (by simp [results, Tryd.results23, go_sem, r0, r1]) rfl ⟨?_, .inr ⟨⟨⟨x.toArray⟩, done.map numL, j, a, c⟩, HG.out, ?_, rfl⟩⟩
        · exact (KR.out.setCell _ (.inr (Nat.le_refl _)) _).setCell _ (.inr (Nat.le_refl _)) _
        · exact HM2.out _ (Kept.setCell (F := fun k => k = w.heap.size) (Kept.setCell (F := fun k => k = w.heap.size) (Kept.refl _ _) _ (.inl rfl) _) _ (.inl rfl) _)
      | true =>
        have hwt := cut_wl t
        have hlt := cut_len t
        have hst := @cut_shrinks t
        have hsh := HP.out.short
        have CT := Lib.hid (CUT.out t hsh)
        obtain ⟨x2, hx2⟩ : ∃ x, (Lib.cut t [32]).1 = x := ⟨_, rfl⟩
        obtain ⟨y2, hy2⟩ : ∃ y, (Lib.cut t [32]).2.1 = y := ⟨_, rfl⟩
        obtain ⟨b2, hb2⟩ : ∃ b, (Lib.cut t [32]).2.2 = b := ⟨_, rfl⟩
        rw [hx2, hy2, hb2] at CT hwt
        rw [hx2, hy2] at hlt
        rw [hy2, hb2] at hst
        have HWD : Hid (wl s.data.toList = x :: ((done ++ [x2]) ++ if b2 then wl y2 else [])) := Lib.hid (by
          have h := HP.out.words
          simp only [if_true] at h
          rw [h, hwt]
          cases b2 <;> simp)
        have CPX := Lib.hid (CP.out x2 (by omega))
        have HST := Lib.hid hst
        have hy2l : y2.length ≤ t.length := hlt.2
        have hfew := HP.out.few
        simp only [if_true] at hfew
        clear hx2 hy2 hb2 hwt hlt hst
        go_wp2_with fail
        refine (CT.out _ HP.out.kept).mono ?_
        rintro e w5 ⟨rfl, k5⟩
        have K5 := Lib.hid (HP.out.kept.trans k5 (fun _ _ e => e))
        go_wp2_with fail
        refine (CPX.out _ K5.out).mono ?_
        rintro e w6 ⟨rfl, k6⟩
        have KR6 := Lib.hid (k5.trans k6 (fun _ _ e => e))
        have K6 := Lib.hid (K5.out.trans k6 (fun _ _ e => e))
        clear r0 r1 r2 r3 m0 m1 m2 k5 k6
        have hR6 := hR.kept KR6.out (fun e => e)
        have hM6 := hM.kept KR6.out (fun e => e)
        have r0 := hR6.cell 0
        have r1 := hR6.cell 1
        have r2 := hR6.frozen 0
        have r3 := hR6.frozen 1
        have m0 := hM6.cell 0
        have m1 := hM6.cell 1
        simp at r0 r1 m0 m1
        cases hp : pidL x2 with
        | false =>
          have HB : Hid (parseE s = none) := Lib.hid (parseE_bad HWD.out (List.mem_append_left _ (List.mem_append_right _ (List.mem_singleton.2 rfl))) (by rw [pidL_eq] at hp; exact of_decide_eq_false hp))
          clear hp hR hM hR6 hM6
          go_wp2_with fail
          refine bodyPost_ret (v := .tuple #[.agg #[.string ⟨#[]⟩, .slice none 0 0], .int .i64 14]) (by simp [results, Tryd.results23, go_sem, r0, r1]) rfl ⟨?_, .inl ⟨HB.out, rfl⟩⟩
          exact (K6.out.setCell _ (.inr (Nat.le_refl _)) _).setCell _ (.inr (Nat.le_refl _)) _
        | true =>
          have hnum : 1 ≤ numL x2 := by rw [pidL_eq] at hp; exact of_decide_eq_true hp
          have hfl := pidL_num hp
          have HBK : Hid (∀ W (k : Nat), Kept (fun q => (Value.slice a j c).ownBlock = some q) w6 W → W.heap.size = W.heap.size ∧ True) := Lib.hid fun W k _ => ⟨rfl, trivial⟩
          have hlen := HP.out.len
          have hrow6 := HP.out.row.keptN KR6.out
          obtain ⟨v7, w7, r7, o7, k7, _⟩ := append_any elsI 35 (hrow6.keptN ((Kept.refl Nil w6).alloc (.cells #[.int .i64 (fld x2)] 3))) (At.lit w6 3 #[.int .i64 (fld x2)] (cN (fld x2)) rfl) rfl (cN_one _) (by rw [List.length_map]; omega) (by
            have h1 := K6.out.size
            have h2 := (HP.out.row).toIn cN_len (by decide)
            simp
            have h3 := HMB.out
            have h4 := hM6.lt
            omega)
          have hrow7 : Row cN 3 1 w7 w4.heap.size v7 ((done ++ [x2]).map numL) := by
            have : (done ++ [x2]).map numL = done.map numL ++ [fld x2] := by rw [List.map_append, hfl]; rfl
            rw [this]
            simpa [Row] using o7
          obtain ⟨a7, c7, e7⟩ := hrow7.shape
          rw [List.length_map, List.length_append, ← hlen] at e7
          have e7' : v7 = .slice a7 (j + 1) c7 := e7
          subst e7'
          have hno : ∀ q, q ≤ mb → ¬ (Value.slice a j c).ownBlock = some q := fun q hq e => by
            have h1 := (HP.out.row.lt q e).1
            have h3 := HMB.out
            omega
          have hmb4 : mb < w6.heap.size := hM6.lt
          have hrl : w.heap.size < w6.heap.size := hR6.lt
          have K7 := Lib.hid (((Kept.refl (fun q => (Value.slice a j c).ownBlock = some q) w6).alloc (.cells #[.int .i64 (fld x2)] 3)).trans k7 (fun _ _ e => e))
          have hR7 := hR6.kept K7.out (hno _ KW.out)
          have hM7 := hM6.kept K7.out (hno _ (Nat.le_refl _))
          have m7 := hM7.cell 1
          have f7 := hM7.frozen 1
          simp at m7
          have hM8 := hM7.set_ 1 (.slice a7 (j + 1) c7)
          have P8 : Hid (PS s w w4 w.heap.size mb x b2 y2 a7 (j + 1) c7 (done ++ [x2]) (w7.setCell ⟨mb, 1, none⟩ (.slice a7 (j + 1) c7))) := Lib.hid (by
            have KK : Kept Nil w w7 := K6.out.trans K7.out (fun i hi e => absurd ((HP.out.row.lt i e).1) (by have := HMB.out; have := KW.out; omega))
            refine ⟨KK.setCell _ (.inr KW.out) _, ?_, ?_, ?_, HWD.out, ?_, by omega, ?_, by rw [List.length_append, ← hlen]; rfl⟩
            · exact hR7.far (by have := KWs.out; show w.heap.size ≠ mb; omega) _
            · exact hM8
            · exact hrow7.keptF (Kept.setCell (F := fun q => q = mb) (Kept.refl _ w7) ⟨mb, 1, none⟩ (.inl rfl) _) (fun q hq e => by
                have h1 := (hrow7.lt q hq).1
                have h3 := HMB.out
                omega)
            · intro z hz
              rcases List.mem_append.1 hz with h | h
              · exact HP.out.good z h
              · rw [List.mem_singleton.1 h]; exact hnum
            · cases b2 with
              | true => have := HST.out rfl; rw [List.length_append]; simp; omega
              | false => rw [List.length_append]; simp; omega)
          have R7 := Lib.hid r7
          have HST2 : Hid (bOf (.bool b2) * (y2.length + 1) < t.length + 1) := Lib.hid (by
            cases b2 with
            | true => have := HST.out rfl; simp [bOf]; omega
            | false => simp [bOf])
          clear hp hR hM hR6 hM6 hR7 hM7 hM8 r7 o7 k7 hrow7 hrow6 hno hnum e7 HBK hfl hlen
          go_wp2_with (at_builtin; refine wpList_append_run rfl (.tmp 40) (.tmp 42) 35 rfl _ _ rfl rfl R7.out ?_)
          go_roundw
          case rel => exact ⟨b2, y2, a7, j + 1, c7, done ++ [x2], rfl, rfl, P8⟩
          case measure => have := HST2.out; simp [szOf, bsize]; show _ < bOf (.bool true) * _; simp [bOf] at *; omega
end Go.Proofs.YtkffcpjaciomjaaDoor
