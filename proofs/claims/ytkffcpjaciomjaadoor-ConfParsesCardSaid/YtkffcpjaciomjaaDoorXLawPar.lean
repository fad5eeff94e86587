/- Any text is a match, or none: ConfParses returns true, and writes nothing that was there. No condition but Go's own variables. -/
import Derived.Test.YtkffcpjaciomjaaDoorXLawTxt
namespace Go.Proofs.YtkffcpjaciomjaaDoor
open Go.RowKit Go.Shelf Go.Sort
set_option maxRecDepth 100000

theorem parseE_out {s : ByteArray} {m : M} (h : parseE s = some m) : textE m = (s, 0) := by
  unfold parseE at h
  split at h
  · rename_i x ids e
    obtain ⟨h1, h2⟩ := parseM_out e
    split at h
    · rename_i hn
      cases h
      unfold textE
      rw [if_pos hn, if_pos h2]
      congr 1
      unfold mtxt
      apply ByteArray.ext
      apply Array.toList_inj.1
      show (mtxtL (x.toArray.toList) ids).toArray.toList = _
      rw [List.toList_toArray, List.toList_toArray, ← h1]
    · cases h
  · cases h
set_option maxHeartbeats 4000000 in
theorem lawPar_any (s : ByteArray) (hs : s.size ≤ maxLen) (w : World) (E : Env w) :
    Calls Tryd.prog 6 #[.string s] w fun e w' => e = .returned (.bool true) ∧ Kept Nil w w' := by
  have HE := Lib.hid E
  have CA : Hid (∀ W, Kept Nil w W → Calls Tryd.prog 10 #[] W fun e w' => e = .returned (.bool true) ∧ Kept Nil W w') := Lib.hid fun W k => awake_any W (HE.out.tab.kept k)
  unfold maxLen at hs
  by_cases h2 : 200 < s.size
  · clear E
    go_enter Tryd.func6, Tryd.ntmps6
    go_wp2_with fail
    refine (CA.out _ (Kept.refl _ _)).mono ?_
    rintro e w2 ⟨rfl, k2⟩
    go_wp2_with fail
    go_ret
    exact ⟨rfl, k2⟩
  have CP := Lib.hid (parse_any s (by omega) w E)
  have CR := Lib.hid (fun W => refParse_any s (by omega) W)
  clear E
  cases hp : parseE s with
  | none =>
    have CP' : Hid (Calls Tryd.prog 23 #[.string s] w fun e w' => e = .returned (.tuple #[.agg #[.string ⟨#[]⟩, .slice none 0 0], .int .i64 14]) ∧ Kept Nil w w') := Lib.hid (CP.out.mono fun e w' ⟨hk, h⟩ => by
      rcases h with ⟨_, he⟩ | ⟨m, hm, _⟩
      · exact ⟨he, hk⟩
      · rw [hp] at hm; cases hm)
    have CR' : Hid (∀ W, Calls Tryd.prog 24 #[.string s] W fun e w' => (∃ r a n c, e = .returned (.tuple #[.agg #[.string r, .slice a n c], .bool false])) ∧ Kept Nil W w') := Lib.hid fun W => (CR.out W).mono fun e w' ⟨hk, h⟩ => by
      rcases h with ⟨_, he⟩ | ⟨m, hm, _⟩
      · exact ⟨he, hk⟩
      · rw [hp] at hm; cases hm
    clear hp CP CR
    go_enter Tryd.func6, Tryd.ntmps6
    go_wp2_with fail
    refine CP'.out.mono ?_
    rintro e w1 ⟨rfl, k1⟩
    have K1 := Lib.hid (k1.alloc (.cells #[.string ⟨#[]⟩, .slice none 0 0] 37))
    have hb := Blk.new w1 37 #[.string ⟨#[]⟩, .slice none 0 0]
    go_wp2_with fail
    refine (CR'.out _).mono ?_
    rintro e w2 ⟨⟨r, a, n, c, rfl⟩, k2⟩
    have K2 := Lib.hid ((K1.out.trans k2 (fun _ _ e => e)).alloc (.cells #[.string r, .slice a n c] 39))
    have hb2 := (hb.kept k2 (fun e => e)).alloc (.cells #[.string r, .slice a n c] 39)
    have x0 := hb2.cell 0
    have x1 := hb2.cell 1
    simp at x0 x1
    clear hb hb2 k1 k2
    go_wp2_with fail
    refine (CA.out _ K2.out).mono ?_
    rintro e w3 ⟨rfl, k3⟩
    go_wp2_with fail
    go_ret
    exact ⟨rfl, K2.out.trans k3 (fun _ _ e => e)⟩
  | some v =>
    have CP' : Hid (Calls Tryd.prog 23 #[.string s] w fun e w' => ∃ m, m.val = v ∧ Mok w' m ∧ e = .returned (.tuple #[.agg #[.string m.r, .slice m.a m.n m.c], .int .i64 0]) ∧ Kept Nil w w') := Lib.hid (CP.out.mono fun e w' ⟨hk, h⟩ => by
      rcases h with ⟨hn, _⟩ | ⟨m, hm, hmk, he⟩
      · rw [hp] at hn; cases hn
      · rw [hp] at hm
        exact ⟨m, (Option.some.inj hm).symm, hmk, he, hk⟩)
    have CR' : Hid (∀ W, Calls Tryd.prog 24 #[.string s] W fun e w' => ∃ m, m.val = v ∧ Mok w' m ∧ e = .returned (.tuple #[.agg #[.string m.r, .slice m.a m.n m.c], .bool true]) ∧ Kept Nil W w') := Lib.hid fun W => (CR.out W).mono fun e w' ⟨hk, h⟩ => by
      rcases h with ⟨hn, _⟩ | ⟨m, hm, hmk, he⟩
      · rw [hp] at hn; cases hn
      · rw [hp] at hm
        exact ⟨m, (Option.some.inj hm).symm, hmk, he, hk⟩
    have CT : Hid (∀ (W : World) m, m.val = v → Mok W m → Kept Nil w W → Calls Tryd.prog 21 #[.agg #[.string m.r, .slice m.a m.n m.c]] W fun e w' => e = .returned (.tuple #[.string s, .int .i64 0]) ∧ Kept Nil W w') := Lib.hid fun W m hv hm k => by
      have := text_any hm (HE.out.tab.kept k)
      rw [hv, parseE_out hp] at this
      exact this
    have CSM : Hid (∀ (W : World) m q, m.val = v → q.val = v → Mok W m → Mok W q → Calls Tryd.prog 14 #[.slice (some ⟨W.heap.size, 0, none⟩) 1 1, .slice (some ⟨W.heap.size + 1, 0, none⟩) 1 1] ((W.alloc (.cells #[.string m.r, .slice m.a m.n m.c] 37)).alloc (.cells #[.string q.r, .slice q.a q.n q.c] 39)) fun e w' => e = .returned (.bool true) ∧ Kept Nil W w') := Lib.hid fun W m q hm hq mm mq => by
      have kk := ((Kept.refl Nil W).alloc (.cells #[.string m.r, .slice m.a m.n m.c] 37)).alloc (.cells #[.string q.r, .slice q.a q.n q.c] 39)
      have h1 : Ms ((W.alloc (.cells #[.string m.r, .slice m.a m.n m.c] 37)).alloc (.cells #[.string q.r, .slice q.a q.n q.c] 39)) (some ⟨W.heap.size, 0, none⟩) 1 [m] := ⟨litIn cM_len ((Blk.new W _ _).alloc _) [m] rfl, fun z hz => by rw [List.mem_singleton.1 hz]; exact mm.kept kk⟩
      have hb := Blk.new (W.alloc (.cells #[.string m.r, .slice m.a m.n m.c] 37)) 39 #[.string q.r, .slice q.a q.n q.c]
      have hs1 : (W.alloc (.cells #[.string m.r, .slice m.a m.n m.c] 37)).heap.size = W.heap.size + 1 := by simp
      rw [hs1] at hb
      have h2 : Ms ((W.alloc (.cells #[.string m.r, .slice m.a m.n m.c] 37)).alloc (.cells #[.string q.r, .slice q.a q.n q.c] 39)) (some ⟨W.heap.size + 1, 0, none⟩) 1 [q] := ⟨litIn cM_len hb [q] rfl, fun z hz => by rw [List.mem_singleton.1 hz]; exact mq.kept kk⟩
      refine (lawSame_any (c := 1) (d := 1) h1 h2 (by decide)).mono ?_
      rintro e w' ⟨rfl, hk⟩
      refine ⟨?_, kk.trans hk (fun _ _ e => e)⟩
      rw [List.map_singleton, List.map_singleton, hm, hq, decide_eq_true rfl]
    clear hp CP CR
    go_enter Tryd.func6, Tryd.ntmps6
    go_wp2_with fail
    refine CP'.out.mono ?_
    rintro e w1 ⟨m, hm, hmk, rfl, k1⟩
    have K1 := Lib.hid (k1.alloc (.cells #[.string m.r, .slice m.a m.n m.c] 37))
    have hb := Blk.new w1 37 #[.string m.r, .slice m.a m.n m.c]
    have HM := Lib.hid hm
    have HMK := Lib.hid (hmk.kept ((Kept.refl Nil w1).alloc (.cells #[.string m.r, .slice m.a m.n m.c] 37)))
    clear hm hmk k1
    go_wp2_with fail
    refine (CR'.out _).mono ?_
    rintro e w2 ⟨q, hq, hqk, rfl, k2⟩
    have K2 := Lib.hid ((K1.out.trans k2 (fun _ _ e => e)).alloc (.cells #[.string q.r, .slice q.a q.n q.c] 39))
    have hb2 := (hb.kept k2 (fun e => e)).alloc (.cells #[.string q.r, .slice q.a q.n q.c] 39)
    have hb3 := Blk.new w2 39 #[.string q.r, .slice q.a q.n q.c]
    have ka := (Kept.refl Nil w2).alloc (.cells #[.string q.r, .slice q.a q.n q.c] 39)
    have HQ := Lib.hid hq
    have HQK := Lib.hid (hqk.kept ka)
    have HMK2 := Lib.hid ((HMK.out.kept k2).kept ka)
    have HB : Hid (∀ W, Kept Nil (w2.alloc (.cells #[.string q.r, .slice q.a q.n q.c] 39)) W → W.cell? ⟨w1.heap.size, 0, none⟩ = some (.string m.r) ∧ W.cell? ⟨w1.heap.size, 1, none⟩ = some (.slice m.a m.n m.c) ∧ W.cell? ⟨w2.heap.size, 0, none⟩ = some (.string q.r) ∧ W.cell? ⟨w2.heap.size, 1, none⟩ = some (.slice q.a q.n q.c)) := Lib.hid fun W k => ⟨(hb2.kept k (fun e => e)).cell 0, (hb2.kept k (fun e => e)).cell 1, (hb3.kept k (fun e => e)).cell 0, (hb3.kept k (fun e => e)).cell 1⟩
    obtain ⟨x0, x1, x2, x3⟩ := HB.out _ (Kept.refl Nil _)
    clear hb hb2 hb3 k2 ka hq hqk HMK
    go_wp2_with fail
    refine (CT.out _ m HM.out HMK2.out K2.out).mono ?_
    rintro e w3 ⟨rfl, k3⟩
    have K3 := Lib.hid (K2.out.trans k3 (fun _ _ e => e))
    have C3 := Lib.hid (CSM.out w3 m q HM.out HQ.out (HMK2.out.kept k3) (HQK.out.kept k3))
    clear x0 x1 x2 x3
    obtain ⟨x0, x1, x2, x3⟩ := HB.out _ k3
    obtain ⟨y0, y1, y2, y3⟩ := HB.out _ (k3.alloc (.cells #[.string m.r, .slice m.a m.n m.c] 37))
    clear k3
    go_wp2_with fail
    refine C3.out.mono ?_
    rintro e w4 ⟨rfl, k4⟩
    have K4 := Lib.hid (K3.out.trans k4 (fun _ _ e => e))
    clear k4 x0 x1 x2 x3 y0 y1 y2 y3
    go_wp2_with fail
    refine (CA.out _ K4.out).mono ?_
    rintro e w5 ⟨rfl, k5⟩
    go_wp2_with fail
    go_ret
    exact ⟨rfl, K4.out.trans k5 (fun _ _ e => e)⟩
end Go.Proofs.YtkffcpjaciomjaaDoor
