/- A store: atEach with Put, and with Take; Add, Remove. -/
import Derived.Test.YthiijlngoikhkaaOE
namespace Go.Proofs.Ythiijlngoikhkaa
open Go.RowKit Go.Maps Go.WideMaps
set_option maxRecDepth 100000

/-- A fact, as a value. -/
abbrev fv (i : Int) (t : T3) : Value := .agg #[.int .i64 i, .int .i64 t.1, .int .i64 t.2.1, .int .i64 t.2.2]
theorem touched_ok {L : List Mem} {t : T3} (h : K3.ok t) : ∀ k ∈ touched L t, K3.ok k := touchedN_ok h 8
/-- No memory has more ids than so many. -/
def Few (L : List Mem) (q : Nat) : Prop := ∀ m ∈ L, m.has.length ≤ q
theorem few_put {L : List Mem} {q : Nat} (h : Few L q) (k : T3) (i : Int) : Few (putL L k i) (q + 1) := by
  intro m hm
  obtain ⟨z, hz, rfl⟩ := mem_of_upd hm
  have := h z hz
  split
  · show (put z.has i).length ≤ q + 1
    have := put_le z.has i
    omega
  · omega
theorem few_take {L : List Mem} {q : Nat} (h : Few L q) (k : T3) (i : Int) : Few (takeL L k i) q := by
  intro m hm
  obtain ⟨z, hz, rfl⟩ := mem_of_upd hm
  have := h z hz
  split
  · show (del i z.has).length ≤ q
    have := del_le z.has i
    omega
  · omega
theorem Few.mono {L : List Mem} {q r : Nat} (h : Few L q) (hr : q ≤ r) : Few L r := fun m hm => Nat.le_trans (h m hm) hr
theorem few_runPut {L : List Mem} {q : Nat} (h : Few L q) (i : Int) (ks : List T3) : ∀ j, Few (runK (fun L k => canPut L k i) (fun L k => putL L k i) (ks.take j) L).1 (q + j)
  | 0 => by simpa [runK] using h
  | j + 1 => by
    have ih := few_runPut h i ks j
    rw [List.take_add_one]
    cases hk : ks[j]? with
    | none =>
      rw [Option.toList_none, List.append_nil]
      exact ih.mono (by omega)
    | some k =>
      show Few (runK _ _ (ks.take j ++ [k]) L).1 _
      rw [runK_snoc]
      exact few_put ih k i

theorem few_runTake {L : List Mem} {q : Nat} (h : Few L q) (i : Int) (ks : List T3) : ∀ j, Few (runK (fun L k => canTake L k i) (fun L k => takeL L k i) (ks.take j) L).1 (q + j)
  | 0 => by simpa [runK] using h
  | j + 1 => by
    have ih := few_runTake h i ks j
    rw [List.take_add_one]
    cases hk : ks[j]? with
    | none =>
      rw [Option.toList_none, List.append_nil]
      exact ih.mono (by omega)
    | some k =>
      show Few (runK _ _ (ks.take j ++ [k]) L).1 _
      rw [runK_snoc]
      exact (few_take ih k i).mono (Nat.le_succ _)

section
variable {w : World} {F : Nat → Prop} {p : Nat} {l : List T3} {L : List Mem}
set_option maxHeartbeats 8000000 in
theorem eachPut_any (h : Sto w F p l L) {i : Int} (hi : (Lit.int .i64 i).wf = true) {t : T3} (ht : K3.ok t) {q : Nat} (hq : Few L q) (hq5 : q + 8 ≤ 5000) :
    Calls Try.prog 40 #[.pointer (some ⟨p, 0, none⟩), fv i t, .func (.func 21) #[.pointer (some ⟨p, 0, none⟩)] #[]] w fun e w' =>
      ∃ a cap, e = .returned (.slice a (runK (fun L k => canPut L k i) (fun L k => putL L k i) (touched L t) L).2.length cap) ∧ Row cT 31 3 w' w.heap.size (.slice a (runK (fun L k => canPut L k i) (fun L k => putL L k i) (touched L t) L).2.length cap) (runK (fun L k => canPut L k i) (fun L k => putL L k i) (touched L t) L).2 ∧
        SSame w w' F p l (runK (fun L k => canPut L k i) (fun L k => putL L k i) (touched L t) L).1 := by
  have HS0 := Lib.hid h
  have hfew := few_runPut hq i (touched L t)
  have hrs := runK_snoc (fun L k => canPut L k i) (fun L k => putL L k i)
  have hrl := runK_le (fun L k => canPut L k i) (fun L k => putL L k i) L
  have r0 : runK (fun L k => canPut L k i) (fun L k => putL L k i) [] L = (L, []) := rfl
  generalize hR : runK (fun L k => canPut L k i) (fun L k => putL L k i) = R at *
  have hokk := touched_ok (L := L) ht
  have htl := touched_le L t
  have HT0 := Lib.hid (touchedS_any (h.keptN ((Kept.refl Nil w).alloc (.cells #[.int .i64 i, .int .i64 t.1, .int .i64 t.2.1, .int .i64 t.2.2] 51))) ht)
  generalize touched L t = ks at *
  have HH := Lib.hid (And.intro hfew (And.intro hrs (And.intro hrl (And.intro hokk (And.intro htl r0)))))
  clear h hfew hrs hrl hokk htl hq r0 hR
  go_enter Try.func40, Try.ntmps40
  go_wp2_with fail
  refine HT0.out.mono ?_
  rintro e w1 ⟨aT, cT', rfl, hT, k1⟩
  have hb4 := fun o ho => k1.cell (p := ⟨w.heap.size, o, none⟩) (by simp) ho
  have f0 := (hb4 0 (fun e => e)).trans (by go_simp : _ = some (Value.int .i64 i))
  have hsz1 : w.heap.size + 1 ≤ w1.heap.size := by simpa using k1.size
  have HT := Lib.hid hT
  have K1 := Lib.hid (((Kept.refl Nil w).alloc (.cells #[.int .i64 i, .int .i64 t.1, .int .i64 t.2.1, .int .i64 t.2.2] 51)).trans k1 (fun _ _ e => e))
  have HS1 := Lib.hid (HS0.out.keptN K1.out)
  have hFb : ∀ j, F j → j < w.heap.size := fun j hj => HS0.out.inF hj
  have HFB := Lib.hid hFb
  clear hT k1 HT0 hb4 hFb
  generalize hnn : ks.length = n at *
  have HNN := Lib.hid hnn
  have hn8 : n ≤ 8 := by have := HH.out.2.2.2.2.1; omega
  clear hnn
  go_wp2_with fail
  go_loopw [7, 15] (fun v i' wr => ∃ (j : Nat) (a : Option Addr) (cap : Nat), j ≤ n ∧ i' = .int .i64 j ∧ v = .slice a (R (ks.take j) L).2.length cap ∧ Row cT 31 3 wr w1.heap.size (.slice a (R (ks.take j) L).2.length cap) (R (ks.take j) L).2 ∧ Sto wr F p l (R (ks.take j) L).1 ∧ Kept F w1 wr) (fun _ i' _ => n - (intOf i').toNat)
  case atStart =>
    refine ⟨0, none, 0, Nat.zero_le _, rfl, ?_⟩
    rw [List.take_zero, HH.out.2.2.2.2.2]
    exact ⟨rfl, Row.nil _ _, HS1.out, Kept.refl _ _⟩
  case round =>
    obtain ⟨j, a, cap, hj, rfl, rfl, hR, hS, hK⟩ := hrel
    have HR := Lib.hid hR
    have HS := Lib.hid hS
    have HK := Lib.hid hK
    clear hR hS hK
    by_cases hjn : j < n
    · obtain ⟨k, hk⟩ : ∃ k, ks[j]? = some k := ⟨ks[j]'(by rw [HNN.out]; exact hjn), by simp⟩
      obtain ⟨bf, o, e, hbf, k0, k1, k2⟩ := (((HT.out.toIn cT_len (by decide)).keptF (cap := cT') HK.out (fun b hb hF => by
        have h1 := (HT.out.lt b hb).1
        have h2 := HFB.out b hF
        simp at h1; omega))).three hk
      subst e
      have g0 := (HK.out.cell (p := ⟨w.heap.size, 0, none⟩) (by show w.heap.size < _; omega) (fun hF => Nat.lt_irrefl _ (HFB.out _ hF))).trans f0
      have hsr : w.heap.size < wr.heap.size := Nat.lt_of_lt_of_le (by omega) HK.out.size
      have hok := HH.out.2.2.2.1 k (List.mem_of_getElem? hk)
      have hf := HH.out.1 j
      have HE := Lib.hid (show R (ks.take (j + 1)) L = (putL (R (ks.take j) L).1 k i, if canPut (R (ks.take j) L).1 k i then (R (ks.take j) L).2 ++ [k] else (R (ks.take j) L).2) from by
        rw [List.take_add_one, hk]
        exact HH.out.2.1 (ks.take j) L k)
      have hrl := HH.out.2.2.1 (ks.take j)
      have htl := HH.out.2.2.2.2.1
      have hlt2 : (ks.take j).length ≤ ks.length := List.length_take_le' ..
      have hq8 : Few (R (ks.take j) L).1 5000 := hf.mono (by have := HNN.out; omega)
      have hr8 : (R (ks.take j) L).2.length ≤ 8 := by have := HNN.out; omega
      generalize (R (ks.take j) L).1 = L1 at *
      generalize (R (ks.take j) L).2 = T at *
      generalize hn2 : T.length = n2 at *
      have HN2 := Lib.hid hn2
      obtain ⟨x, y, z⟩ := k
      simp only at k0 k1 k2
      have Bx := Lib.hid (Box.new wr (x, y, z))
      have HPC := Lib.hid (putS_any (k := (x, y, z)) (HS.out.keptN Bx.out.kept) hok hi hq8)
      clear hk hok hf hrl htl hlt2 hq8 hn2
      go_wp2_with fail
      refine HPC.out.mono ?_
      rintro e w3 ⟨rfl, s3, k3⟩
      have hwr : ¬ F wr.heap.size := fun hF => by have := HFB.out _ hF; omega
      have K3 := Lib.hid ((Bx.out.kept.mono (G := F) (fun _ _ e => e.elim)).trans k3 (fun _ _ e => e))
      have H3 := Lib.hid s3
      have ⟨c0, c1, c2⟩ := Bx.out.three.kept k3 hwr
      have hRF : ∀ b, (Value.slice a n2 cap).ownBlock = some b → ¬ F b := fun b hb hF => by
        have h1 := (HR.out.lt b hb).1
        have h2 := HFB.out b hF
        omega
      have HR3 := Lib.hid (HR.out.keptF K3.out hRF)
      clear s3 k3 hRF HPC k0 k1 k2
      by_cases hc : canPut L1 (x, y, z) i = true
      · rw [hc]
        obtain ⟨a', cap', w4, hrun, hrow, hk4⟩ := HR3.out.pushB elsT cT_len cT_one 45 HN2.out.symm (by rw [HN2.out]; omega) (Nat.le_trans HK.out.size K3.out.size) (x, y, z) #[.int .i64 x, .int .i64 y, .int .i64 z] rfl
        have HR4 := Lib.hid hrow
        have R4 := Lib.hid hrun
        have K4 := Lib.hid ((HK.out.trans K3.out (fun _ _ e => e)).trans hk4 (fun i hi e => absurd hi (Nat.not_lt.2 e)))
        have H4 := Lib.hid (H3.out.kept hk4 (fun b hF e => by have := HFB.out b hF; omega))
        clear hrun hrow hk4
        go_wp2_with (at_builtin; refine wpList_append_run rfl (.tmp 24) (.tmp 26) 45 rfl _ _ rfl rfl R4.out ?_)
        go_roundw
        case rel =>
          refine ⟨j + 1, a', cap', hjn, by go_num, ?_⟩
          rw [HE.out, if_pos hc]
          have e3 : (T ++ [(x, y, z)]).length = n2 + 1 := by rw [List.length_append, HN2.out]; rfl
          rw [e3]
          exact ⟨rfl, HR4.out, H4.out, K4.out⟩
        case measure => simp [intOf]; omega
      · have hc' : canPut L1 (x, y, z) i = false := by simpa using hc
        rw [hc']
        go_wp2_with fail
        go_roundw
        case rel =>
          refine ⟨j + 1, a, cap, hjn, by go_num, ?_⟩
          rw [HE.out, if_neg hc, HN2.out]
          exact ⟨rfl, HR3.out, H3.out, HK.out.trans K3.out (fun _ _ e => e)⟩
        case measure => simp [intOf]; omega
    · obtain rfl : j = n := by omega
      have e1 : ks.take j = ks := List.take_of_length_le (by rw [HNN.out]; exact Nat.le_refl _)
      rw [e1] at HR HS ⊢
      go_wp2_with fail
      go_ret
      exact ⟨a, cap, rfl, HR.out.down K1.out.size, HS.out, (K1.out.mono (G := F) (fun _ _ e => e.elim)).trans HK.out (fun _ _ e => e)⟩
set_option maxHeartbeats 8000000 in
theorem eachTake_any (h : Sto w F p l L) {i : Int} (hi : (Lit.int .i64 i).wf = true) {t : T3} (ht : K3.ok t) {q : Nat} (hq : Few L q) (_hq5 : q + 8 ≤ 5000) :
    Calls Try.prog 40 #[.pointer (some ⟨p, 0, none⟩), fv i t, .func (.func 22) #[.pointer (some ⟨p, 0, none⟩)] #[]] w fun e w' =>
      ∃ a cap, e = .returned (.slice a (runK (fun L k => canTake L k i) (fun L k => takeL L k i) (touched L t) L).2.length cap) ∧ Row cT 31 3 w' w.heap.size (.slice a (runK (fun L k => canTake L k i) (fun L k => takeL L k i) (touched L t) L).2.length cap) (runK (fun L k => canTake L k i) (fun L k => takeL L k i) (touched L t) L).2 ∧
        SSame w w' F p l (runK (fun L k => canTake L k i) (fun L k => takeL L k i) (touched L t) L).1 := by
  have HS0 := Lib.hid h
  have hfew := few_runTake hq i (touched L t)
  have hrs := runK_snoc (fun L k => canTake L k i) (fun L k => takeL L k i)
  have hrl := runK_le (fun L k => canTake L k i) (fun L k => takeL L k i) L
  have r0 : runK (fun L k => canTake L k i) (fun L k => takeL L k i) [] L = (L, []) := rfl
  generalize hR : runK (fun L k => canTake L k i) (fun L k => takeL L k i) = R at *
  have hokk := touched_ok (L := L) ht
  have htl := touched_le L t
  have HT0 := Lib.hid (touchedS_any (h.keptN ((Kept.refl Nil w).alloc (.cells #[.int .i64 i, .int .i64 t.1, .int .i64 t.2.1, .int .i64 t.2.2] 51))) ht)
  generalize touched L t = ks at *
  have HH := Lib.hid (And.intro hfew (And.intro hrs (And.intro hrl (And.intro hokk (And.intro htl r0)))))
  clear h hfew hrs hrl hokk htl hq r0 hR
  go_enter Try.func40, Try.ntmps40
  go_wp2_with fail
  refine HT0.out.mono ?_
  rintro e w1 ⟨aT, cT', rfl, hT, k1⟩
  have hb4 := fun o ho => k1.cell (p := ⟨w.heap.size, o, none⟩) (by simp) ho
  have f0 := (hb4 0 (fun e => e)).trans (by go_simp : _ = some (Value.int .i64 i))
  have hsz1 : w.heap.size + 1 ≤ w1.heap.size := by simpa using k1.size
  have HT := Lib.hid hT
  have K1 := Lib.hid (((Kept.refl Nil w).alloc (.cells #[.int .i64 i, .int .i64 t.1, .int .i64 t.2.1, .int .i64 t.2.2] 51)).trans k1 (fun _ _ e => e))
  have HS1 := Lib.hid (HS0.out.keptN K1.out)
  have hFb : ∀ j, F j → j < w.heap.size := fun j hj => HS0.out.inF hj
  have HFB := Lib.hid hFb
  clear hT k1 HT0 hb4 hFb
  generalize hnn : ks.length = n at *
  have HNN := Lib.hid hnn
  have hn8 : n ≤ 8 := by have := HH.out.2.2.2.2.1; omega
  clear hnn
  go_wp2_with fail
  go_loopw [7, 15] (fun v i' wr => ∃ (j : Nat) (a : Option Addr) (cap : Nat), j ≤ n ∧ i' = .int .i64 j ∧ v = .slice a (R (ks.take j) L).2.length cap ∧ Row cT 31 3 wr w1.heap.size (.slice a (R (ks.take j) L).2.length cap) (R (ks.take j) L).2 ∧ Sto wr F p l (R (ks.take j) L).1 ∧ Kept F w1 wr) (fun _ i' _ => n - (intOf i').toNat)
  case atStart =>
    refine ⟨0, none, 0, Nat.zero_le _, rfl, ?_⟩
    rw [List.take_zero, HH.out.2.2.2.2.2]
    exact ⟨rfl, Row.nil _ _, HS1.out, Kept.refl _ _⟩
  case round =>
    obtain ⟨j, a, cap, hj, rfl, rfl, hR, hS, hK⟩ := hrel
    have HR := Lib.hid hR
    have HS := Lib.hid hS
    have HK := Lib.hid hK
    clear hR hS hK
    by_cases hjn : j < n
    · obtain ⟨k, hk⟩ : ∃ k, ks[j]? = some k := ⟨ks[j]'(by rw [HNN.out]; exact hjn), by simp⟩
      obtain ⟨bf, o, e, hbf, k0, k1, k2⟩ := (((HT.out.toIn cT_len (by decide)).keptF (cap := cT') HK.out (fun b hb hF => by
        have h1 := (HT.out.lt b hb).1
        have h2 := HFB.out b hF
        simp at h1; omega))).three hk
      subst e
      have g0 := (HK.out.cell (p := ⟨w.heap.size, 0, none⟩) (by show w.heap.size < _; omega) (fun hF => Nat.lt_irrefl _ (HFB.out _ hF))).trans f0
      have hsr : w.heap.size < wr.heap.size := Nat.lt_of_lt_of_le (by omega) HK.out.size
      have hok := HH.out.2.2.2.1 k (List.mem_of_getElem? hk)
      have hf := HH.out.1 j
      have HE := Lib.hid (show R (ks.take (j + 1)) L = (takeL (R (ks.take j) L).1 k i, if canTake (R (ks.take j) L).1 k i then (R (ks.take j) L).2 ++ [k] else (R (ks.take j) L).2) from by
        rw [List.take_add_one, hk]
        exact HH.out.2.1 (ks.take j) L k)
      have hrl := HH.out.2.2.1 (ks.take j)
      have htl := HH.out.2.2.2.2.1
      have hlt2 : (ks.take j).length ≤ ks.length := List.length_take_le' ..
      have hr8 : (R (ks.take j) L).2.length ≤ 8 := by have := HNN.out; omega
      generalize (R (ks.take j) L).1 = L1 at *
      generalize (R (ks.take j) L).2 = T at *
      generalize hn2 : T.length = n2 at *
      have HN2 := Lib.hid hn2
      obtain ⟨x, y, z⟩ := k
      simp only at k0 k1 k2
      have Bx := Lib.hid (Box.new wr (x, y, z))
      have HPC := Lib.hid (takeS_any (k := (x, y, z)) (HS.out.keptN Bx.out.kept) hok hi)
      clear hk hok hf hrl htl hlt2 hn2
      go_wp2_with fail
      refine HPC.out.mono ?_
      rintro e w3 ⟨rfl, s3, k3⟩
      have hwr : ¬ F wr.heap.size := fun hF => by have := HFB.out _ hF; omega
      have K3 := Lib.hid ((Bx.out.kept.mono (G := F) (fun _ _ e => e.elim)).trans k3 (fun _ _ e => e))
      have H3 := Lib.hid s3
      have ⟨c0, c1, c2⟩ := Bx.out.three.kept k3 hwr
      have hRF : ∀ b, (Value.slice a n2 cap).ownBlock = some b → ¬ F b := fun b hb hF => by
        have h1 := (HR.out.lt b hb).1
        have h2 := HFB.out b hF
        omega
      have HR3 := Lib.hid (HR.out.keptF K3.out hRF)
      clear s3 k3 hRF HPC k0 k1 k2
      by_cases hc : canTake L1 (x, y, z) i = true
      · rw [hc]
        obtain ⟨a', cap', w4, hrun, hrow, hk4⟩ := HR3.out.pushB elsT cT_len cT_one 45 HN2.out.symm (by rw [HN2.out]; omega) (Nat.le_trans HK.out.size K3.out.size) (x, y, z) #[.int .i64 x, .int .i64 y, .int .i64 z] rfl
        have HR4 := Lib.hid hrow
        have R4 := Lib.hid hrun
        have K4 := Lib.hid ((HK.out.trans K3.out (fun _ _ e => e)).trans hk4 (fun i hi e => absurd hi (Nat.not_lt.2 e)))
        have H4 := Lib.hid (H3.out.kept hk4 (fun b hF e => by have := HFB.out b hF; omega))
        clear hrun hrow hk4
        go_wp2_with (at_builtin; refine wpList_append_run rfl (.tmp 24) (.tmp 26) 45 rfl _ _ rfl rfl R4.out ?_)
        go_roundw
        case rel =>
          refine ⟨j + 1, a', cap', hjn, by go_num, ?_⟩
          rw [HE.out, if_pos hc]
          have e3 : (T ++ [(x, y, z)]).length = n2 + 1 := by rw [List.length_append, HN2.out]; rfl
          rw [e3]
          exact ⟨rfl, HR4.out, H4.out, K4.out⟩
        case measure => simp [intOf]; omega
      · have hc' : canTake L1 (x, y, z) i = false := by simpa using hc
        rw [hc']
        go_wp2_with fail
        go_roundw
        case rel =>
          refine ⟨j + 1, a, cap, hjn, by go_num, ?_⟩
          rw [HE.out, if_neg hc, HN2.out]
          exact ⟨rfl, HR3.out, H3.out, HK.out.trans K3.out (fun _ _ e => e)⟩
        case measure => simp [intOf]; omega
    · obtain rfl : j = n := by omega
      have e1 : ks.take j = ks := List.take_of_length_le (by rw [HNN.out]; exact Nat.le_refl _)
      rw [e1] at HR HS ⊢
      go_wp2_with fail
      go_ret
      exact ⟨a, cap, rfl, HR.out.down K1.out.size, HS.out, (K1.out.mono (G := F) (fun _ _ e => e.elim)).trans HK.out (fun _ _ e => e)⟩
set_option maxHeartbeats 2000000 in
theorem addS_any (h : Sto w F p l L) {i : Int} (hi : (Lit.int .i64 i).wf = true) {t : T3} (ht : K3.ok t) {q : Nat} (hq : Few L q) (hq5 : q + 8 ≤ 5000) :
    Calls Try.prog 17 #[.pointer (some ⟨p, 0, none⟩), fv i t] w fun e w' =>
      ∃ a cap, e = .returned (.slice a (runK (fun L k => canPut L k i) (fun L k => putL L k i) (touched L t) L).2.length cap) ∧ Row cT 31 3 w' w.heap.size (.slice a (runK (fun L k => canPut L k i) (fun L k => putL L k i) (touched L t) L).2.length cap) (runK (fun L k => canPut L k i) (fun L k => putL L k i) (touched L t) L).2 ∧
        SSame w w' F p l (runK (fun L k => canPut L k i) (fun L k => putL L k i) (touched L t) L).1 := by
  have HC := Lib.hid (eachPut_any (h.keptN ((Kept.refl Nil w).alloc (.cells #[.int .i64 i, .int .i64 t.1, .int .i64 t.2.1, .int .i64 t.2.2] 51))) hi ht hq hq5)
  generalize (runK (fun L k => canPut L k i) (fun L k => putL L k i) (touched L t) L) = R at *
  clear h hq
  go_enter Try.func17, Try.ntmps17
  go_wp2_with fail
  refine HC.out.mono ?_
  rintro e w1 ⟨a, cap, rfl, hr, hs, hk⟩
  have HR := Lib.hid (And.intro hr (And.intro hs hk))
  clear hr hs hk HC
  go_wp2_with fail
  go_ret
  exact ⟨a, cap, rfl, HR.out.1.down (by simp), HR.out.2.1, (((Kept.refl F w).alloc _)).trans HR.out.2.2 (fun _ _ e => e)⟩
set_option maxHeartbeats 2000000 in
theorem removeS_any (h : Sto w F p l L) {i : Int} (hi : (Lit.int .i64 i).wf = true) {t : T3} (ht : K3.ok t) {q : Nat} (hq : Few L q) (hq5 : q + 8 ≤ 5000) :
    Calls Try.prog 18 #[.pointer (some ⟨p, 0, none⟩), fv i t] w fun e w' =>
      ∃ a cap, e = .returned (.slice a (runK (fun L k => canTake L k i) (fun L k => takeL L k i) (touched L t) L).2.length cap) ∧ Row cT 31 3 w' w.heap.size (.slice a (runK (fun L k => canTake L k i) (fun L k => takeL L k i) (touched L t) L).2.length cap) (runK (fun L k => canTake L k i) (fun L k => takeL L k i) (touched L t) L).2 ∧
        SSame w w' F p l (runK (fun L k => canTake L k i) (fun L k => takeL L k i) (touched L t) L).1 := by
  have HC := Lib.hid (eachTake_any (h.keptN ((Kept.refl Nil w).alloc (.cells #[.int .i64 i, .int .i64 t.1, .int .i64 t.2.1, .int .i64 t.2.2] 51))) hi ht hq hq5)
  generalize (runK (fun L k => canTake L k i) (fun L k => takeL L k i) (touched L t) L) = R at *
  clear h hq
  go_enter Try.func18, Try.ntmps18
  go_wp2_with fail
  refine HC.out.mono ?_
  rintro e w1 ⟨a, cap, rfl, hr, hs, hk⟩
  have HR := Lib.hid (And.intro hr (And.intro hs hk))
  clear hr hs hk HC
  go_wp2_with fail
  go_ret
  exact ⟨a, cap, rfl, HR.out.1.down (by simp), HR.out.2.1, (((Kept.refl F w).alloc _)).trans HR.out.2.2 (fun _ _ e => e)⟩
end
end Go.Proofs.Ythiijlngoikhkaa
