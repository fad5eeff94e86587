/- PlainSteps: the walk, given the program's Partial, Joins and Blockers. -/
import Derived.Test.YtmpoeibkndcnnaaBYJoins
import Derived.Test.YtmpoeibkndcnnaaBYBlockP
import Derived.Test.YtmpoeibkndcnnaaBYTake
import Derived.Test.YtmpoeibkndcnnaaBYChM
import Derived.Test.YtmpoeibkndcnnaaBYBlock
import Derived.Test.YtmpoeibkndcnnaaBGH
namespace Go.Proofs.Ytmpoeibkndcnnaa
open Go.RowKit
set_option maxRecDepth 100000

/-- A property that goes down to the Subs holds of all steps of all chains. -/
theorem chS_all {P : St → Prop} (hP : ∀ h subs, P (.mk h subs) → h.k = 3 → ∀ c ∈ subs, P c) : (∀ (s : St) (ab x : List St), P s → (∀ c ∈ ab, P c) → x ∈ s.chs ab → ∀ c ∈ x, P c) ∧ ∀ l ab x : List St, (∀ c ∈ l, P c) → (∀ c ∈ ab, P c) → x ∈ chSL l ab → ∀ c ∈ x, P c := by
  refine St.ind2 (fun hd subs ih ab x hg hab hx => ?_) (fun ab x _ _ hx => by simp [chSL_nil] at hx) (fun a l ha hl ab x hg hab hx => ?_)
  · rw [chsS_mk] at hx
    rcases List.mem_append.1 hx with hx | hx
    · split at hx
      · rename_i h3
        exact ih ab x (hP hd subs hg h3) hab hx
      · cases hx
    · rw [List.mem_singleton.1 hx]
      intro c hc
      rcases List.mem_append.1 hc with hc | hc
      · exact hab c hc
      · rw [List.mem_singleton.1 hc]; exact hg
  · rw [chSL_cons] at hx
    rcases List.mem_append.1 hx with hx | hx
    · exact ha ab x (hg a List.mem_cons_self) hab hx
    · exact hl (ab ++ [a]) x (fun c hc => hg c (List.mem_cons_of_mem _ hc)) (fun c hc => by
        rcases List.mem_append.1 hc with hc | hc
        · exact hab c hc
        · rw [List.mem_singleton.1 hc]; exact hg a List.mem_cons_self) hx
theorem pAt_down : (∀ (s : St) (d d' : Int), d' ≤ d → s.pAt d = true → s.pAt d' = true) ∧ ∀ (l : List St) (d d' : Int), d' ≤ d → pLAt l d = true → pLAt l d' = true := by
  refine St.ind2 (fun h subs ih d d' hd hp => ?_) (fun _ _ _ _ => rfl) (fun a l ha hl d d' hd hp => ?_)
  · rw [St.pAt] at hp ⊢
    split at hp
    · cases hp
    · rw [if_neg (by omega)]
      split at hp
      · rename_i h3
        rw [if_pos h3]
        simp only [Bool.and_eq_true] at hp ⊢
        exact ⟨hp.1, hp.2.1, hp.2.2.1, ih (d + 1) (d' + 1) (by omega) hp.2.2.2⟩
      · rename_i h3
        rw [if_neg h3]
        exact hp
  · rw [pLAt, Bool.and_eq_true] at hp ⊢
    exact ⟨ha d d' hd hp.1, hl d d' hd hp.2⟩
/-- .. so all of them may stand in a chain. -/
theorem chS_okS {l : List St} (hl : ∀ x ∈ l, x.okS) {x : List St} (hx : x ∈ chSL l []) : ∀ c ∈ x, c.okS := by
  have := (chS_all (P := fun s => s.goodS ∧ s.cnt ≤ 16 ∧ ∃ d : Int, 1 ≤ d ∧ s.pAt d = true) (fun h subs hp h3 c hc => by
    obtain ⟨hg, hn, d, hd, hp⟩ := hp
    refine ⟨(goodS_mk.1 hg).2.2.2 c hc, ?_, d + 1, by omega, ?_⟩
    · have := cnt_mem hc
      rw [St.cnt] at hn
      omega
    · rw [St.pAt] at hp
      split at hp
      · cases hp
      · simp only [Bool.and_eq_true] at hp
        have := hp.2.2.2
        rw [pLAt_all, List.all_eq_true] at this
        exact this c hc)).2 l [] x (fun c hc => by
      have h1 := hl c hc
      have h2 := h1.2
      unfold St.right at h2
      simp only [Bool.and_eq_true, decide_eq_true_iff] at h2
      exact ⟨h1.1, h2.2, 1, by omega, h2.1⟩) (fun c hc => by cases hc) hx
  intro c hc
  obtain ⟨hg, hn, d, hd, hp⟩ := this c hc
  refine ⟨hg, ?_⟩
  unfold St.right
  rw [pAt_down.1 c d 1 hd hp, decide_eq_true hn]
  rfl
theorem factsM_nodup (ts : List T3) : ((factsM 1 ts).map Prod.fst).Nodup := by
  rw [List.Nodup, List.pairwise_iff_getElem]
  intro i j hi hj hij
  simp [factsM]
  omega
set_option maxHeartbeats 8000000 in
theorem plainSteps_any (nm : ByteArray) (hnm : nm.size ≤ maxLen) (l : List Sh) (a : Option Addr) (cap : Nat) (_hcap : l.length ≤ cap ∧ cap ≤ maxLen) (tA : Option Addr) (nt ct : Nat) (ts : List T3) (w : World) (h : Holds cA w (fun b _ => b < w.heap.size) (.slice a l.length cap) l) (ht : In cT3 3 w tA nt ts) (hm : nt ≤ maxLen) :
    Calls Try.prog 4 #[vRule nm (.slice a l.length cap), .slice tA nt ct] w fun e w' => e = .returned (.bool true) ∧ Kept Nil w w' := by
  have hm1 := hm
  unfold maxLen at hm1
  have HA := Lib.hid awakeOK
  have HP := Lib.hid partialOK
  have HJ := Lib.hid joinsOK
  have HBk := Lib.hid blockersOK
  have CF := Lib.hid (fun W (kW : Kept Nil w W) => fineP_any nm hnm l (fun b _ => b < w.heap.size) a cap nt hm W (h.keptN kW) (fun b o hb => Nat.lt_of_lt_of_le hb kW.size))
  unfold Yes2 at CF
  have CR : Hid (∀ w', Kept Nil w w' → countL l ≤ 16 → Calls Try.prog 12 #[vRule nm (.slice a l.length cap)] w' fun e w'' => ∃ a' cap', e = .returned (vRule nm (.slice a' l.length cap')) ∧ Holds cR w'' (okM w'.heap.size w'') (.slice a' l.length cap') l ∧ Kept Nil w' w'') := Lib.hid fun w' k hc => refRuleOf_any nm l (by omega) _ a cap w' (h.keptN k)
  have CFa := Lib.hid (fun W (kW : Kept Nil w W) (h12 : nt ≤ 12) => facts_any ts tA nt ct 1 (by decide) (by omega) W (ht.kept kW))
  unfold FactsEnd at CFa
  have hts := ht.1
  have HTS := Lib.hid hts
  obtain ⟨len, hlen⟩ : ∃ len, l.length = len := ⟨_, rfl⟩
  rw [hlen] at CF CR ⊢
  have HL := Lib.hid hlen
  have K0 := Lib.hid ((Kept.refl Nil w).alloc (.cells #[.string nm, .slice a len cap] 24))
  have B0 := Lib.hid (Blk.new w 24 #[.string nm, .slice a len cap])
  clear h ht hlen hnm hts hm
  unfold vRule at CF CR ⊢
  go_enter Try.func4, Try.ntmps4
  go_wp2_with fail
  refine (CF.out _ K0.out).mono ?_
  rintro e w1 ⟨b, rfl, k1, hb⟩
  have K1 := Lib.hid (K0.out.trans k1 (fun _ _ g => g))
  have B1 := Lib.hid (B0.out.kept k1 (fun e => e))
  have HB := Lib.hid hb
  clear k1 hb K0 B0 CF
  cases b
  · go_wp2_with fail
    refine (HA.out _).mono ?_
    rintro e w3 ⟨rfl, k3⟩
    go_wp2_with fail
    go_ret
    exact ⟨rfl, K1.out.trans k3 (fun _ _ g => g)⟩
  have HG : Hid (nt ≤ 12 ∧ (countL l ≤ 16 ∧ chkL l 1 = 0 ∧ len ≠ 0) ∧ (nt + 1) ^ posAL l ≤ 3000) := Lib.hid (HB.out rfl)
  clear HB
  go_wp2_with fail
  refine (CFa.out _ K1.out HG.out.1).mono ?_
  rintro e w2 ⟨k2, hfac⟩
  have K2 := Lib.hid (K1.out.trans k2 (fun _ _ g => g))
  have B2 := Lib.hid (B1.out.kept k2 (fun e => e))
  clear k2 B1 CFa
  rcases hfac with ⟨fa, fc, rfl, hrow, hok⟩ | rfl
  rotate_left
  · go_wp2_with fail
    refine (HA.out _).mono ?_
    rintro e w3 ⟨rfl, k3⟩
    go_wp2_with fail
    go_ret
    exact ⟨rfl, K2.out.trans k3 (fun _ _ g => g)⟩
  have HFs := Lib.hid (factsM_ok (d := 1) hok)
  have HFl := Lib.hid ((factsM_len 1 ts).trans HTS.out)
  rw [HTS.out] at hrow
  have HFi := Lib.hid (hrow.toIn cF_len (by decide))
  rw [show ((1 : Nat) : Int) = 1 from rfl] at HFi
  have htl := HTS.out
  have HNd := Lib.hid (factsM_nodup ts)
  generalize hfs : factsM 1 ts = fs at *
  rw [htl]
  have c0 := B2.out.cell 0
  have c1 := B2.out.cell 1
  simp at c0 c1
  have HGood : Hid (∀ x ∈ l, x.good) := Lib.hid fun x hx => chk_good x 1 (chkL_all.1 HG.out.2.1.2.1 x hx)
  have HCo : Hid ((fs.length + 1) ^ posAL l ≤ 3000) := Lib.hid (by rw [HFl.out]; exact HG.out.2.2)
  have HSt := Lib.hid ((st_good.2 l HGood.out []))
  have HCo2 : Hid ((fs.length + 1) ^ posSL (stL l []) ≤ 3000) := Lib.hid (Nat.le_trans (pow_le_of _ HSt.out.2) HCo.out)
  have HSL : Hid ((stL l []).length = len) := Lib.hid (by rw [stL_length]; exact HL.out)
  have hl16 : len ≤ 16 := by have := length_countL l; have := HG.out.2.1.1; have := HL.out; omega
  have CO : Hid (∀ W ok a cap, Holds cR W ok (.slice a len cap) l → Calls Try.prog 15 #[.slice a len cap] W fun e w' => ∃ a cap, e = .returned (.slice a len cap) ∧ SHolds w' (okM W.heap.size w') (.slice a len cap) (stL l []) ∧ Kept Nil W w') := Lib.hid fun W ok a cap hh => by
    have := refCompile_of of_all l ⟨HG.out.2.1.1, HG.out.2.1.2.1⟩ ok a cap W (by rw [HL.out]; exact hh)
    unfold StsEnd at this
    rw [stL_length, HL.out] at this
    exact this
  have HM : Hid (massL (stL l []) ≤ 64) := Lib.hid (by have := st_mass.2 l []; have := HG.out.2.1.1; omega)
  have HCn : Hid (cntL (stL l []) ≤ 16) := Lib.hid (by have := st_cnt.2 l []; have := HG.out.2.1.1; omega)
  have CQ : Hid (∀ W ok a cap, SHolds W ok (.slice a len cap) (stL l []) → (∀ b o, ok b o → b < W.heap.size) → Calls Try.prog 19 #[.slice none 0 0, .slice a len cap] W fun e w' => ∃ r, e = .returned r ∧ ListsS w' (fun b _ => b < w'.heap.size) r (chSL (stL l []) []) ∧ Kept Nil W w') := Lib.hid fun W ok a cap hh hok => by
    have := refSChains_any (stL l []) ok a cap W (by rw [HSL.out]; exact hh) hok (by have := HCn.out; omega)
    rw [HSL.out] at this
    exact this
  have HCh : Hid (∀ x ∈ chSL (stL l []) [], x ≠ [] ∧ (∀ c ∈ x, c.okS) ∧ (fs.length + 1) ^ posSL x ≤ 3000 ∧ x.length ≤ 16 ∧ massL x ≤ 64 ∧ posSL x ≤ 16) := Lib.hid fun x hx => by
    have hp : posAL l ≤ 16 := Nat.le_trans (posA_le.2 l) HG.out.2.1.1
    have hp2 := HSt.out.2
    obtain ⟨i1, i2, i3⟩ := chS_good.2 _ [] x HSt.out.1 (fun c hc => by cases hc) hx
    have i4 := chS_len.2 _ [] x hx
    rw [posSL_nil, Nat.zero_add] at i3
    simp only [List.length_nil, Nat.zero_add] at i4
    exact ⟨i1, chS_okS (stL_okS HG.out.2.1.1 HG.out.2.1.2.1) hx, Nat.le_trans (pow_le_of _ i3) HCo2.out, Nat.le_trans i4 HCn.out, Nat.le_trans (chainS_mass hx) HM.out, by omega⟩
  have HLn : Hid ((chSL (stL l []) []).length ≤ 16) := Lib.hid (Nat.le_trans (chSL_len_le.2 (stL l []) []) HCn.out)
  have CRf := Lib.hid (fun W (hf : In cF 4 W fa nt fs) => refF_any (c := fc) hf (by have := HG.out.1; omega))
  clear hfs hrow hok htl HGood HCo HCo2 HSt HM HCn HSL
  have hn12 : nt ≤ 12 := HG.out.1
  go_wp2_with fail
  refine (CRf.out _ HFi.out).mono ?_
  rintro e w3 ⟨a3, c3, rfl, h3, _, k3⟩
  have K3 := Lib.hid (K2.out.trans k3 (fun _ _ g => g))
  have F3 := Lib.hid (HFi.out.kept k3)
  have H3 := Lib.hid h3
  have B3 := Lib.hid (B2.out.kept k3 (fun e => e))
  have d0 := B3.out.cell 0
  have d1 := B3.out.cell 1
  simp at d0 d1
  clear k3 h3 CRf K2 HFi B2 c0 c1
  go_wp2_with fail
  refine (CR.out _ K3.out HG.out.2.1.1).mono ?_
  rintro e w4 ⟨a4, c4, rfl, h4, k4⟩
  have K4 := Lib.hid (K3.out.trans k4 (fun _ _ g => g))
  have H4 := Lib.hid h4
  have F4' := Lib.hid (F3.out.kept k4)
  have R4 := Lib.hid (H3.out.kept k4)
  have hfld := fieldRule nm a4 len c4
  clear k4 h4 CR K3 F3 H3 B3 d0 d1
  go_wp2_with fail
  refine (CO.out _ _ _ _ H4.out).mono ?_
  rintro e w5 ⟨a5, c5, rfl, h5, k5⟩
  have K5 := Lib.hid (K4.out.trans k5 (fun _ _ g => g))
  have H5 := Lib.hid h5
  have F5 := Lib.hid (F4'.out.kept k5)
  have R5 := Lib.hid (R4.out.kept k5)
  clear k5 h5 CO K4 H4 F4' R4 hfld
  go_wp2_with fail
  refine (CQ.out _ _ _ _ H5.out (fun b o hb => hb.2.1)).mono ?_
  rintro e w6 ⟨r6, rfl, h6, k6⟩
  have K6 := Lib.hid (K5.out.trans k6 (fun _ _ g => g))
  have F6 := Lib.hid (F5.out.kept k6)
  have R6 := Lib.hid (R5.out.kept k6)
  obtain ⟨a6, c6, rfl, _, f6⟩ := h6
  have X6 := Lib.hid f6
  clear k6 f6 CQ K5 H5 F5 R5
  obtain ⟨N, hN⟩ : ∃ N, (chSL (stL l []) []).length = N := ⟨_, rfl⟩
  have hN16 : N ≤ 16 := by have := HLn.out; omega
  rw [hN]
  have HN := Lib.hid hN
  clear hN
  go_wp2_with fail
  go_loopw [36] (fun i wr => ∃ j : Nat, j ≤ N ∧ i = .int .i64 j ∧ Kept Nil w6 wr) (fun i _ => N - (intOf i).toNat)
  case atStart => exact ⟨0, by omega, rfl, Kept.refl _ _⟩
  case round =>
    obtain ⟨j, hj, rfl, hK⟩ := hrel
    have HK := Lib.hid hK
    clear hK
    by_cases hlt : j < N
    rotate_left
    · obtain rfl : j = N := by omega
      go_wp2_with fail
      refine (HA.out _).mono ?_
      rintro e w9 ⟨rfl, k9⟩
      go_wp2_with fail
      go_ret
      exact ⟨rfl, K6.out.trans (HK.out.trans k9 (fun _ _ g => g)) (fun _ _ g => g)⟩
    obtain ⟨x, hx⟩ : ∃ x, (chSL (stL l []) [])[j]? = some x := ⟨_, List.getElem?_eq_getElem (by have := HN.out; omega)⟩
    obtain ⟨i1, i2, i3, i4, i5, i6⟩ := HCh.out x (List.mem_of_getElem? hx)
    obtain ⟨g, bx, dx, rfl, hc, hs⟩ := X6.out j x hx
    have Hc := Lib.hid (HK.out.cellOf hc)
    have HS := Lib.hid ((hs.keptN HK.out).mono (ok' := Any2) (fun _ _ _ => trivial))
    have HI := Lib.hid (And.intro i2 i3)
    obtain ⟨n, hn⟩ : ∃ n, x.length = n := ⟨_, rfl⟩
    obtain ⟨m, hm⟩ : ∃ m, n = m + 1 := ⟨n - 1, by have := List.length_pos_iff.2 i1; omega⟩
    obtain ⟨⟨⟨k, k0, k1, k2, tst⟩, sb⟩, hz⟩ : ∃ z, x[m]? = some z := ⟨_, List.getElem?_eq_getElem (by omega)⟩
    have e1 : (n : Int) - 1 = (m : Int) := by omega
    have hn16 : n ≤ 16 := by omega
    have e2 : IntKind.i64.wrap (m : Int) = (m : Int) := by rw [IntKind.wrap_i64]; omega
    have e3 : (0 : Int) ≤ (m : Int) := by omega
    have e4 : (m : Int) < (n : Int) := by omega
    have e5 : (m : Int) ≤ (n : Int) := by omega
    have HZ := Lib.hid hz
    have HTk : Hid (x.take (m + 1) = x) := Lib.hid (List.take_of_length_le (by omega))
    rw [hn] at Hc HS
    have CS : Hid (∀ W a cap, SHolds W Any2 (.slice a n cap) x → Calls Try.prog 14 #[.slice a n cap] W fun e w' => ∃ a cap, e = .returned (.slice a n cap) ∧ SHolds w' Any2 (.slice a n cap) x ∧ Kept Nil W w') := Lib.hid fun W a cap hh => by
      have := steps_any x (by omega) Any2 a cap W (by rw [hn]; exact hh)
      unfold StsEnd at this
      rw [hn] at this
      refine this.mono ?_
      rintro e w' ⟨a', c', rfl, h', k'⟩
      exact ⟨a', c', rfl, h'.mono (fun _ _ _ => trivial), k'⟩
    have CW : Hid (∀ W a cap, In cF 4 W a3 nt fs → SHolds W Any2 (.slice a n cap) x → Calls Try.prog 20 #[.slice a3 nt c3, .slice a n cap, .slice none 0 0] W fun e w' => ∃ r, e = .returned r ∧ LL w' W.heap.size r (smL fs x []) ∧ Kept Nil W w') := Lib.hid fun W a cap hf hh => by
      have := steps_all fs (by rw [HFl.out]; exact hn12) x (fun c hc => (i2 c hc).1) i3 [] a3 nt c3 a cap none 0 0 W hf (by rw [hn]; exact hh) ⟨rfl, .inl rfl⟩ (by omega)
      rw [hn] at this
      exact this
    have CP : Hid (∀ W a cap, In cF 4 W fa nt fs → SHolds W Any2 (.slice a n cap) x → Calls Try.prog 13 #[.slice fa nt fc, .slice a n cap] W fun e w' => ∃ a' n' c', e = .returned (.slice a' n' c') ∧ LNew w' W.heap.size a' n' (smL fs x []) ∧ Kept Nil W w') := Lib.hid fun W a cap hf hh => by
      have := HP.out fs HFs.out (by rw [HFl.out]; exact hn12) x i2 i4 i3 fa nt fc a cap W hf (by rw [hn]; exact hh)
      rw [hn] at this
      exact this
    have CJ : Hid (∀ W a cap, In cF 4 W fa nt fs → SHolds W Any2 (.slice a n cap) x → Calls Try.prog 21 #[.slice fa nt fc, .slice a n cap] W fun e w' => ∃ a' c', e = .returned (.slice a' n c') ∧ In cN 1 w' a' n (joinsL fs x) ∧ Kept Nil W w') := Lib.hid fun W a cap hf hh => by
      have := HJ.out fs HFs.out (by rw [HFl.out]; exact hn12) x i2 i4 i3 fa nt fc a cap W hf (by rw [hn]; exact hh)
      rw [hn] at this
      exact this
    have HJn : Hid ((joinsL fs x)[m]? = some ((smL fs x []).length : Int)) := Lib.hid (by
      unfold joinsL
      rw [List.getElem?_map, List.getElem?_range (by omega), Option.map_some, HTk.out])
    have hids1 : ∀ y ∈ smL fs x [], y.length ≤ 100000 := fun y hy => by have := (sm_ids fs).2 x [] y hy; simp at this; omega
    have hlen1 : (smL fs x []).length ≤ 3000 := Nat.le_trans ((sm_len fs).2 x []) i3
    have HIds := Lib.hid (And.intro hids1 hlen1)
    have hgz := i2 _ (List.mem_of_getElem? hz)
    have HBl : Hid (∀ W a cap ta tc ua un uc, In cF 4 W fa nt fs → SHolds W Any2 (.slice a m cap) (x.take m) → TsAt W Any2 (.slice ta tst.length tc) tst → Calls Try.prog 22 #[.slice fa nt fc, .slice a m cap, .agg #[.int .i64 k, .int .i64 k0, .int .i64 k1, .int .i64 k2, .slice ta tst.length tc, .slice ua un uc]] W fun e w' => e = .returned (.int .i64 (blkN fs ⟨k, k0, k1, k2, tst⟩ (smL fs (x.take m) []))) ∧ Kept Nil W w') := Lib.hid fun W a cap ta tc ua un uc hf hh ht => by
      have hxm : (x.take m).length = m := by rw [List.length_take]; omega
      have := HBk.out fs HNd.out (by rw [HFl.out]; exact hn12) (x.take m) (.mk ⟨k, k0, k1, k2, tst⟩ sb) (fun c hc => i2 c (List.mem_of_mem_take hc)) hgz.1 (by omega) (Nat.le_trans (pow_le_of _ (posSL_take x m)) i3) fa nt fc a cap ta tc ua un uc W hf (by rw [hxm]; exact hh) ht
      rw [hxm] at this
      exact this
    have HTm : Hid ((∀ c ∈ x.take m, c.okS) ∧ (fs.length + 1) ^ posSL (x.take m) ≤ 3000 ∧ (x.take m).length = m ∧ posSL (x.take m) ≤ 16) := Lib.hid ⟨fun c hc => i2 c (List.mem_of_mem_take hc), Nat.le_trans (pow_le_of _ (posSL_take x m)) i3, by rw [List.length_take]; omega, Nat.le_trans (posSL_take x m) i6⟩
    have HGz := Lib.hid hgz.1
    have HM1 := Lib.hid hm
    clear hx hs hc hz hgz hids1 hlen1 i1 i2 i3 i4 i5 i6 hm
    have z0 := Hc.out
    have F7 := Lib.hid (F6.out.kept HK.out)
    have R7 := Lib.hid (R6.out.kept HK.out)
    go_wp2_with fail
    refine (CS.out _ _ _ HS.out).mono ?_
    rintro e w7 ⟨a7, c7, rfl, h7, k7⟩
    have K7 := Lib.hid (HK.out.trans k7 (fun _ _ g => g))
    have S7 := Lib.hid (HS.out.keptN k7)
    have H7 := Lib.hid h7
    have F8 := Lib.hid (F7.out.kept k7)
    have R8 := Lib.hid (R7.out.kept k7)
    clear k7 h7 HS F7 R7 CS z0
    go_wp2_with fail
    refine (CW.out _ _ _ R8.out S7.out).mono ?_
    rintro e w8 ⟨r8, rfl, h8, k8⟩
    obtain ⟨a8, c8, rfl⟩ := h8.shape
    have K8 := Lib.hid (K7.out.trans k8 (fun _ _ g => g))
    have S8 := Lib.hid (S7.out.keptN k8)
    have H8 := Lib.hid (H7.out.keptN k8)
    have F9 := Lib.hid (F8.out.kept k8)
    have R9 := Lib.hid (R8.out.kept k8)
    have L8 := Lib.hid h8.toLIn
    clear k8 h8 S7 H7 F8 R8 CW K7
    generalize smL fs x [] = M at *
    obtain ⟨mn, hmn⟩ : ∃ mn, M.length = mn := ⟨_, rfl⟩
    rw [hmn] at L8 HJn ⊢
    have hmn3 : mn ≤ 3000 := by have := HIds.out.2; omega
    go_wp2_with fail
    refine (CP.out _ _ _ F9.out H8.out).mono ?_
    rintro e w9 ⟨a9, n9, c9, rfl, h9, k9⟩
    obtain rfl : mn = n9 := by rw [← hmn]; exact h9.1
    have K9 := Lib.hid (K8.out.trans k9 (fun _ _ g => g))
    have S9 := Lib.hid (S8.out.keptN k9)
    have H9 := Lib.hid (H8.out.keptN k9)
    have F10 := Lib.hid (F9.out.kept k9)
    have R10 := Lib.hid (R9.out.kept k9)
    have CSm := Lib.hid (same_any (c := c9) (c' := c8) h9.toLIn (L8.out.kept k9) (by omega) (by omega) HIds.out.1 HIds.out.1)
    rw [decide_eq_true rfl] at CSm
    clear k9 h9 S8 H8 F9 R9 CP K8 L8
    go_wp2_with fail
    refine CSm.out.mono ?_
    rintro e w10 ⟨rfl, k10⟩
    have K10 := Lib.hid (K9.out.trans k10 (fun _ _ g => g))
    have S10 := Lib.hid (S9.out.keptN k10)
    have H10 := Lib.hid (H9.out.keptN k10)
    have F11 := Lib.hid (F10.out.kept k10)
    have R11 := Lib.hid (R10.out.kept k10)
    clear k10 CSm S9 H9 F10 R10 K9
    go_wp2_with fail
    refine (CJ.out _ _ _ F11.out H10.out).mono ?_
    rintro e w11 ⟨a11, c11, rfl, h11, k11⟩
    have K11 := Lib.hid (K10.out.trans k11 (fun _ _ g => g))
    have S11 := Lib.hid (S10.out.keptN k11)
    have H11 := Lib.hid (H10.out.keptN k11)
    have F12 := Lib.hid (F11.out.kept k11)
    have R12 := Lib.hid (R11.out.kept k11)
    obtain ⟨bj, oj, rfl, _, pj⟩ := h11.one HJn.out
    clear k11 h11 CJ S10 H10 F11 R11 K10
    obtain ⟨bs, os, ta, tc, ua, uc, rfl, _, hr, hts, _⟩ := S11.out.at_ HZ.out
    obtain ⟨bh, oh, ta', tc', ua', uc', rfl, _, hr', hts', _⟩ := H11.out.at_ HZ.out
    simp only at hr hts hr' hts'
    obtain ⟨tn, htn⟩ : ∃ tn, tst.length = tn := ⟨_, rfl⟩
    obtain ⟨un, hun⟩ : ∃ un, sb.length = un := ⟨_, rfl⟩
    rw [htn] at hts hts'
    rw [htn, hun] at hr hr'
    have HR := Lib.hid hr
    have HTs := Lib.hid hts
    have HR' := Lib.hid hr'
    have HTs' := Lib.hid hts'
    have HTn := Lib.hid htn
    have s0 : ∀ n : CW (Kept Nil w11), n.w.cell? ⟨bs, os + m * 6, none⟩ = some (.int .i64 k) := fun n => rangeAt_kept n.of (fun e => e) HR.out 0 _ rfl
    have inst : Nonempty (CW (Kept Nil w11)) := ⟨⟨w11, Kept.refl _ _⟩⟩
    clear hr hts hr' hts' htn
    by_cases hk : k = 2
    rotate_left
    · have hk2 : (k == 2) = false := beq_eq_false_iff_ne.2 hk
      go_upto_region 18 with fail
      refine wp_region_in (Kept Nil w11) (by kernel_rfl) (by kernel_rfl) ((Kept.refl _ _).drew) ?_
      repeat (go_big_quiet_step (fail))
      refine wpQuiet_nil ?_
      rintro _ ⟨nn, rfl⟩
      have KX := Lib.hid (K11.out.trans nn.of (fun _ _ g => g))
      generalize nn.w = X at *
      clear s0 inst nn
      go_wp2_with fail
      go_roundw
      case rel => exact ⟨j + 1, by omega, by go_num, KX.out⟩
      case measure => simp [intOf]; omega
    · subst hk
      have s1 : ∀ n : CW (Kept Nil w11), n.w.cell? ⟨bs, os + m * 6 + 1, none⟩ = some (.int .i64 k0) := fun n => rangeAt_kept n.of (fun e => e) HR.out 1 _ rfl
      have s2 : ∀ n : CW (Kept Nil w11), n.w.cell? ⟨bs, os + m * 6 + 2, none⟩ = some (.int .i64 k1) := fun n => rangeAt_kept n.of (fun e => e) HR.out 2 _ rfl
      have s3 : ∀ n : CW (Kept Nil w11), n.w.cell? ⟨bs, os + m * 6 + 3, none⟩ = some (.int .i64 k2) := fun n => rangeAt_kept n.of (fun e => e) HR.out 3 _ rfl
      have s4 : ∀ n : CW (Kept Nil w11), n.w.cell? ⟨bs, os + m * 6 + 4, none⟩ = some (.slice ta tn tc) := fun n => rangeAt_kept n.of (fun e => e) HR.out 4 _ rfl
      have s5 : ∀ n : CW (Kept Nil w11), n.w.cell? ⟨bs, os + m * 6 + 5, none⟩ = some (.slice ua un uc) := fun n => rangeAt_kept n.of (fun e => e) HR.out 5 _ rfl
      have t0 : ∀ n : CW (Kept Nil w11), n.w.cell? ⟨bh, oh + m * 6, none⟩ = some (.int .i64 2) := fun n => rangeAt_kept n.of (fun e => e) HR'.out 0 _ rfl
      have t1 : ∀ n : CW (Kept Nil w11), n.w.cell? ⟨bh, oh + m * 6 + 1, none⟩ = some (.int .i64 k0) := fun n => rangeAt_kept n.of (fun e => e) HR'.out 1 _ rfl
      have t2 : ∀ n : CW (Kept Nil w11), n.w.cell? ⟨bh, oh + m * 6 + 2, none⟩ = some (.int .i64 k1) := fun n => rangeAt_kept n.of (fun e => e) HR'.out 2 _ rfl
      have t3 : ∀ n : CW (Kept Nil w11), n.w.cell? ⟨bh, oh + m * 6 + 3, none⟩ = some (.int .i64 k2) := fun n => rangeAt_kept n.of (fun e => e) HR'.out 3 _ rfl
      have t4 : ∀ n : CW (Kept Nil w11), n.w.cell? ⟨bh, oh + m * 6 + 4, none⟩ = some (.slice ta' tn tc') := fun n => rangeAt_kept n.of (fun e => e) HR'.out 4 _ rfl
      have t5 : ∀ n : CW (Kept Nil w11), n.w.cell? ⟨bh, oh + m * 6 + 5, none⟩ = some (.slice ua' un uc') := fun n => rangeAt_kept n.of (fun e => e) HR'.out 5 _ rfl
      have hmn2 : m ≤ n := by omega
      have hm7 : m ≤ c7 := Nat.le_trans hmn2 H11.out.fits.2
      have hmd : m ≤ dx := Nat.le_trans hmn2 S11.out.fits.2
      have CBn : Hid (∀ nn : CW (Kept Nil w11), Calls Try.prog 22 #[.slice fa nt fc, .slice (some ⟨bh, oh, none⟩) m c7, .agg #[.int .i64 2, .int .i64 k0, .int .i64 k1, .int .i64 k2, .slice ta' tn tc', .slice ua' un uc']] nn.w fun e w' => e = .returned (.int .i64 (blkN fs ⟨2, k0, k1, k2, tst⟩ (smL fs (x.take m) []) : Nat)) ∧ Kept Nil nn.w w') := Lib.hid fun nn => by
        have := HBl.out nn.w (some ⟨bh, oh, none⟩) c7 ta' tc' ua' un uc' (F12.out.kept nn.of) ((H11.out.keptN nn.of).take hmn2) (by rw [HTn.out]; exact HTs'.out.keptN nn.of)
        rw [HTn.out] at this
        exact this
      have CRn : Hid (∀ nn : CW (Kept Nil w11), Calls Try.prog 23 #[.slice a3 nt c3, .slice (some ⟨bs, os, none⟩) m dx, .agg #[.int .i64 2, .int .i64 k0, .int .i64 k1, .int .i64 k2, .slice ta tn tc, .slice ua un uc]] nn.w fun e w' => e = .returned (.int .i64 (blkN fs ⟨2, k0, k1, k2, tst⟩ (smL fs (x.take m) []) : Nat)) ∧ Kept Nil nn.w w') := Lib.hid fun nn => by
        have hg := HGz.out
        obtain ⟨_, hts2, htl2, _⟩ := goodS_mk.1 hg
        have := blockers_of fs (by rw [HFl.out]; exact hn12) ⟨2, k0, k1, k2, tst⟩ (smL fs (x.take m) []) (Nat.le_trans ((sm_len fs).2 (x.take m) []) HTm.out.2.1) (fun y hy => by
            have := (sm_ids fs).2 (x.take m) [] y hy
            rw [HTm.out.2.2.1] at this
            simp at this
            omega) (fun y hy => by
            have h1 := (sm_ids fs).2 (x.take m) [] y hy
            rw [HTm.out.2.2.1] at h1
            simp at h1
            have h2 := backOf_le fs y
            have h3 : y.length * fs.length ≤ 16 * 12 := Nat.mul_le_mul (by omega) (by rw [HFl.out]; exact hn12)
            omega) a3 nt c3 (some ⟨bs, os, none⟩) m dx ta tn tc ua un uc nn.w (R12.out.kept nn.of) (fun W kW => by
            have := steps_all fs (by rw [HFl.out]; exact hn12) (x.take m) (fun c hc => (HTm.out.1 c hc).1) HTm.out.2.1 [] a3 nt c3 (some ⟨bs, os, none⟩) dx none 0 0 W ((R12.out.kept nn.of).kept kW) (by rw [HTm.out.2.2.1]; exact ((S11.out.keptN nn.of).keptN kW).take hmn2) ⟨rfl, .inl rfl⟩ (by have := HTm.out.2.2.2; omega)
            rw [HTm.out.2.2.1] at this
            exact this) (fun bk t a n c W hn kW hi => by
            have := refMeets_any ⟨2, k0, k1, k2, tst⟩ bk t hts2 (Nat.le_trans htl2 (by decide)) a n c (by omega) Any2 ta tc (.slice ua un uc) ⟨ua, un, uc, rfl⟩ W hi (by rw [HTn.out]; exact (HTs.out.keptN nn.of).keptN kW)
            rw [meetR_eq (.inr (.inl rfl)), HTn.out] at this
            exact this)
        exact this
      generalize blkN fs ⟨2, k0, k1, k2, tst⟩ (smL fs (x.take m) []) = Bk at CBn CRn
      clear HBl
      go_upto_region 18 with fail
      refine wp_region_in (Kept Nil w11) (by kernel_rfl) (by kernel_rfl) ((Kept.refl _ _).drew) ?_
      repeat (go_big_quiet_step (first | (go_at_call 22; with_reducible exact call_in (fun _ _ a b => a.trans b (fun _ _ g => g)) (CBn.out _)) | (go_at_call 23; with_reducible exact call_in (fun _ _ a b => a.trans b (fun _ _ g => g)) (CRn.out _))))
      refine wpQuiet_nil ?_
      rintro _ ⟨nn, rfl⟩
      have KX := Lib.hid (K11.out.trans nn.of (fun _ _ g => g))
      generalize nn.w = X at *
      clear s0 s1 s2 s3 s4 s5 t0 t1 t2 t3 t4 t5 CBn CRn inst nn
      go_wp2_with fail
      go_roundw
      case rel => exact ⟨j + 1, by omega, by go_num, KX.out⟩
      case measure => simp [intOf]; omega
end Go.Proofs.Ytmpoeibkndcnnaa
