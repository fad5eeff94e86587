/- PlainAny: the walk over the law's own code. -/
import Derived.Test.YtmpoeibkndcnnaaBYAnyP
import Derived.Test.YtmpoeibkndcnnaaBYBlockP
import Derived.Test.YtmpoeibkndcnnaaA14
import Derived.Deep.CutBlock
import Derived.Deep.DeepCutAuto
namespace Go.Proofs.Ytmpoeibkndcnnaa
open Go.RowKit
set_option maxRecDepth 100000

theorem factsM_id {ts : List T3} {q : Nat} {f : F4} (h : (factsM 1 ts)[q]? = some f) : f.1 = 1 + (q : Int) := by
  have hlt := (List.getElem?_eq_some_iff.1 h).1
  rw [factsM_len] at hlt
  have := factsM_get (d := 1) (List.getElem?_eq_getElem hlt)
  rw [h] at this
  injection this with this
  rw [this]; simp
/-- A match has a fact for each Pos. -/
theorem ev_pos {fs : List F4} : ∀ (l : List St) (n : Nat) (ch : List F4) (e : Ev), e ∈ evL fs l n ch → e.1 = n + l.length → e.2.length = ch.length + posN l
  | [], n, ch, e, h, _ => by rw [evL_nil] at h; rw [List.mem_singleton.1 h]; simp [posN]
  | s :: r, n, ch, e, h, hf => by
    rw [evL_cons] at h
    rw [List.length_cons] at hf
    rcases List.mem_cons.1 h with rfl | h
    · simp at hf
    · unfold nxt at h
      rw [posN]
      by_cases h1 : s.hd.k = 1
      · rw [if_pos h1] at h
        rw [if_pos h1]
        obtain ⟨g, _, h⟩ := List.mem_flatMap.1 h
        split at h
        · have := ev_pos r (n + 1) (ch ++ [g]) e h (by omega)
          rw [List.length_append] at this
          simp at this
          omega
        · cases h
      · rw [if_neg h1] at h
        rw [if_neg h1]
        split at h
        · cases h
        · have := ev_pos r (n + 1) ch e h (by omega)
          omega
/-- Each match is one of facts, as many as there are Pos. -/
theorem sm_facts {fs : List F4} {l : List St} (hg : ∀ x ∈ l, kindS x) {y : List Int} (hy : y ∈ smL fs l []) : ∃ bs : List F4, bs.map Prod.fst = y ∧ (∀ f ∈ bs, f ∈ fs) ∧ bs.length = posN l := by
  rw [← matchE_sm hg] at hy
  obtain ⟨ch, hch, rfl⟩ := List.mem_map.1 hy
  obtain ⟨e, he, rfl⟩ := List.mem_map.1 hch
  have h1 := List.mem_filter.1 he
  refine ⟨e.2, rfl, fun f hf => (ev_mem l 0 [] e h1.1 f hf).resolve_right (fun h => by cases h), ?_⟩
  have h2 : e.1 = l.length := by
    have := h1.2
    unfold fullE at this
    simpa using this
  have := ev_pos l 0 [] e h1.1 (by omega)
  simpa using this
theorem SHolds.takeA {w : World} {a : Option Addr} {n cap : Nat} {x : List St} (h : SHolds w Any2 (.slice a n cap) x) {m : Nat} (hm : m ≤ n) : SHolds w Any2 (.slice a m cap) (x.take m) := by
  rcases Nat.eq_zero_or_pos m with rfl | hp
  · rw [List.take_zero]; exact .nil _ _
  · have hnx := h.fits
    obtain ⟨⟨hd, sb⟩, hx⟩ : ∃ y, x[0]? = some y := ⟨_, List.getElem?_eq_getElem (by omega)⟩
    obtain ⟨b, o, _, _, _, _, rfl, _⟩ := h.at_ hx
    exact h.take hm
theorem SHolds.dropIf {w : World} {a : Option Addr} {n cap : Nat} {x : List St} (h : SHolds w Any2 (.slice a n cap) x) {m : Nat} (hm : m ≤ n) : SHolds w Any2 (.slice (if cap = m then a else Option.map (fun p => p.add (m * 6)) a) (n - m) (cap - m)) (x.drop m) := by
  have hnx := h.fits
  rcases Nat.lt_or_ge m n with hlt | hge
  · rw [if_neg (by omega)]
    obtain ⟨⟨hd, sb⟩, hx⟩ : ∃ y, x[0]? = some y := ⟨_, List.getElem?_eq_getElem (by omega)⟩
    obtain ⟨b, o, _, _, _, _, rfl, _⟩ := h.at_ hx
    show SHolds w Any2 (.slice (some ((⟨b, o, none⟩ : Addr).add (m * 6))) (n - m) (cap - m)) _
    rw [Addr.add_lit]
    exact h.drop hlt
  · have e0 : n - m = 0 := by omega
    rw [e0, List.drop_eq_nil_of_le (by omega)]
    exact .nil _ _
set_option maxHeartbeats 8000000 in
theorem plainAny_any (nm : ByteArray) (hnm : nm.size ≤ maxLen) (l : List Sh) (a : Option Addr) (cap : Nat) (_hcap : l.length ≤ cap ∧ cap ≤ maxLen) (tA : Option Addr) (nt ct : Nat) (ts : List T3) (x : Int) (hx : 0 ≤ x ∧ x < 256) (w : World) (h : Holds cA w (fun b _ => b < w.heap.size) (.slice a l.length cap) l) (ht : In cT3 3 w tA nt ts) (hm : nt ≤ maxLen) :
    Calls Try.prog 5 #[vRule nm (.slice a l.length cap), .slice tA nt ct, .int .u8 x] w fun e w' => e = .returned (.bool true) ∧ Kept Nil w w' := by
  have hm1 := hm
  unfold maxLen at hm1
  have HA := Lib.hid awakeOK
  have HAn := Lib.hid anyOK
  have CF := Lib.hid (fun W (kW : Kept Nil w W) => fineP_any nm hnm l (fun b _ => b < w.heap.size) a cap nt hm W (h.keptN kW) (fun b o hb => Nat.lt_of_lt_of_le hb kW.size))
  unfold Yes2 at CF
  have CR : Hid (∀ w', Kept Nil w w' → countL l ≤ 16 → Calls Try.prog 12 #[vRule nm (.slice a l.length cap)] w' fun e w'' => ∃ a' cap', e = .returned (vRule nm (.slice a' l.length cap')) ∧ Holds cR w'' (okM w'.heap.size w'') (.slice a' l.length cap') l ∧ Kept Nil w' w'') := Lib.hid fun w' k hc => refRuleOf_any nm l (by omega) _ a cap w' (h.keptN k)
  have CFa := Lib.hid (fun W (kW : Kept Nil w W) (h12 : nt ≤ 12) => facts_any ts tA nt ct 1 (by decide) (by omega) W (ht.kept kW))
  unfold FactsEnd at CFa
  have hts := ht.1
  have HTS := Lib.hid hts
  obtain ⟨len, hlen⟩ : ∃ len, l.length = len := ⟨_, rfl⟩
  rw [hlen] at CF CR ⊢
  have HL := Lib.hid hlen
  have K0 := Lib.hid ((Kept.refl Nil w).alloc (.cells #[.string nm, .slice a len cap] 24))
  have B0 := Lib.hid (Blk.new w 24 #[.string nm, .slice a len cap])
  clear h ht hlen hnm hts hm
  unfold vRule at CF CR ⊢
  go_enter Try.func5, Try.ntmps5
  go_wp2_with fail
  refine (CF.out _ K0.out).mono ?_
  rintro e w1 ⟨b, rfl, k1, hb⟩
  have K1 := Lib.hid (K0.out.trans k1 (fun _ _ g => g))
  have B1 := Lib.hid (B0.out.kept k1 (fun e => e))
  have HB := Lib.hid hb
  clear k1 hb K0 B0 CF
  cases b
  · go_wp2_with fail
    refine (HA.out _).mono ?_
    rintro e w3 ⟨rfl, k3⟩
    go_wp2_with fail
    go_ret
    exact ⟨rfl, K1.out.trans k3 (fun _ _ g => g)⟩
  have HG : Hid (nt ≤ 12 ∧ (countL l ≤ 16 ∧ chkL l 1 = 0 ∧ len ≠ 0) ∧ (nt + 1) ^ posAL l ≤ 3000) := Lib.hid (HB.out rfl)
  clear HB
  go_wp2_with fail
  refine (CFa.out _ K1.out HG.out.1).mono ?_
  rintro e w2 ⟨k2, hfac⟩
  have K2 := Lib.hid (K1.out.trans k2 (fun _ _ g => g))
  have B2 := Lib.hid (B1.out.kept k2 (fun e => e))
  clear k2 B1 CFa
  rcases hfac with ⟨fa, fc, rfl, hrow, hok⟩ | rfl
  rotate_left
  · go_wp2_with fail
    refine (HA.out _).mono ?_
    rintro e w3 ⟨rfl, k3⟩
    go_wp2_with fail
    go_ret
    exact ⟨rfl, K2.out.trans k3 (fun _ _ g => g)⟩
  have HFs := Lib.hid (factsM_ok (d := 1) hok)
  have HFl := Lib.hid ((factsM_len 1 ts).trans HTS.out)
  rw [HTS.out] at hrow
  have HFi := Lib.hid (hrow.toIn cF_len (by decide))
  rw [show ((1 : Nat) : Int) = 1 from rfl] at HFi
  have htl := HTS.out
  have HIx : Hid (∀ (q : Nat) (f : F4), (factsM 1 ts)[q]? = some f → f.1 = 1 + (q : Int)) := Lib.hid fun q f hq => factsM_id hq
  generalize hfs : factsM 1 ts = fs at *
  rw [htl]
  have c0 := B2.out.cell 0
  have c1 := B2.out.cell 1
  simp at c0 c1
  have HGood : Hid (∀ x ∈ l, x.good) := Lib.hid fun x hx => chk_good x 1 (chkL_all.1 HG.out.2.1.2.1 x hx)
  have HCo : Hid ((fs.length + 1) ^ posAL l ≤ 3000) := Lib.hid (by rw [HFl.out]; exact HG.out.2.2)
  have HSt := Lib.hid ((st_good.2 l HGood.out []))
  have HCo2 : Hid ((fs.length + 1) ^ posSL (stL l []) ≤ 3000) := Lib.hid (Nat.le_trans (pow_le_of _ HSt.out.2) HCo.out)
  have HSL : Hid ((stL l []).length = len) := Lib.hid (by rw [stL_length]; exact HL.out)
  have hl16 : len ≤ 16 := by have := length_countL l; have := HG.out.2.1.1; have := HL.out; omega
  have CO : Hid (∀ W ok a cap, Holds cR W ok (.slice a len cap) l → Calls Try.prog 15 #[.slice a len cap] W fun e w' => ∃ a cap, e = .returned (.slice a len cap) ∧ SHolds w' (okM W.heap.size w') (.slice a len cap) (stL l []) ∧ Kept Nil W w') := Lib.hid fun W ok a cap hh => by
    have := refCompile_of of_all l ⟨HG.out.2.1.1, HG.out.2.1.2.1⟩ ok a cap W (by rw [HL.out]; exact hh)
    unfold StsEnd at this
    rw [stL_length, HL.out] at this
    exact this
  have HM : Hid (massL (stL l []) ≤ 64) := Lib.hid (by have := st_mass.2 l []; have := HG.out.2.1.1; omega)
  have HOk := Lib.hid (stL_okS HG.out.2.1.1 HG.out.2.1.2.1)
  have HPs : Hid (posSL (stL l []) ≤ 16) := Lib.hid (by
    have hp : posAL l ≤ 16 := Nat.le_trans (posA_le.2 l) HG.out.2.1.1
    have := HSt.out.2
    omega)
  have CRf := Lib.hid (fun W (hf : In cF 4 W fa nt fs) => refF_any (c := fc) hf (by have := HG.out.1; omega))
  have CS : Hid (∀ W ok a cap, SHolds W ok (.slice a len cap) (stL l []) → Calls Try.prog 14 #[.slice a len cap] W fun e w' => ∃ a cap, e = .returned (.slice a len cap) ∧ SHolds w' (okM W.heap.size w') (.slice a len cap) (stL l []) ∧ Kept Nil W w') := Lib.hid fun W ok a cap hh => by
    have := steps_any (stL l []) (by have := HM.out; omega) ok a cap W (by rw [HSL.out]; exact hh)
    unfold StsEnd at this
    rw [HSL.out] at this
    exact this
  have hn12 : nt ≤ 12 := HG.out.1
  obtain ⟨S, hS⟩ : ∃ S, stL l [] = S := ⟨_, rfl⟩
  rw [hS] at CO CS HOk HPs HSL HCo2
  clear hfs hrow hok htl HGood HCo HSt HM hS
  go_wp2_with fail
  refine (CR.out _ K2.out HG.out.2.1.1).mono ?_
  rintro e w3 ⟨a3, c3, rfl, h3, k3⟩
  have K3 := Lib.hid (K2.out.trans k3 (fun _ _ g => g))
  have H3 := Lib.hid h3
  have F3 := Lib.hid (HFi.out.kept k3)
  have hfld := fieldRule nm a3 len c3
  clear k3 h3 c0 c1 CR HFi B2 K2
  go_wp2_with fail
  refine (CO.out _ _ _ _ H3.out).mono ?_
  rintro e w4 ⟨a4, c4, rfl, h4, k4⟩
  have K4 := Lib.hid (K3.out.trans k4 (fun _ _ g => g))
  have F4' := Lib.hid (F3.out.kept k4)
  have H4 := Lib.hid (h4.mono (ok' := Any2) (fun _ _ _ => trivial))
  have hc4 := h4.fits.2
  clear k4 h4 CO H3 F3 hfld K3
  obtain ⟨k0, hk0, hk0l⟩ : ∃ k0 : Nat, x % ((len : Int) + 1) = (k0 : Int) ∧ k0 ≤ len := by
    refine ⟨(x % ((len : Int) + 1)).toNat, ?_, ?_⟩
    · have := Int.emod_nonneg x (show ((len : Int) + 1) ≠ 0 by omega); omega
    · have := Int.emod_lt_of_pos x (show (0 : Int) < (len : Int) + 1 by omega); omega
  have HK0 := Lib.hid hk0
  clear hk0
  go_upto_block 0 with fail
  go_cut [10] from 42 to 54 (fun v wx => wx = w4 ∧ ∃ k : Nat, v = .int .i64 (k : Int) ∧ k ≤ len ∧ (k = 0 ∨ ∃ s, S[k - 1]? = some s ∧ s.hd.k = 1))
  case first =>
    go_wp2_with fail
    go_loopw [10] (fun v wr => wr = w4 ∧ ∃ k : Nat, v = .int .i64 (k : Int) ∧ k ≤ len) (fun v _ => (intOf v).toNat)
    case atStart => exact ⟨rfl, k0, by rw [HK0.out], hk0l⟩
    case round =>
      obtain ⟨rfl, k, rfl, hk⟩ := hrel
      rcases k with _ | k
      · go_wp2_with fail
        go_meet
        exact ⟨rfl, 0, rfl, Nat.zero_le _, .inl rfl⟩
      · obtain ⟨⟨⟨sk, sk0, sk1, sk2, sts⟩, sb⟩, hxs⟩ : ∃ s, S[k]? = some s := ⟨_, List.getElem?_eq_getElem (by rw [HSL.out]; omega)⟩
        obtain ⟨b, o, ta, tc, ua, uc, rfl, _, hr, _, _⟩ := H4.out.at_ hxs
        have q0 := hr 0 _ rfl
        simp only [Nat.add_zero] at q0
        obtain ⟨N, hN⟩ : ∃ N, k + 1 = N := ⟨_, rfl⟩
        have HN := Lib.hid hN
        have HXs := Lib.hid hxs
        have s1 : IntKind.i64.wrap ((N : Int) - 1) = (k : Int) := by rw [IntKind.wrap_i64]; omega
        have hNp : (0 : Int) < (N : Int) := by omega
        have hNp' : decide (0 < N) = true := decide_eq_true (by omega)
        have hkl : k < len := by omega
        rw [hN] at hk ⊢
        clear hr hxs hN
        by_cases h1 : sk = 1
        · have hne : (sk != 1) = false := by simpa using h1
          have H1 := Lib.hid h1
          clear h1
          go_wp2_with fail
          go_meet
          exact ⟨rfl, N, rfl, hk, .inr ⟨.mk ⟨sk, sk0, sk1, sk2, sts⟩ sb, by rw [← HN.out]; exact HXs.out, H1.out⟩⟩
        · have hne : (sk != 1) = true := bne_iff_ne.2 h1
          clear h1
          go_wp2_with fail
          go_roundw
          case rel => exact ⟨trivial, k, rfl, by omega⟩
          case measure => simp [intOf]; have := HN.out; omega
  case rest =>
    obtain ⟨rfl, k, rfl, hk, hstop⟩ := hcut
    have HBt := Lib.hid (behind_take S k hstop)
    have hkc : k ≤ c4 := by omega
    have CRf2 := Lib.hid (CRf.out wc F4'.out)
    go_wp2_with fail
    refine CRf2.out.mono ?_
    rintro e w5 ⟨a5, c5, rfl, h5, _, k5⟩
    have K5 := Lib.hid (K4.out.trans k5 (fun _ _ g => g))
    have R5 := Lib.hid h5
    have F5 := Lib.hid (F4'.out.kept k5)
    have S5 := Lib.hid (H4.out.keptN k5)
    clear k5 h5 CRf CRf2 K4 F4' H4
    have hgS : ∀ c ∈ S, c.goodS := fun c hc => (HOk.out c hc).1
    have HSd := Lib.hid (fun (y : List Int) (hy : y ∈ smL fs (S.take k) []) => sm_facts (fun c hc => (hgS c (List.mem_of_mem_take hc)).kind) hy)
    have CW : Hid (∀ W, Kept Nil w5 W → Calls Try.prog 20 #[.slice a5 nt c5, .slice a4 k c4, .slice none 0 0] W fun e w' => ∃ r, e = .returned r ∧ LL w' W.heap.size r (smL fs (S.take k) []) ∧ Kept Nil W w') := Lib.hid fun W kW => by
      have hlt : (S.take k).length = k := by rw [List.length_take, HSL.out]; omega
      have hh : SHolds W Any2 (.slice a4 k c4) (S.take k) := (S5.out.keptN kW).takeA hk
      have := steps_all fs (by rw [HFl.out]; exact hn12) (S.take k) (fun c hc => hgS c (List.mem_of_mem_take hc)) (Nat.le_trans (pow_le_of _ (posSL_take S k)) HCo2.out) [] a5 nt c5 a4 c4 none 0 0 W (R5.out.kept kW) (by rw [hlt]; exact hh) ⟨rfl, .inl rfl⟩ (by have := posSL_take S k; have := HPs.out; omega)
      rw [hlt] at this
      exact this
    have CWd : Hid (∀ W (bs : List F4) (ca : Option Addr) (cn cc : Nat), cn ≤ 16 → Kept Nil w5 W → In cF 4 W ca cn bs → Calls Try.prog 20 #[.slice a5 nt c5, .slice (if c4 = k then a4 else Option.map (fun p => p.add (k * 6)) a4) (len - k) (c4 - k), .slice ca cn cc] W fun e w' => ∃ r, e = .returned r ∧ LL w' W.heap.size r (smL fs (S.drop k) bs) ∧ Kept Nil W w') := Lib.hid fun W bs ca cn cc hcn kW hbs => by
      have hlt : (S.drop k).length = len - k := by rw [List.length_drop, HSL.out]
      have hps : posSL (S.drop k) ≤ posSL S := by
        have := posSL_append (S.take k) (S.drop k)
        rw [List.take_append_drop] at this
        omega
      have := steps_all fs (by rw [HFl.out]; exact hn12) (S.drop k) (fun c hc => hgS c (List.mem_of_mem_drop hc)) (Nat.le_trans (pow_le_of _ hps) HCo2.out) bs a5 nt c5 _ (c4 - k) ca cn cc W (R5.out.kept kW) (by rw [hlt]; exact (S5.out.keptN kW).dropIf hk) hbs (by have := HPs.out; omega)
      rw [hlt] at this
      exact this
    have CS5 : Hid (∀ W, Kept Nil w5 W → Calls Try.prog 14 #[.slice a4 len c4] W fun e w' => ∃ a cap, e = .returned (.slice a len cap) ∧ SHolds w' Any2 (.slice a len cap) S ∧ Kept Nil W w') := Lib.hid fun W kW => by
      refine (CS.out W Any2 a4 c4 (S5.out.keptN kW)).mono ?_
      rintro e w' ⟨a', c', rfl, h', k'⟩
      exact ⟨a', c', rfl, h'.mono (fun _ _ _ => trivial), k'⟩
    have CA : Hid (∀ W (bs : List F4) (a : Option Addr) (cap : Nat) (ca : Option Addr) (cn cc : Nat), bs.length = posN (S.take k) → bs.length = cn → Kept Nil w5 W → SHolds W Any2 (.slice a len cap) S → In cF 4 W ca cn bs → Calls Try.prog 24 #[.slice fa nt fc, .slice a len cap, .slice ca cn cc] W fun e w' => e = .returned (.bool (!(smL fs (S.drop k) bs).isEmpty)) ∧ Kept Nil W w') := Lib.hid fun W bs a cap ca cn cc hbs hcn kW hh hb => by
      have hle : bs.length ≤ posN S := by
        have := posN_append (S.take k) (S.drop k)
        rw [List.take_append_drop] at this
        omega
      have := HAn.out fs (by rw [HFl.out]; omega) S HOk.out (by rw [HSL.out]; exact hl16) bs hle fa nt fc a cap ca cn cc W (F5.out.kept kW) (by rw [HSL.out]; exact hh) hb
      rw [HSL.out, hbs, HBt.out] at this
      exact this
    have HMl : Hid ((smL fs (S.take k) []).length ≤ 3000 ∧ posN (S.take k) ≤ 16) := Lib.hid ⟨Nat.le_trans ((sm_len fs).2 (S.take k) []) (Nat.le_trans (pow_le_of _ (posSL_take S k)) HCo2.out), by have := posN_len (S.take k); rw [List.length_take] at this; have := HSL.out; omega⟩
    clear CS hgS HBt hstop
    generalize smL fs (S.take k) [] = M at *
    go_wp2_with fail
    refine (CW.out _ (Kept.refl Nil _)).mono ?_
    rintro e w6 ⟨r6, rfl, h6, k6⟩
    obtain ⟨a6, c6, rfl⟩ := h6.shape
    have K56 := Lib.hid k6
    have L6 := Lib.hid h6.toLIn
    have hmn3 := HMl.out.1
    generalize hmn : M.length = mn at *
    have HMn := Lib.hid hmn
    clear k6 h6 CW hmn
    go_wp2_with fail
    go_loopw [63] (fun i wr => ∃ j : Nat, j ≤ mn ∧ i = .int .i64 (j : Int) ∧ Kept Nil w6 wr) (fun i _ => mn - (intOf i).toNat)
    case atStart => exact ⟨0, Nat.zero_le _, rfl, Kept.refl _ _⟩
    case round =>
      obtain ⟨j, hj, rfl, hK⟩ := hrel
      have HK := Lib.hid hK
      clear hK
      by_cases hlt : j < mn
      rotate_left
      · obtain rfl : j = mn := by omega
        go_wp2_with fail
        refine (HA.out _).mono ?_
        rintro e w9 ⟨rfl, k9⟩
        go_wp2_with fail
        go_ret
        exact ⟨rfl, ((K5.out.trans K56.out (fun _ _ g => g)).trans HK.out (fun _ _ g => g)).trans k9 (fun _ _ g => g)⟩
      obtain ⟨y, hy⟩ : ∃ y, M[j]? = some y := ⟨_, List.getElem?_eq_getElem (by rw [HMn.out]; exact hlt)⟩
      obtain ⟨bs, hbs1, hbs2, hbs3⟩ := HSd.out y (List.mem_of_getElem? hy)
      obtain ⟨b, o, a', n', c', rfl, hb1, hc, hi⟩ := (L6.out.kept HK.out).at_ hy
      have hn' : bs.length = n' := by rw [← hi.1, ← hbs1, List.length_map]
      have hn16 : n' ≤ 16 := by rw [← hn', hbs3]; exact HMl.out.2
      have HBs := Lib.hid (And.intro hbs1 (And.intro hbs2 (And.intro hbs3 hn')))
      have HY := Lib.hid hi
      rename World => wo
      clear hy hbs1 hbs2 hbs3 hi hn'
      go_wp2_with fail
      go_loopw [14, 69] (fun v i wr => ∃ (q : Nat) (ia : Option Addr) (ic : Nat), q ≤ n' ∧ i = .int .i64 (q : Int) ∧ v = .slice ia q ic ∧ Row cF 62 4 wr wo.heap.size (.slice ia q ic) (bs.take q) ∧ Kept Nil wo wr) (fun _ i _ => n' - (intOf i).toNat)
      case atStart => exact ⟨0, none, 0, Nat.zero_le _, rfl, rfl, Row.nil _ _, Kept.refl _ _⟩
      case round =>
        obtain ⟨q, ia, ic, hq, rfl, rfl, hR, hK2⟩ := hrel
        have HR := Lib.hid hR
        have HK2 := Lib.hid hK2
        have HQl : Hid ((bs.take q).length = q) := Lib.hid (by rw [List.length_take, HBs.out.2.2.2]; omega)
        clear hR hK2
        by_cases hqn : q < n'
        · obtain ⟨⟨f0, f1, f2, f3⟩, hf⟩ : ∃ f, bs[q]? = some f := ⟨_, List.getElem?_eq_getElem (by rw [HBs.out.2.2.2]; exact hqn)⟩
          obtain ⟨p, hp⟩ := List.getElem?_of_mem (HBs.out.2.1 _ (List.mem_of_getElem? hf))
          have hid := HIx.out p _ hp
          simp only at hid
          have hy : y[q]? = some f0 := by rw [← HBs.out.1, List.getElem?_map, hf]; rfl
          obtain ⟨by', oy, rfl, hby, hcy⟩ := (HY.out.kept HK2.out).at_ hy
          have d0 := hcy 0 _ rfl
          have hpn : p < nt := by have := (List.getElem?_eq_some_iff.1 hp).1; rw [HFl.out] at this; exact this
          have KW : Kept Nil w5 wr := (K56.out.trans HK.out (fun _ _ g => g)).trans HK2.out (fun _ _ g => g)
          obtain ⟨bf, of, rfl, hbf, p0, p1, p2, p3⟩ := (F5.out.kept KW).four hp
          have HTk := Lib.hid (show bs.take (q + 1) = bs.take q ++ [(f0, f1, f2, f3)] from by rw [List.take_add_one, hf]; rfl)
          have s1 : IntKind.i64.wrap (f0 - 1) = (p : Int) := by rw [IntKind.wrap_i64]; omega
          simp only [Nat.add_zero, Nat.mul_one] at d0
          simp only at p0 p1 p2 p3
          have kA : Kept Nil wr (wr.alloc (.cells #[.int .i64 f0, .int .i64 f1, .int .i64 f2, .int .i64 f3] 62)) := (Kept.refl Nil wr).alloc _
          obtain ⟨a8, c8, w8, r8, o8, k8, _⟩ := (HR.out.keptN kA).pushLit elsA4 cF_len cF_one 28 (by rw [HQl.out]; omega) (Nat.le_trans HK2.out.size kA.size) (x := (f0, f1, f2, f3)) (Blk.new _ _ _) rfl
          rw [HQl.out] at r8 o8
          have R8 := Lib.hid r8
          have H8 := Lib.hid (And.intro o8 ((HK2.out.trans kA (fun _ _ g => g)).trans k8 (fun i hi e => absurd e.2 (Nat.not_le.2 hi))))
          clear hf hp hid hy hcy kA r8 o8 k8
          go_wp2_with (at_builtin; refine wpList_append_run rfl (.tmp 73) (.tmp 79) 28 rfl _ _ rfl rfl R8.out ?_)
          go_roundw
          case rel => exact ⟨q + 1, a8, c8, by omega, by go_num, rfl, by rw [HTk.out]; exact H8.out.1, H8.out.2⟩
          case measure => simp [intOf]; omega
        · obtain rfl : q = n' := by omega
          have hTq : bs.take q = bs := List.take_of_length_le (by rw [HBs.out.2.2.2]; exact Nat.le_refl _)
          have R8 := Lib.hid (by have := HR.out.toIn cF_len (by decide); rw [hTq] at this; exact this)
          have KW := Lib.hid ((K56.out.trans HK.out (fun _ _ g => g)).trans HK2.out (fun _ _ g => g))
          clear hTq
          go_upto_region 20 with fail
          have KD : Kept Nil w5 wr.drew := KW.out.trans (Kept.refl Nil wr).drew (fun _ _ g => g)
          have CR2 := Lib.hid (refF_any (c := ic) (R8.out.kept (Kept.refl Nil wr).drew) (by omega))
          have CW2 : Hid (∀ w8 a8 c8, In cF 4 w8 a8 q bs → Kept Nil wr.drew w8 → Calls Try.prog 20 #[.slice a5 nt c5, .slice (if c4 = k then a4 else Option.map (fun p => p.add (k * 6)) a4) (len - k) (c4 - k), .slice a8 q c8] w8 fun e w' => ∃ a9 c9, e = .returned (.slice a9 (smL fs (S.drop k) bs).length c9) ∧ Kept Nil wr.drew w') := Lib.hid fun w8 a8 c8 h8 k8 => by
            refine (CWd.out w8 bs a8 q c8 hn16 (KD.trans k8 (fun _ _ g => g)) h8).mono ?_
            rintro e w9 ⟨r9, rfl, h9, k9⟩
            obtain ⟨a9, c9, rfl⟩ := h9.shape
            exact ⟨a9, c9, rfl, k8.trans k9 (fun _ _ g => g)⟩
          have KD' := Lib.hid KD
          obtain ⟨L, hL⟩ : ∃ L, smL fs (S.drop k) bs = L := ⟨_, rfl⟩
          rw [hL] at CW2
          have HLq := Lib.hid hL
          clear CWd KD HR hL
          go_region_law (first
            | (go_simp; go_at_call 18; refine CR2.out.mono ?_; rintro e w8 ⟨a8, c8, rfl, h8, _, k8⟩; have C8 := Lib.hid (CW2.out w8 a8 c8 h8 k8); clear h8 k8 CR2)
            | (go_simp; go_at_call 20; refine C8.out.mono ?_; rintro e w9 ⟨a9, c9, rfl, k9⟩))
          generalize (if c4 = k then a4 else Option.map (fun p => p.add (k * 6)) a4) = sa
          have K9 := Lib.hid (KD'.out.trans k9 (fun _ _ g => g))
          have R9 := Lib.hid (R8.out.kept ((Kept.refl Nil wr).drew.trans k9 (fun _ _ g => g)))
          have K0 := Lib.hid ((HK2.out.trans (Kept.refl Nil wr).drew (fun _ _ g => g)).trans k9 (fun _ _ g => g))
          have HLt := Lib.hid hlt
          have HLm := Lib.hid hmn3
          clear k9 R8 KW KD' CW2 C8 hc hq hqn hlt hj hmn3
          go_wp2_with fail
          refine (CS5.out _ K9.out).mono ?_
          rintro e w10 ⟨a10, c10, rfl, h10, k10⟩
          have S10 := Lib.hid h10
          have R10 := Lib.hid (R9.out.kept k10)
          have K10 := Lib.hid (K9.out.trans k10 (fun _ _ g => g))
          have K1 := Lib.hid (K0.out.trans k10 (fun _ _ g => g))
          clear k10 h10 R9 K9 K0
          go_wp2_with fail
          refine (CA.out _ bs a10 c10 ia q ic HBs.out.2.2.1 HBs.out.2.2.2 K10.out S10.out R10.out).mono ?_
          rintro e w11 ⟨rfl, k11⟩
          rw [HLq.out]
          have K11 := Lib.hid (HK.out.trans (K1.out.trans k11 (fun _ _ g => g)) (fun _ _ g => g))
          have hne : (!((!L.isEmpty) == decide (0 < L.length))) = false := by cases L <;> simp
          have hlt := HLt.out
          have hmn3 := HLm.out
          have hw : -(2 : Int) ^ 63 ≤ (j : Int) + 1 ∧ (j : Int) + 1 < 2 ^ 63 := by omega
          go_wp2_with fail
          first
            | (go_roundw
               case rel => exact ⟨j + 1, by omega, by go_num, K11.out⟩
               case measure => simp [intOf]; omega)
            | (rw [show wrap64 ((j : Int) + 1) = (j : Int) + 1 by go_num]
               refine ⟨⟨j + 1, by omega, by go_num, K11.out⟩, ?_⟩
               simp [intOf]; omega)
            | (rw [show wrap64 ((j : Int) + 1) = (j : Int) + 1 by unfold wrap64; omega]
               refine ⟨⟨j + 1, by omega, by go_num, K11.out⟩, ?_⟩
               simp [intOf]; omega)
            | (refine ⟨⟨j + 1, by omega, by go_num, K11.out⟩, ?_⟩
               simp [intOf]; omega)
end Go.Proofs.Ytmpoeibkndcnnaa
