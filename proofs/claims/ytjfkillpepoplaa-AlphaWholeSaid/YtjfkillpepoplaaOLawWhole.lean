/- Whatever the triples, the keys and what goes, AlphaWhole returns true, and writes nothing that was there. -/
import Derived.Test.YtjfkillpepoplaaOWholeR
import Derived.Test.YtjfkillpepoplaaOOpen
import Derived.BigRegion
import Derived.Deep.DeepCutAuto
import Derived.Deep.AppendLies
import Derived.Deep.RegionLaw
namespace Go.Proofs.Ytjfkillpepoplaa
open Go.RowKit Go.Maps Go.WideMaps
set_option maxRecDepth 100000

/-- The state of the law's second loop, behind some of its triples. -/
structure WS (w0 w : World) (p n2 : Nat) (a : Option Addr) (c : Nat) (fs : List F4) (l : List T3) (L : List Mem) (F : Nat → Prop) : Prop where
  sn : SN w0 w F p l L
  row : Row cF 51 4 w w0.heap.size (.slice a n2 c) fs
  len : fs.length = n2
  away : ∀ b, (Value.slice a n2 c).ownBlock = some b → ¬ F b
  up : Up fs
  inv : Inv L fs
  ok : ∀ f ∈ fs, K3.ok f.2
theorem WS.keptN {w0 w w' : World} {p n2 : Nat} {a : Option Addr} {c : Nat} {fs : List F4} {l : List T3} {L : List Mem} {F : Nat → Prop} (h : WS w0 w p n2 a c fs l L F) (k : Kept Nil w w') : WS w0 w' p n2 a c fs l L F :=
  ⟨h.sn.keptN k, h.row.keptN k, h.len, h.away, h.up, h.inv, h.ok⟩
theorem WS.isIn {w0 w : World} {p n2 : Nat} {a : Option Addr} {c : Nat} {fs : List F4} {l : List T3} {L : List Mem} {F : Nat → Prop} (h : WS w0 w p n2 a c fs l L F) : In cF 4 w a n2 fs := h.row.toIn cF_len (by decide)
/-- A key wanted, with the facts that there are. -/
theorem WS.want {w0 w w' : World} {p n2 : Nat} {a : Option Addr} {c : Nat} {fs : List F4} {l : List T3} {L : List Mem} {F : Nat → Prop} (h : WS w0 w p n2 a c fs l L F) {k : T3} (g : SGrew w w' F p (l ++ [k]) (wantL L k fs)) : ∃ F', WS w0 w' p n2 a c fs (l ++ [k]) (wantL L k fs) F' ∧ (∀ b, F' b → F b ∨ w.heap.size ≤ b) ∧ Kept F w w' := by
  obtain ⟨F', s, up, kk⟩ := h.sn.grew g
  refine ⟨F', ⟨s, h.row.keptF kk h.away, h.len, fun b hb hF => ?_, h.up, h.inv.want h.up k, h.ok⟩, up, kk⟩
  rcases up b hF with e | e
  · exact h.away b hb e
  · exact absurd (h.row.lt b hb).2 (Nat.not_lt.2 e)
theorem WS.turn {w0 w w' : World} {p n2 : Nat} {a : Option Addr} {c : Nat} {fs : List F4} {l : List T3} {L L' : List Mem} {F : Nat → Prop} (h : WS w0 w p n2 a c fs l L F) (g : SSame w w' F p l L') : SN w0 w' F p l L' ∧ Row cF 51 4 w' w0.heap.size (.slice a n2 c) fs :=
  ⟨h.sn.same g, h.row.keptF g.2 h.away⟩

theorem SN.keptO {w0 w w' : World} {F : Nat → Prop} {p : Nat} {l : List T3} {L : List Mem} {G : Nat → Prop} (h : SN w0 w F p l L) (k : Kept G w w') (h1 : ∀ b, G b → ¬ F b) (h2 : ∀ b, G b → w0.heap.size ≤ b) : SN w0 w' F p l L :=
  ⟨h.sto.kept k (fun b hb hG => h1 b hG hb), h.low, h.kept.trans k (fun i hi e => absurd hi (Nat.not_lt.2 (h2 i e)))⟩
/-- A fact more in the row. -/
theorem WS.push {w0 w : World} {p n2 : Nat} {a : Option Addr} {c : Nat} {fs : List F4} {l : List T3} {L : List Mem} {F : Nat → Prop} (sn : SN w0 w F p l L) (row : Row cF 51 4 w w0.heap.size (.slice a n2 c) fs) (len : fs.length = n2) (away : ∀ b, (Value.slice a n2 c).ownBlock = some b → ¬ F b) {f : F4} (up : Up (fs ++ [f])) (inv : Inv L (fs ++ [f])) (ok : ∀ g ∈ fs ++ [f], K3.ok g.2) (hn : n2 ≤ 100) :
    ∃ a' c' w', (Builtin.append_ #[32, 32] 32 #[.slice a n2 c, .slice (some ⟨w.heap.size, 0, none⟩) 1 1]).run Try.prog (w.alloc (.cells #[.int .i64 f.1, .int .i64 f.2.1, .int .i64 f.2.2.1, .int .i64 f.2.2.2] 51)) = .ok (.slice a' (n2 + 1) c') w' ∧ WS w0 w' p (n2 + 1) a' c' (fs ++ [f]) l L F := by
  obtain ⟨a', c', w', r, row', kk, hor⟩ := row.pushO elsF cF_len cF_one 32 len.symm (by omega) sn.kept.size f #[.int .i64 f.1, .int .i64 f.2.1, .int .i64 f.2.2.1, .int .i64 f.2.2.2] rfl
  refine ⟨a', c', w', r, ⟨sn.keptO kk away (fun b hb => (row.lt b hb).1), row', by rw [List.length_append, len]; rfl, fun b hb hF => ?_, up, inv, ok⟩⟩
  rcases hor b hb with e | e
  · exact away b e hF
  · exact absurd (sn.inF hF) (Nat.not_lt.2 e)

set_option maxHeartbeats 16000000 in
theorem alphaWhole_any (a : Option Addr) (n c : Nat) (l : List T3) (am : Option Addr) (m cm : Nat) (wl : List T3) (ag : Option Addr) (u cg : Nat) (gl : List Int) (w : World) (h : In cT 3 w a n l) (hl : ∀ t ∈ l, K3.ok t) (hm : n ≤ maxLen) (hw : In cT 3 w am m wl) (hwl : ∀ t ∈ wl, K3.ok t) (hmm : m ≤ maxLen) (hg : In cB 1 w ag u gl) (hgl : ∀ y ∈ gl, 0 ≤ y ∧ y < 256) (hgm : u ≤ maxLen) :
    Calls Try.prog 4 #[.slice a n c, .slice am m cm, .slice ag u cg] w fun e w' => e = .returned (.bool true) ∧ Kept Nil w w' := by
  unfold maxLen at hm hmm hgm
  have HIn := Lib.hid h
  have HL := Lib.hid hl
  have HWn := Lib.hid hw
  have HWL := Lib.hid hwl
  have HGn := Lib.hid hg
  have HGL := Lib.hid hgl
  clear h hl hw hwl hg hgl
  go_enter Try.func4, Try.ntmps4
  go_wp2_with fail
  refine (new_any w).mono ?_
  rintro e w1 ⟨rfl, s1, k1⟩
  have H1 := Lib.hid (show SN w w1 (fun i => i = w.heap.size) w.heap.size [] [] from ⟨s1, fun k e => by rw [e]; exact Nat.le_refl _, k1⟩)
  clear s1 k1
  generalize hp : w.heap.size = p at *
  have HP := Lib.hid hp
  clear hp
  by_cases hbig : n ≤ 40 ∧ m ≤ 20 ∧ u ≤ 40
  rotate_left
  · have hd : decide (40 < (n : Int)) = true ∨ (decide (40 < (n : Int)) = false ∧ (decide (20 < (m : Int)) = true ∨ (decide (20 < (m : Int)) = false ∧ decide (40 < (u : Int)) = true))) := by
      by_cases h1 : 40 < n
      · exact .inl (decide_eq_true (by omega))
      · right
        refine ⟨decide_eq_false (by omega), ?_⟩
        by_cases h2 : 20 < m
        · exact .inl (decide_eq_true (by omega))
        · exact .inr ⟨decide_eq_false (by omega), decide_eq_true (by omega)⟩
    clear hbig
    rcases hd with hd | ⟨hd1, hd | ⟨hd2, hd⟩⟩
    all_goals
      go_wp2_with fail
      refine (awake_any _).mono ?_
      rintro e w2 ⟨rfl, k2⟩
      go_wp2_with fail
      go_ret
      exact ⟨rfl, H1.out.kept.trans k2 (fun _ _ g => g)⟩
  obtain ⟨hn40, hm20, hu40⟩ := hbig
  have hd1 : decide (40 < (n : Int)) = false := decide_eq_false (by omega)
  have hd2 : decide (20 < (m : Int)) = false := decide_eq_false (by omega)
  have hd3 : decide (40 < (u : Int)) = false := decide_eq_false (by omega)
  go_wp2_with fail
  clear hd1 hd2 hd3
  go_loopw [45] (fun i wr => ∃ j : Nat, j ≤ m ∧ i = .int .i64 j ∧ SN w wr (fun i => i = p) p [] []) (fun i _ => m - (intOf i).toNat)
  case atStart => exact ⟨0, Nat.zero_le _, rfl, H1.out⟩
  case round =>
    obtain ⟨j, hj, rfl, hS⟩ := hrel
    have HS := Lib.hid hS
    clear hS
    by_cases hjm : j < m
    · obtain ⟨⟨x, y, z⟩, ht⟩ : ∃ t, wl[j]? = some t := ⟨wl[j]'(by rw [HWn.out.1]; exact hjm), by simp⟩
      obtain ⟨bf, of, e, hbf, f0, f1, f2⟩ := (HWn.out.kept HS.out.kept).three ht
      subst e
      simp only at f0 f1 f2
      have HSb := Lib.hid (HS.out.keptN (Box.new wr (x, y, z)).kept)
      clear ht
      go_wp2_with fail
      refine (kRefRight_any (x, y, z) _).mono ?_
      rintro e w5 ⟨rfl, k5⟩
      have H5 := Lib.hid (HSb.out.keptN k5)
      clear k5 HSb f0 f1 f2
      by_cases htt : okKT (x, y, z) = true
      · rw [htt]
        go_wp2_with fail
        go_roundw
        case rel => exact ⟨j + 1, hjm, by go_num, H5.out⟩
        case measure => simp [intOf]; omega
      · have htt' : okKT (x, y, z) = false := by simpa using htt
        rw [htt']
        go_wp2_with fail
        refine (awake_any _).mono ?_
        rintro e w6 ⟨rfl, k6⟩
        go_wp2_with fail
        go_ret
        exact ⟨rfl, H5.out.kept.trans k6 (fun _ _ g => g)⟩
    · obtain rfl : m = j := by omega
      go_wp2_with fail
      go_loopw [10, 56] (fun v i wr => ∃ (j n2 : Nat) (a2 : Option Addr) (c2 : Nat) (fs : List F4) (ll : List T3) (L : List Mem) (F : Nat → Prop), j ≤ n ∧ i = .int .i64 j ∧ v = .slice a2 n2 c2 ∧ WS w wr p n2 a2 c2 fs ll L F ∧ n2 ≤ j ∧ ll.length ≤ j ∧ (∀ f ∈ fs, 1 ≤ f.1 ∧ f.1 ≤ j) ∧ ∀ i k, i < j → wl[i]? = some k → k ∈ keysL L) (fun _ i _ => n - (intOf i).toNat)
      case atStart => exact ⟨0, 0, none, 0, [], [], [], _, Nat.zero_le _, rfl, rfl, ⟨HS.out, Row.nil _ _, rfl, (fun b hb => by cases hb), List.Pairwise.nil, (fun m hm => by cases hm), (fun f hf => by cases hf)⟩, Nat.le_refl _, Nat.le_refl _, (fun f hf => by cases hf), fun i k hi => absurd hi (Nat.not_lt_zero _)⟩
      case round =>
        clear H1 HS
        obtain ⟨j, n2, a2, c2, fs, ll, L, F, hj, rfl, rfl, hW, hn2, hll, hfs, hks⟩ := hrel
        have HW := Lib.hid hW
        have HF := Lib.hid (And.intro hfs hks)
        clear hW hfs hks
        by_cases hjn : j < n
        · obtain ⟨⟨x, y, z⟩, ht⟩ : ∃ t, l[j]? = some t := ⟨l[j]'(by rw [HIn.out.1]; exact hjn), by simp⟩
          obtain ⟨bf, of, e, hbf, f0, f1, f2⟩ := (HIn.out.kept HW.out.sn.kept).three ht
          subst e
          have HOT := Lib.hid (HL.out (x, y, z) (List.mem_of_getElem? ht))
          simp only at f0 f1 f2
          clear ht
          have HWb := Lib.hid (HW.out.keptN (Box.new wr (x, y, z)).kept)
          have HBx := Lib.hid (Box.new wr (x, y, z))
          have hbF : ¬ F wr.heap.size := fun e => Nat.lt_irrefl _ (HW.out.sn.inF e)
          go_wp2_with fail
          refine (refRight_any (x, y, z) _).mono ?_
          rintro e w5 ⟨rfl, k5⟩
          have HW5 := Lib.hid (HWb.out.keptN k5)
          have HB5 := Lib.hid (HBx.out.three.kept k5 (fun e => e))
          have hbs : wr.heap.size < w5.heap.size := World.block_lt_of_cell? w5 _ HB5.out.1
          clear k5 HWb HBx f0 f1 f2
          by_cases htt : okT (x, y, z) = true
          rotate_left
          · have htt' : okT (x, y, z) = false := by simpa using htt
            rw [htt']
            go_wp2_with fail
            refine (awake_any _).mono ?_
            rintro e w6 ⟨rfl, k6⟩
            go_wp2_with fail
            go_ret
            exact ⟨rfl, HW5.out.sn.kept.trans k6 (fun _ _ g => g)⟩
          rw [htt]
          clear htt HW
          generalize hbx : wr.heap.size = bx at *
          clear hbx
          by_cases hjw : j < m
          · obtain ⟨⟨kx, ky, kz⟩, hk⟩ : ∃ k, wl[j]? = some k := ⟨wl[j]'(by rw [HWn.out.1]; exact hjw), by simp⟩
            obtain ⟨bw, ow, e, hbw, f0, f1, f2⟩ := (HWn.out.kept HW5.out.sn.kept).three hk
            subst e
            have HKK := Lib.hid hk
            have HC := Lib.hid (wantS_any (c := c2) (k := (kx, ky, kz)) HW5.out.sn.sto (by omega) (HWL.out _ (List.mem_of_getElem? hk)) HW5.out.isIn (fun f hf => by have := HF.out.1 f hf; exact WalkArith.wf_i64 (by omega)) (by omega) (.inr HW5.out.away))
            simp only at f0 f1 f2
            clear hk
            go_wp2_with fail
            refine HC.out.mono ?_
            rintro e w6 ⟨rfl, g6⟩
            obtain ⟨F6, W6, up6, kk6⟩ := HW5.out.want g6
            have HW6 := Lib.hid W6
            have HB6 := Lib.hid (HB5.out.kept kk6 hbF)
            have hkw := keys_want L (kx, ky, kz) fs
            have HK6 := Lib.hid (show ∀ i k, i < j + 1 → wl[i]? = some k → k ∈ keysL (wantL L (kx, ky, kz) fs) from fun i k hi hk => by
              by_cases e : i = j
              · subst e
                rw [HKK.out] at hk
                injection hk with hk
                rw [← hk]; exact hkw.1
              · exact hkw.2 k (HF.out.2 i k (by omega) hk))
            have hll6 : (ll ++ [(kx, ky, kz)]).length ≤ j + 1 := by rw [List.length_append]; simp; omega
            generalize wantL L (kx, ky, kz) fs = L6 at *
            generalize ll ++ [(kx, ky, kz)] = ll6 at *
            clear g6 W6 up6 kk6 HC hkw f0 f1 f2 HW5 HB5
            have hj40 : j < 40 := by omega
            have HBX := Lib.hid (HW6.out.keptN ((Kept.refl Nil w6).alloc (.cells #[.int .i64 ((j : Int) + 1), .int .i64 x, .int .i64 y, .int .i64 z] 51)))
            have hb6 : ¬ F6 w6.heap.size := fun e => Nat.lt_irrefl _ (HW6.out.sn.inF e)
            have HA := Lib.hid (addS_any (i := (j : Int) + 1) (t := (x, y, z)) (q := 40) HBX.out.sn.sto (WalkArith.wf_i64 (by omega)) HOT.out (HW6.out.inv.few (by rw [HW6.out.len]; omega)) (by omega))
            have ⟨b0, b1, b2⟩ := HB6.out
            go_wp2_with fail
            refine HA.out.mono ?_
            rintro e w7 ⟨a7, c7, rfl, r7, s7⟩
            obtain ⟨n7, row7⟩ := HBX.out.turn s7
            have hsz6 : w6.heap.size < (w6.alloc (.cells #[.int .i64 ((j : Int) + 1), .int .i64 x, .int .i64 y, .int .i64 z] 51)).heap.size := by simp
            have g0 := (s7.2.cell (p := ⟨w6.heap.size, 0, none⟩) hsz6 hb6).trans (by go_simp : _ = some (Value.int .i64 ((j : Int) + 1)))
            have g1 := (s7.2.cell (p := ⟨w6.heap.size, 1, none⟩) hsz6 hb6).trans (by go_simp : _ = some (Value.int .i64 x))
            have g2 := (s7.2.cell (p := ⟨w6.heap.size, 2, none⟩) hsz6 hb6).trans (by go_simp : _ = some (Value.int .i64 y))
            have g3 := (s7.2.cell (p := ⟨w6.heap.size, 3, none⟩) hsz6 hb6).trans (by go_simp : _ = some (Value.int .i64 z))
            have hfsl : ∀ f ∈ fs, f.1 < (j : Int) + 1 := fun f hf => by have := HF.out.1 f hf; omega
            have hsh := keys_shape (shape_run (ans := fun L k => canPut L k ((j : Int) + 1)) (act := fun L k => putL L k ((j : Int) + 1)) (fun L k => shape_put L k _) (touched L6 (x, y, z)) L6)
            obtain ⟨a8, c8, w8, r8, HW8'⟩ := WS.push (f := ((j : Int) + 1, x, y, z)) n7 row7 HW6.out.len HW6.out.away (HW6.out.up.snoc hfsl) (HW6.out.inv.add hfsl) (fun g hg => by
              rcases List.mem_append.1 hg with h | h
              · exact HW6.out.ok g h
              · rw [List.mem_singleton.1 h]; exact HOT.out) (by omega)
            have R8 := Lib.hid r8
            obtain ⟨n3, hn3⟩ : ∃ n3, n3 = n2 + 1 := ⟨_, rfl⟩
            rw [← hn3] at HW8' R8
            generalize (runK (fun L k => canPut L k ((j : Int) + 1)) (fun L k => putL L k ((j : Int) + 1)) (touched L6 (x, y, z)) L6).1 = L8 at *
            have HW8 := Lib.hid HW8'
            have HK8 := Lib.hid (show ∀ i k, i < j + 1 → wl[i]? = some k → k ∈ keysL L8 from fun i k hi hk => by rw [hsh]; exact HK6.out i k hi hk)
            have HF8 := Lib.hid (show ∀ f ∈ fs ++ [((j : Int) + 1, x, y, z)], 1 ≤ f.1 ∧ f.1 ≤ ((j + 1 : Nat) : Int) from fun f hf => by
              rcases List.mem_append.1 hf with h | h
              · have := HF.out.1 f h; omega
              · rw [List.mem_singleton.1 h]; simp; omega)
            have hn31 : n3 ≤ j + 1 := by omega
            have hn30 : 0 < n3 := by omega
            generalize fs ++ [((j : Int) + 1, x, y, z)] = fs8 at *
            clear r7 s7 n7 row7 HW8' hsh r8 HBX HA hsz6 b0 b1 b2 hfsl hn3 HB6
            by_cases hju : j < u
            rotate_left
            · go_wp2_with (at_builtin; refine wpList_append_run rfl (.tmp 83) (.tmp 85) 32 rfl _ _ rfl rfl R8.out ?_)
              go_roundw
              case rel => exact ⟨j + 1, n3, a8, c8, fs8, _, L8, F6, hjn, by go_num, rfl, HW8.out, hn31, hll6, HF8.out, HK8.out⟩
              case measure => simp [intOf]; omega
            obtain ⟨yg, hyg⟩ : ∃ y, gl[j]? = some y := ⟨gl[j]'(by rw [HGn.out.1]; exact hju), by simp⟩
            obtain ⟨bg, og, e, hbg, hcg⟩ := (HGn.out.kept HW8.out.sn.kept).at_ hyg
            subst e
            have q0 := hcg 0 _ rfl
            rw [Nat.mul_one, Nat.add_zero] at q0
            obtain ⟨hy0, hy1⟩ := HGL.out yg (List.mem_of_getElem? hyg)
            clear hyg hcg
            by_cases h3 : yg % 3 = 0
            rotate_left
            · have h3' : (yg % 3 == 0) = false := by simpa using h3
              go_wp2_with (at_builtin; refine wpList_append_run rfl (.tmp 83) (.tmp 85) 32 rfl _ _ rfl rfl R8.out ?_)
              go_roundw
              case rel => exact ⟨j + 1, n3, a8, c8, fs8, _, L8, F6, hjn, by go_num, rfl, HW8.out, hn31, hll6, HF8.out, HK8.out⟩
              case measure => simp [intOf]; omega
            have h3' : (yg % 3 == 0) = true := by simpa using h3
            have hwy : IntKind.i64.wrap yg = yg := by rw [IntKind.wrap_i64]; omega
            obtain ⟨q, hq⟩ : ∃ q : Nat, yg % (n3 : Int) = (q : Int) := ⟨(yg % n3).toNat, by have := Int.emod_nonneg yg (show (n3 : Int) ≠ 0 by omega); omega⟩
            have hq3 : q < n3 := by have := Int.emod_lt_of_pos yg (show (0 : Int) < n3 by omega); omega
            obtain ⟨⟨fi, fx, fy, fz⟩, hfq⟩ : ∃ f, fs8[q]? = some f := ⟨fs8[q]'(by rw [HW8.out.len]; exact hq3), by simp⟩
            obtain ⟨g8, ha8, hc8, hc8m⟩ := HW8.out.row.addr hn30
            subst ha8
            obtain ⟨b8, o8, e8, hb8, p0, p1, p2, p3⟩ := HW8.out.isIn.four hfq
            cases e8
            have HFQ := Lib.hid hfq
            have hfi := HF8.out _ (List.mem_of_getElem? hfq)
            have HR := Lib.hid (removeS_any (i := fi) (t := (fx, fy, fz)) (q := 41) HW8.out.sn.sto (WalkArith.wf_i64 (by simp only at hfi; omega)) (HW8.out.ok _ (List.mem_of_getElem? hfq)) (HW8.out.inv.few (by rw [HW8.out.len]; omega)) (by omega))
            rw [Nat.zero_add] at p0 p1 p2 p3
            simp only at p0 p1 p2 p3
            have hnz : ((n3 : Int) == 0) = false := by simp; omega
            clear hfq hfi
            go_wp2_with (at_builtin; refine wpList_append_run rfl (.tmp 83) (.tmp 85) 32 rfl _ _ rfl rfl R8.out ?_)
            refine HR.out.mono ?_
            rintro e w9 ⟨a9, c9, rfl, r9, s9⟩
            obtain ⟨n9, row9⟩ := HW8.out.turn s9
            have HI9 := Lib.hid (HW8.out.inv.rem HW8.out.up HFQ.out)
            have hsh := keys_shape (shape_run (ans := fun L k => canTake L k fi) (act := fun L k => takeL L k fi) (fun L k => shape_take L k _) (touched L8 (fx, fy, fz)) L8)
            have HK9 := Lib.hid (show ∀ i k, i < j + 1 → wl[i]? = some k → k ∈ keysL (runK (fun L k => canTake L k fi) (fun L k => takeL L k fi) (touched L8 (fx, fy, fz)) L8).1 from fun i k hi hk => by rw [hsh]; exact HK8.out i k hi hk)
            generalize (runK (fun L k => canTake L k fi) (fun L k => takeL L k fi) (touched L8 (fx, fy, fz)) L8).1 = L9 at *
            have H9 := Lib.hid (And.intro n9 row9)
            obtain ⟨n4, hn4⟩ : ∃ n4, n3 = n4 + 1 := ⟨n3 - 1, by omega⟩
            obtain ⟨i1, hi1⟩ : ∃ i1, i1 = q + 1 := ⟨_, rfl⟩
            have hi1' : (q : Int) + 1 = (i1 : Int) := by omega
            have hi1n : i1 ≤ n3 := by omega
            have hwi : IntKind.i64.wrap (i1 : Int) = (i1 : Int) := by rw [IntKind.wrap_i64]; omega
            have hi10 : (0 : Int) ≤ (i1 : Int) := by omega
            have hi1c : (i1 : Int) ≤ (c8 : Int) := by omega
            have hq4 : q ≤ n4 := by omega
            have hn41 : n4 ≤ j + 1 := by omega
            have hn45 : n4 ≤ 5000 := by omega
            have HF9 := Lib.hid (show ∀ f ∈ fs8.take q ++ fs8.drop (q + 1), 1 ≤ f.1 ∧ f.1 ≤ ((j + 1 : Nat) : Int) from fun f hf => HF8.out f (less_mem hf))
            have HU9 := Lib.hid (HW8.out.up.less q)
            have HO9 := Lib.hid (show ∀ f ∈ fs8.take q ++ fs8.drop (q + 1), K3.ok f.2 from fun f hf => HW8.out.ok f (less_mem hf))
            have HL9 := Lib.hid (show (fs8.take q ++ fs8.drop (q + 1)).length = n4 from by have := less_length (fs := fs8) (j := q) (by rw [HW8.out.len]; exact hq3); have := HW8.out.len; omega)
            have hq8 : q ≤ c8 := by omega
            have HN4 := Lib.hid hn4
            have HI1 := Lib.hid hi1
            have hXe : i1 = c8 → n3 = i1 := fun e => by omega
            clear n9 row9 r9 s9 HR hsh p0 p1 p2 p3 hn4 hi1
            go_upto_region 24 with fail
            have H9' := Lib.hid (H9.out.2.keptN ((Kept.refl Nil w9).drew))
            obtain ⟨g9, hg9⟩ : ∃ g, w9.heap.size = g := ⟨_, rfl⟩
            have hd9 : w9.drew.heap.size = g9 := hg9
            obtain ⟨WA, hWA⟩ : ∃ W, w9.drew.alloc (.cells #[] 51) = W := ⟨_, rfl⟩
            by_cases hX : i1 = c8
            · obtain rfl : n3 = i1 := hXe hX
              obtain rfl : n3 = c8 := hX
              obtain ⟨a1, c1, wr1, a3, c3, wr3, r1, r3, row3, k3⟩ := less_row (w := w9.drew) (n := n4) (q := q) H9'.out HN4.out HI1.out hq4 hn45 ⟨g8, 0, none⟩ 0 (.inr rfl)
              rw [hd9] at r1 row3
              rw [hWA] at r1
              have R1 := Lib.hid r1
              rw [Nat.sub_self] at r3
              have R3 := Lib.hid r3
              have hrow : Row cF 51 4 wr3 w.heap.size (.slice a3 n4 c3) (fs8.take q ++ fs8.drop (q + 1)) := row3.down (by rw [← hg9]; exact H9.out.1.kept.size)
              have HWf := Lib.hid (show WS w wr3 p n4 a3 c3 (fs8.take q ++ fs8.drop (q + 1)) ll6 L9 F6 from ⟨(H9.out.1.keptN ((Kept.refl Nil w9).drew)).keptN k3, hrow, HL9.out, (fun b hb hF => absurd (H9.out.1.inF hF) (Nat.not_lt.2 (by rw [hg9]; exact (row3.lt b hb).1))), HU9.out, HI9.out, HO9.out⟩)
              clear r1 r3 row3 k3 hrow
              go_region_law (first
                | (refine step_append_run (v' := .slice a1 q c1) (w' := wr1) rfl (.tmp 113) (.tmp 116) 32 rfl (.slice (some ⟨g9, 0, none⟩) 0 0) (.slice (some ⟨g8, 0, none⟩) q n3) rfl rfl (by with_reducible exact R1.out) ?_)
                | (refine step_append_run (v' := .slice a3 n4 c3) (w' := wr3) rfl (.tmp 117) (.tmp 121) 32 rfl (.slice a1 q c1) (.slice (some ⟨g8, 0, none⟩) 0 0) rfl rfl (by with_reducible exact R3.out) ?_))
              all_goals
                go_wp2_with fail
                go_roundw
                case rel => exact ⟨j + 1, n4, a3, c3, _, ll6, L9, F6, hjn, by go_num, rfl, HWf.out, hn41, hll6, HF9.out, HK9.out⟩
                case measure => simp [intOf]; omega
            · have hX2 : ¬ c8 = i1 := fun e => hX e.symm
              obtain ⟨a1, c1, wr1, a3, c3, wr3, r1, r3, row3, k3⟩ := less_row (w := w9.drew) (n := n4) (q := q) H9'.out HN4.out HI1.out hq4 hn45 ⟨g8, i1 * 4, none⟩ (c8 - i1) (.inl rfl)
              rw [hd9] at r1 row3
              rw [hWA] at r1
              have R1 := Lib.hid r1
              have R3 := Lib.hid r3
              have hrow : Row cF 51 4 wr3 w.heap.size (.slice a3 n4 c3) (fs8.take q ++ fs8.drop (q + 1)) := row3.down (by rw [← hg9]; exact H9.out.1.kept.size)
              have HWf := Lib.hid (show WS w wr3 p n4 a3 c3 (fs8.take q ++ fs8.drop (q + 1)) ll6 L9 F6 from ⟨(H9.out.1.keptN ((Kept.refl Nil w9).drew)).keptN k3, hrow, HL9.out, (fun b hb hF => absurd (H9.out.1.inF hF) (Nat.not_lt.2 (by rw [hg9]; exact (row3.lt b hb).1))), HU9.out, HI9.out, HO9.out⟩)
              clear r1 r3 row3 k3 hrow
              go_region_law (first
                | (refine step_append_run (v' := .slice a1 q c1) (w' := wr1) rfl (.tmp 113) (.tmp 116) 32 rfl (.slice (some ⟨g9, 0, none⟩) 0 0) (.slice (some ⟨g8, 0, none⟩) q c8) rfl rfl (by with_reducible exact R1.out) ?_)
                | (refine step_append_run (v' := .slice a3 n4 c3) (w' := wr3) rfl (.tmp 117) (.tmp 121) 32 rfl (.slice a1 q c1) (.slice (some ⟨g8, i1 * 4, none⟩) (n3 - i1) (c8 - i1)) rfl rfl (by with_reducible exact R3.out) ?_))
              all_goals
                go_wp2_with fail
                go_roundw
                case rel => exact ⟨j + 1, n4, a3, c3, _, ll6, L9, F6, hjn, by go_num, rfl, HWf.out, hn41, hll6, HF9.out, HK9.out⟩
                case measure => simp [intOf]; omega
          · have HK6 := Lib.hid (show ∀ i k, i < j + 1 → wl[i]? = some k → k ∈ keysL L from fun i k hi hk => by
              have := (List.getElem?_eq_some_iff.1 hk).1
              rw [HWn.out.1] at this
              exact HF.out.2 i k (by omega) hk)
            have hll6 : ll.length ≤ j + 1 := by omega
            have HW6 := HW5
            have HB6 := HB5
            clear HW5 HB5
            have hj40 : j < 40 := by omega
            have HBX := Lib.hid (HW6.out.keptN ((Kept.refl Nil w5).alloc (.cells #[.int .i64 ((j : Int) + 1), .int .i64 x, .int .i64 y, .int .i64 z] 51)))
            have hb6 : ¬ F w5.heap.size := fun e => Nat.lt_irrefl _ (HW6.out.sn.inF e)
            have HA := Lib.hid (addS_any (i := (j : Int) + 1) (t := (x, y, z)) (q := 40) HBX.out.sn.sto (WalkArith.wf_i64 (by omega)) HOT.out (HW6.out.inv.few (by rw [HW6.out.len]; omega)) (by omega))
            have ⟨b0, b1, b2⟩ := HB6.out
            go_wp2_with fail
            refine HA.out.mono ?_
            rintro e w7 ⟨a7, c7, rfl, r7, s7⟩
            obtain ⟨n7, row7⟩ := HBX.out.turn s7
            have hsz6 : w5.heap.size < (w5.alloc (.cells #[.int .i64 ((j : Int) + 1), .int .i64 x, .int .i64 y, .int .i64 z] 51)).heap.size := by simp
            have g0 := (s7.2.cell (p := ⟨w5.heap.size, 0, none⟩) hsz6 hb6).trans (by go_simp : _ = some (Value.int .i64 ((j : Int) + 1)))
            have g1 := (s7.2.cell (p := ⟨w5.heap.size, 1, none⟩) hsz6 hb6).trans (by go_simp : _ = some (Value.int .i64 x))
            have g2 := (s7.2.cell (p := ⟨w5.heap.size, 2, none⟩) hsz6 hb6).trans (by go_simp : _ = some (Value.int .i64 y))
            have g3 := (s7.2.cell (p := ⟨w5.heap.size, 3, none⟩) hsz6 hb6).trans (by go_simp : _ = some (Value.int .i64 z))
            have hfsl : ∀ f ∈ fs, f.1 < (j : Int) + 1 := fun f hf => by have := HF.out.1 f hf; omega
            have hsh := keys_shape (shape_run (ans := fun L k => canPut L k ((j : Int) + 1)) (act := fun L k => putL L k ((j : Int) + 1)) (fun L k => shape_put L k _) (touched L (x, y, z)) L)
            obtain ⟨a8, c8, w8, r8, HW8'⟩ := WS.push (f := ((j : Int) + 1, x, y, z)) n7 row7 HW6.out.len HW6.out.away (HW6.out.up.snoc hfsl) (HW6.out.inv.add hfsl) (fun g hg => by
              rcases List.mem_append.1 hg with h | h
              · exact HW6.out.ok g h
              · rw [List.mem_singleton.1 h]; exact HOT.out) (by omega)
            have R8 := Lib.hid r8
            obtain ⟨n3, hn3⟩ : ∃ n3, n3 = n2 + 1 := ⟨_, rfl⟩
            rw [← hn3] at HW8' R8
            generalize (runK (fun L k => canPut L k ((j : Int) + 1)) (fun L k => putL L k ((j : Int) + 1)) (touched L (x, y, z)) L).1 = L8 at *
            have HW8 := Lib.hid HW8'
            have HK8 := Lib.hid (show ∀ i k, i < j + 1 → wl[i]? = some k → k ∈ keysL L8 from fun i k hi hk => by rw [hsh]; exact HK6.out i k hi hk)
            have HF8 := Lib.hid (show ∀ f ∈ fs ++ [((j : Int) + 1, x, y, z)], 1 ≤ f.1 ∧ f.1 ≤ ((j + 1 : Nat) : Int) from fun f hf => by
              rcases List.mem_append.1 hf with h | h
              · have := HF.out.1 f h; omega
              · rw [List.mem_singleton.1 h]; simp; omega)
            have hn31 : n3 ≤ j + 1 := by omega
            have hn30 : 0 < n3 := by omega
            generalize fs ++ [((j : Int) + 1, x, y, z)] = fs8 at *
            clear r7 s7 n7 row7 HW8' hsh r8 HBX HA hsz6 b0 b1 b2 hfsl hn3 HB6
            by_cases hju : j < u
            rotate_left
            · go_wp2_with (at_builtin; refine wpList_append_run rfl (.tmp 83) (.tmp 85) 32 rfl _ _ rfl rfl R8.out ?_)
              go_roundw
              case rel => exact ⟨j + 1, n3, a8, c8, fs8, _, L8, F, hjn, by go_num, rfl, HW8.out, hn31, hll6, HF8.out, HK8.out⟩
              case measure => simp [intOf]; omega
            obtain ⟨yg, hyg⟩ : ∃ y, gl[j]? = some y := ⟨gl[j]'(by rw [HGn.out.1]; exact hju), by simp⟩
            obtain ⟨bg, og, e, hbg, hcg⟩ := (HGn.out.kept HW8.out.sn.kept).at_ hyg
            subst e
            have q0 := hcg 0 _ rfl
            rw [Nat.mul_one, Nat.add_zero] at q0
            obtain ⟨hy0, hy1⟩ := HGL.out yg (List.mem_of_getElem? hyg)
            clear hyg hcg
            by_cases h3 : yg % 3 = 0
            rotate_left
            · have h3' : (yg % 3 == 0) = false := by simpa using h3
              go_wp2_with (at_builtin; refine wpList_append_run rfl (.tmp 83) (.tmp 85) 32 rfl _ _ rfl rfl R8.out ?_)
              go_roundw
              case rel => exact ⟨j + 1, n3, a8, c8, fs8, _, L8, F, hjn, by go_num, rfl, HW8.out, hn31, hll6, HF8.out, HK8.out⟩
              case measure => simp [intOf]; omega
            have h3' : (yg % 3 == 0) = true := by simpa using h3
            have hwy : IntKind.i64.wrap yg = yg := by rw [IntKind.wrap_i64]; omega
            obtain ⟨q, hq⟩ : ∃ q : Nat, yg % (n3 : Int) = (q : Int) := ⟨(yg % n3).toNat, by have := Int.emod_nonneg yg (show (n3 : Int) ≠ 0 by omega); omega⟩
            have hq3 : q < n3 := by have := Int.emod_lt_of_pos yg (show (0 : Int) < n3 by omega); omega
            obtain ⟨⟨fi, fx, fy, fz⟩, hfq⟩ : ∃ f, fs8[q]? = some f := ⟨fs8[q]'(by rw [HW8.out.len]; exact hq3), by simp⟩
            obtain ⟨g8, ha8, hc8, hc8m⟩ := HW8.out.row.addr hn30
            subst ha8
            obtain ⟨b8, o8, e8, hb8, p0, p1, p2, p3⟩ := HW8.out.isIn.four hfq
            cases e8
            have HFQ := Lib.hid hfq
            have hfi := HF8.out _ (List.mem_of_getElem? hfq)
            have HR := Lib.hid (removeS_any (i := fi) (t := (fx, fy, fz)) (q := 41) HW8.out.sn.sto (WalkArith.wf_i64 (by simp only at hfi; omega)) (HW8.out.ok _ (List.mem_of_getElem? hfq)) (HW8.out.inv.few (by rw [HW8.out.len]; omega)) (by omega))
            rw [Nat.zero_add] at p0 p1 p2 p3
            simp only at p0 p1 p2 p3
            have hnz : ((n3 : Int) == 0) = false := by simp; omega
            clear hfq hfi
            go_wp2_with (at_builtin; refine wpList_append_run rfl (.tmp 83) (.tmp 85) 32 rfl _ _ rfl rfl R8.out ?_)
            refine HR.out.mono ?_
            rintro e w9 ⟨a9, c9, rfl, r9, s9⟩
            obtain ⟨n9, row9⟩ := HW8.out.turn s9
            have HI9 := Lib.hid (HW8.out.inv.rem HW8.out.up HFQ.out)
            have hsh := keys_shape (shape_run (ans := fun L k => canTake L k fi) (act := fun L k => takeL L k fi) (fun L k => shape_take L k _) (touched L8 (fx, fy, fz)) L8)
            have HK9 := Lib.hid (show ∀ i k, i < j + 1 → wl[i]? = some k → k ∈ keysL (runK (fun L k => canTake L k fi) (fun L k => takeL L k fi) (touched L8 (fx, fy, fz)) L8).1 from fun i k hi hk => by rw [hsh]; exact HK8.out i k hi hk)
            generalize (runK (fun L k => canTake L k fi) (fun L k => takeL L k fi) (touched L8 (fx, fy, fz)) L8).1 = L9 at *
            have H9 := Lib.hid (And.intro n9 row9)
            obtain ⟨n4, hn4⟩ : ∃ n4, n3 = n4 + 1 := ⟨n3 - 1, by omega⟩
            obtain ⟨i1, hi1⟩ : ∃ i1, i1 = q + 1 := ⟨_, rfl⟩
            have hi1' : (q : Int) + 1 = (i1 : Int) := by omega
            have hi1n : i1 ≤ n3 := by omega
            have hwi : IntKind.i64.wrap (i1 : Int) = (i1 : Int) := by rw [IntKind.wrap_i64]; omega
            have hi10 : (0 : Int) ≤ (i1 : Int) := by omega
            have hi1c : (i1 : Int) ≤ (c8 : Int) := by omega
            have hq4 : q ≤ n4 := by omega
            have hn41 : n4 ≤ j + 1 := by omega
            have hn45 : n4 ≤ 5000 := by omega
            have HF9 := Lib.hid (show ∀ f ∈ fs8.take q ++ fs8.drop (q + 1), 1 ≤ f.1 ∧ f.1 ≤ ((j + 1 : Nat) : Int) from fun f hf => HF8.out f (less_mem hf))
            have HU9 := Lib.hid (HW8.out.up.less q)
            have HO9 := Lib.hid (show ∀ f ∈ fs8.take q ++ fs8.drop (q + 1), K3.ok f.2 from fun f hf => HW8.out.ok f (less_mem hf))
            have HL9 := Lib.hid (show (fs8.take q ++ fs8.drop (q + 1)).length = n4 from by have := less_length (fs := fs8) (j := q) (by rw [HW8.out.len]; exact hq3); have := HW8.out.len; omega)
            have hq8 : q ≤ c8 := by omega
            have HN4 := Lib.hid hn4
            have HI1 := Lib.hid hi1
            have hXe : i1 = c8 → n3 = i1 := fun e => by omega
            clear n9 row9 r9 s9 HR hsh p0 p1 p2 p3 hn4 hi1
            go_upto_region 24 with fail
            have H9' := Lib.hid (H9.out.2.keptN ((Kept.refl Nil w9).drew))
            obtain ⟨g9, hg9⟩ : ∃ g, w9.heap.size = g := ⟨_, rfl⟩
            have hd9 : w9.drew.heap.size = g9 := hg9
            obtain ⟨WA, hWA⟩ : ∃ W, w9.drew.alloc (.cells #[] 51) = W := ⟨_, rfl⟩
            by_cases hX : i1 = c8
            · obtain rfl : n3 = i1 := hXe hX
              obtain rfl : n3 = c8 := hX
              obtain ⟨a1, c1, wr1, a3, c3, wr3, r1, r3, row3, k3⟩ := less_row (w := w9.drew) (n := n4) (q := q) H9'.out HN4.out HI1.out hq4 hn45 ⟨g8, 0, none⟩ 0 (.inr rfl)
              rw [hd9] at r1 row3
              rw [hWA] at r1
              have R1 := Lib.hid r1
              rw [Nat.sub_self] at r3
              have R3 := Lib.hid r3
              have hrow : Row cF 51 4 wr3 w.heap.size (.slice a3 n4 c3) (fs8.take q ++ fs8.drop (q + 1)) := row3.down (by rw [← hg9]; exact H9.out.1.kept.size)
              have HWf := Lib.hid (show WS w wr3 p n4 a3 c3 (fs8.take q ++ fs8.drop (q + 1)) ll L9 F from ⟨(H9.out.1.keptN ((Kept.refl Nil w9).drew)).keptN k3, hrow, HL9.out, (fun b hb hF => absurd (H9.out.1.inF hF) (Nat.not_lt.2 (by rw [hg9]; exact (row3.lt b hb).1))), HU9.out, HI9.out, HO9.out⟩)
              clear r1 r3 row3 k3 hrow
              go_region_law (first
                | (refine step_append_run (v' := .slice a1 q c1) (w' := wr1) rfl (.tmp 113) (.tmp 116) 32 rfl (.slice (some ⟨g9, 0, none⟩) 0 0) (.slice (some ⟨g8, 0, none⟩) q n3) rfl rfl (by with_reducible exact R1.out) ?_)
                | (refine step_append_run (v' := .slice a3 n4 c3) (w' := wr3) rfl (.tmp 117) (.tmp 121) 32 rfl (.slice a1 q c1) (.slice (some ⟨g8, 0, none⟩) 0 0) rfl rfl (by with_reducible exact R3.out) ?_))
              all_goals
                go_wp2_with fail
                go_roundw
                case rel => exact ⟨j + 1, n4, a3, c3, _, ll, L9, F, hjn, by go_num, rfl, HWf.out, hn41, hll6, HF9.out, HK9.out⟩
                case measure => simp [intOf]; omega
            · have hX2 : ¬ c8 = i1 := fun e => hX e.symm
              obtain ⟨a1, c1, wr1, a3, c3, wr3, r1, r3, row3, k3⟩ := less_row (w := w9.drew) (n := n4) (q := q) H9'.out HN4.out HI1.out hq4 hn45 ⟨g8, i1 * 4, none⟩ (c8 - i1) (.inl rfl)
              rw [hd9] at r1 row3
              rw [hWA] at r1
              have R1 := Lib.hid r1
              have R3 := Lib.hid r3
              have hrow : Row cF 51 4 wr3 w.heap.size (.slice a3 n4 c3) (fs8.take q ++ fs8.drop (q + 1)) := row3.down (by rw [← hg9]; exact H9.out.1.kept.size)
              have HWf := Lib.hid (show WS w wr3 p n4 a3 c3 (fs8.take q ++ fs8.drop (q + 1)) ll L9 F from ⟨(H9.out.1.keptN ((Kept.refl Nil w9).drew)).keptN k3, hrow, HL9.out, (fun b hb hF => absurd (H9.out.1.inF hF) (Nat.not_lt.2 (by rw [hg9]; exact (row3.lt b hb).1))), HU9.out, HI9.out, HO9.out⟩)
              clear r1 r3 row3 k3 hrow
              go_region_law (first
                | (refine step_append_run (v' := .slice a1 q c1) (w' := wr1) rfl (.tmp 113) (.tmp 116) 32 rfl (.slice (some ⟨g9, 0, none⟩) 0 0) (.slice (some ⟨g8, 0, none⟩) q c8) rfl rfl (by with_reducible exact R1.out) ?_)
                | (refine step_append_run (v' := .slice a3 n4 c3) (w' := wr3) rfl (.tmp 117) (.tmp 121) 32 rfl (.slice a1 q c1) (.slice (some ⟨g8, i1 * 4, none⟩) (n3 - i1) (c8 - i1)) rfl rfl (by with_reducible exact R3.out) ?_))
              all_goals
                go_wp2_with fail
                go_roundw
                case rel => exact ⟨j + 1, n4, a3, c3, _, ll, L9, F, hjn, by go_num, rfl, HWf.out, hn41, hll6, HF9.out, HK9.out⟩
                case measure => simp [intOf]; omega
        · obtain rfl : n = j := by omega
          have HKN := Lib.hid HF.out.2
          go_wp2_with fail
          go_loopw [126] (fun i' wr => ∃ (j3 : Nat) (ll : List T3) (L : List Mem) (F : Nat → Prop), j3 ≤ m ∧ i' = .int .i64 j3 ∧ WS w wr p n2 a2 c2 fs ll L F ∧ ll.length ≤ n + j3 ∧ ∀ i k, i < n → wl[i]? = some k → k ∈ keysL L) (fun i' _ => m - (intOf i').toNat)
          case atStart => exact ⟨0, ll, L, F, Nat.zero_le _, rfl, HW.out, hll, HKN.out⟩
          case round =>
            clear HW HKN
            obtain ⟨j3, ll, L, F, hj3, rfl, hW, hll, hks⟩ := hrel
            have HW := Lib.hid hW
            have HKN := Lib.hid hks
            clear hW hks
            by_cases hjm3 : j3 < m
            rotate_left
            · go_wp2_with fail
              refine (awake_any _).mono ?_
              rintro e w6 ⟨rfl, k6⟩
              go_wp2_with fail
              go_ret
              exact ⟨rfl, HW.out.sn.kept.trans k6 (fun _ _ g => g)⟩
            obtain ⟨⟨kx, ky, kz⟩, hk⟩ : ∃ k, wl[j3]? = some k := ⟨wl[j3]'(by rw [HWn.out.1]; exact hjm3), by simp⟩
            obtain ⟨bw, ow, e, hbw, f0, f1, f2⟩ := (HWn.out.kept HW.out.sn.kept).three hk
            subst e
            have HKK := Lib.hid hk
            have HOK := Lib.hid (HWL.out _ (List.mem_of_getElem? hk))
            simp only at f0 f1 f2
            have HW5 := Lib.hid (HW.out.keptN (Box.new wr (kx, ky, kz)).kept)
            have HB5 := Lib.hid ((Box.new wr (kx, ky, kz)).three)
            have hbF : ¬ F wr.heap.size := fun e => Nat.lt_irrefl _ (HW.out.sn.inF e)
            clear hk HW
            by_cases hge : n ≤ j3
            · have HC := Lib.hid (wantS_any (c := c2) (k := (kx, ky, kz)) HW5.out.sn.sto (by omega) HOK.out HW5.out.isIn (fun f hf => by have := HF.out.1 f hf; exact WalkArith.wf_i64 (by omega)) (by omega) (.inr HW5.out.away))
              go_wp2_with fail
              refine HC.out.mono ?_
              rintro e w6 ⟨rfl, g6⟩
              obtain ⟨F6, W6, up6, kk6⟩ := HW5.out.want g6
              have HW6 := Lib.hid W6
              have HB6 := Lib.hid (HB5.out.kept kk6 hbF)
              have hkw := keys_want L (kx, ky, kz) fs
              have HK6 := Lib.hid (show ∀ i k, i < n → wl[i]? = some k → k ∈ keysL (wantL L (kx, ky, kz) fs) from fun i k hi hk => hkw.2 k (HKN.out i k hi hk))
              have hkin := hkw.1
              have hll6 : (ll ++ [(kx, ky, kz)]).length ≤ n + (j3 + 1) := by rw [List.length_append]; simp; omega
              generalize wantL L (kx, ky, kz) fs = L6 at *
              generalize ll ++ [(kx, ky, kz)] = ll6 at *
              generalize wr.heap.size = bx at *
              clear g6 W6 up6 kk6 HC hkw f0 f1 f2 HW5 HB5
              have HIT := Lib.hid (HW6.out.inv.items hkin)
              have hq40 : n2 ≤ 40 := by omega
              have hl40 := fun j4 => Nat.le_trans (idsK_le (fs.take j4) (kx, ky, kz)) (List.length_take_le' j4 fs)
              have hlen6 := HW6.out.len
              go_wp2_with fail
              go_loopw [17, 141] (fun v i' wr' => ∃ (j4 : Nat) (aw : Option Addr) (cw : Nat), j4 ≤ n2 ∧ i' = .int .i64 j4 ∧ v = .slice aw (idsK (fs.take j4) (kx, ky, kz)).length cw ∧ Row cN 3 1 wr' w6.heap.size (.slice aw (idsK (fs.take j4) (kx, ky, kz)).length cw) (idsK (fs.take j4) (kx, ky, kz)) ∧ Kept Nil w6 wr') (fun _ i' _ => n2 - (intOf i').toNat)
              case atStart => exact ⟨0, none, 0, Nat.zero_le _, rfl, rfl, Row.nil _ _, Kept.refl _ _⟩
              case round =>
                obtain ⟨j4, aw, cw, hj4, rfl, rfl, hR, hK⟩ := hrel
                have HR := Lib.hid hR
                have HK := Lib.hid hK
                have ⟨b0, b1, b2⟩ := HB6.out.kept hK (fun e => e)
                have hbl : bx < wr.heap.size := World.block_lt_of_cell? wr _ b0
                clear hR hK
                by_cases hjn4 : j4 < n2
                · obtain ⟨⟨fi, fx, fy, fz⟩, hf⟩ : ∃ f, fs[j4]? = some f := ⟨fs[j4]'(by rw [HW6.out.len]; exact hjn4), by simp⟩
                  obtain ⟨b8, o8, e8, hb8, p0, p1, p2, p3⟩ := (HW6.out.keptN HK.out).isIn.four hf
                  subst e8
                  simp only at p0 p1 p2 p3
                  have HE := Lib.hid (show idsK (fs.take (j4 + 1)) (kx, ky, kz) = idsK (fs.take j4) (kx, ky, kz) ++ if hasK (fx, fy, fz) (kx, ky, kz) then [fi] else [] from by
                    rw [List.take_add_one, hf]
                    exact idsK_snoc (fs.take j4) (fi, fx, fy, fz) (kx, ky, kz))
                  have hl4 := hl40 j4
                  generalize idsK (fs.take j4) (kx, ky, kz) = T at *
                  generalize hn7 : T.length = n7 at *
                  have HN7 := Lib.hid hn7
                  clear hf hn7
                  go_wp2_with fail
                  refine (refHas_any (fx, fy, fz) (kx, ky, kz) _).mono ?_
                  rintro e w7 ⟨rfl, k7⟩
                  have K7 := Lib.hid (((Kept.refl Nil wr).alloc (.cells #[.int .i64 fi, .int .i64 fx, .int .i64 fy, .int .i64 fz] 51)).trans k7 (fun _ _ e => e))
                  have q0 := (k7.cell (p := ⟨wr.heap.size, 0, none⟩) (by simp) (fun e => e)).trans (by go_simp : _ = some (Value.int .i64 fi))
                  clear k7 p0 p1 p2 p3 b0 b1 b2
                  by_cases hh : hasK (fx, fy, fz) (kx, ky, kz) = true
                  · rw [hh]
                    obtain ⟨a', c', w8, r8, row8, kk8⟩ := (HR.out.keptN K7.out).pushB elsN cN_len cN_one 59 HN7.out.symm (by rw [HN7.out]; omega) (Nat.le_trans HK.out.size K7.out.size) fi #[.int .i64 fi] rfl
                    have R8 := Lib.hid r8
                    have H8 := Lib.hid (And.intro row8 ((HK.out.trans K7.out (fun _ _ e => e)).trans kk8 (fun i hi e => absurd hi (Nat.not_lt.2 e))))
                    have HE2 := Lib.hid (show idsK (fs.take (j4 + 1)) (kx, ky, kz) = T ++ [fi] from by rw [HE.out, if_pos hh])
                    clear r8 row8 kk8
                    go_wp2_with (at_builtin; refine wpList_append_run rfl (.tmp 149) (.tmp 152) 59 rfl _ _ rfl rfl R8.out ?_)
                    go_roundw
                    case rel =>
                      have e3 : (idsK (fs.take (j4 + 1)) (kx, ky, kz)).length = n7 + 1 := by rw [HE2.out, List.length_append, HN7.out]; rfl
                      refine ⟨j4 + 1, a', c', hjn4, by go_num, by rw [e3], ?_, H8.out.2⟩
                      rw [e3, HE2.out]; exact H8.out.1
                    case measure => simp [intOf]; omega
                  · have hh' : hasK (fx, fy, fz) (kx, ky, kz) = false := by simpa using hh
                    rw [hh']
                    have HE2 := Lib.hid (show idsK (fs.take (j4 + 1)) (kx, ky, kz) = T from by rw [HE.out, if_neg hh, List.append_nil])
                    go_wp2_with fail
                    go_roundw
                    case rel =>
                      refine ⟨j4 + 1, aw, cw, hjn4, by go_num, by rw [HE2.out, HN7.out], ?_, HK.out.trans K7.out (fun _ _ e => e)⟩
                      rw [HE2.out, HN7.out]; exact HR.out.keptN K7.out
                    case measure => simp [intOf]; omega
                · obtain rfl : n2 = j4 := by omega
                  have e1 : fs.take n2 = fs := List.take_of_length_le (by rw [HW6.out.len]; exact Nat.le_refl _)
                  rw [e1] at HR ⊢
                  have HW7 := Lib.hid (HW6.out.keptN HK.out)
                  have HI := Lib.hid (itemsS_any (k := (kx, ky, kz)) HW7.out.sn.sto HOK.out (HW7.out.inv.few (by rw [HW7.out.len]; omega)))
                  have hi5 := idsK_le fs (kx, ky, kz)
                  rw [HIT.out] at HI
                  generalize idsK fs (kx, ky, kz) = T at *
                  generalize hn7 : T.length = n7 at *
                  clear hn7
                  go_wp2_with fail
                  refine HI.out.mono ?_
                  rintro e w8 ⟨a8, c8, rfl, r8, k8⟩
                  have HT := Lib.hid (ints_any (c := c8) (c' := cw) (r8.toIn cN_len (by decide)) ((HR.out.toIn cN_len (by decide)).kept k8) (by omega) (by omega))
                  rw [decide_eq_true rfl] at HT
                  have HW8 := Lib.hid (HW7.out.keptN k8)
                  clear r8 k8 HI b0 b1 b2
                  go_wp2_with fail
                  refine HT.out.mono ?_
                  rintro e w9 ⟨rfl, k9⟩
                  have HW9 := Lib.hid (HW8.out.keptN k9)
                  clear k9 HT
                  go_wp2_with fail
                  go_roundw
                  case rel => exact ⟨j3 + 1, ll6, L6, F6, hjm3, by go_num, HW9.out, hll6, HK6.out⟩
                  case measure => simp [intOf]; omega
            · have hkin : (kx, ky, kz) ∈ keysL L := HKN.out j3 _ (by omega) HKK.out
              have hll6 : ll.length ≤ n + (j3 + 1) := by omega
              have HW6 := HW5
              have HB6 := HB5
              have HK6 := HKN
              clear HW5 HB5 HKN
              go_upto_region 31 with fail
              generalize wr.alloc (.cells #[.int .i64 kx, .int .i64 ky, .int .i64 kz] 31) = w6 at *
              generalize wr.heap.size = bx at *
              have HIT := Lib.hid (HW6.out.inv.items hkin)
              have hq40 : n2 ≤ 40 := by omega
              have hl40 := fun j4 => Nat.le_trans (idsK_le (fs.take j4) (kx, ky, kz)) (List.length_take_le' j4 fs)
              have hlen6 := HW6.out.len
              go_wp2_with fail
              go_loopw [17, 141] (fun v i' wr' => ∃ (j4 : Nat) (aw : Option Addr) (cw : Nat), j4 ≤ n2 ∧ i' = .int .i64 j4 ∧ v = .slice aw (idsK (fs.take j4) (kx, ky, kz)).length cw ∧ Row cN 3 1 wr' w6.heap.size (.slice aw (idsK (fs.take j4) (kx, ky, kz)).length cw) (idsK (fs.take j4) (kx, ky, kz)) ∧ Kept Nil w6 wr') (fun _ i' _ => n2 - (intOf i').toNat)
              case atStart => exact ⟨0, none, 0, Nat.zero_le _, rfl, rfl, Row.nil _ _, Kept.refl _ _⟩
              case round =>
                obtain ⟨j4, aw, cw, hj4, rfl, rfl, hR, hK⟩ := hrel
                have HR := Lib.hid hR
                have HK := Lib.hid hK
                have ⟨b0, b1, b2⟩ := HB6.out.kept hK (fun e => e)
                have hbl : bx < wr.heap.size := World.block_lt_of_cell? wr _ b0
                clear hR hK
                by_cases hjn4 : j4 < n2
                · obtain ⟨⟨fi, fx, fy, fz⟩, hf⟩ : ∃ f, fs[j4]? = some f := ⟨fs[j4]'(by rw [HW6.out.len]; exact hjn4), by simp⟩
                  obtain ⟨b8, o8, e8, hb8, p0, p1, p2, p3⟩ := (HW6.out.keptN HK.out).isIn.four hf
                  subst e8
                  simp only at p0 p1 p2 p3
                  have HE := Lib.hid (show idsK (fs.take (j4 + 1)) (kx, ky, kz) = idsK (fs.take j4) (kx, ky, kz) ++ if hasK (fx, fy, fz) (kx, ky, kz) then [fi] else [] from by
                    rw [List.take_add_one, hf]
                    exact idsK_snoc (fs.take j4) (fi, fx, fy, fz) (kx, ky, kz))
                  have hl4 := hl40 j4
                  generalize idsK (fs.take j4) (kx, ky, kz) = T at *
                  generalize hn7 : T.length = n7 at *
                  have HN7 := Lib.hid hn7
                  clear hf hn7
                  go_wp2_with fail
                  refine (refHas_any (fx, fy, fz) (kx, ky, kz) _).mono ?_
                  rintro e w7 ⟨rfl, k7⟩
                  have K7 := Lib.hid (((Kept.refl Nil wr).alloc (.cells #[.int .i64 fi, .int .i64 fx, .int .i64 fy, .int .i64 fz] 51)).trans k7 (fun _ _ e => e))
                  have q0 := (k7.cell (p := ⟨wr.heap.size, 0, none⟩) (by simp) (fun e => e)).trans (by go_simp : _ = some (Value.int .i64 fi))
                  clear k7 p0 p1 p2 p3 b0 b1 b2
                  by_cases hh : hasK (fx, fy, fz) (kx, ky, kz) = true
                  · rw [hh]
                    obtain ⟨a', c', w8, r8, row8, kk8⟩ := (HR.out.keptN K7.out).pushB elsN cN_len cN_one 59 HN7.out.symm (by rw [HN7.out]; omega) (Nat.le_trans HK.out.size K7.out.size) fi #[.int .i64 fi] rfl
                    have R8 := Lib.hid r8
                    have H8 := Lib.hid (And.intro row8 ((HK.out.trans K7.out (fun _ _ e => e)).trans kk8 (fun i hi e => absurd hi (Nat.not_lt.2 e))))
                    have HE2 := Lib.hid (show idsK (fs.take (j4 + 1)) (kx, ky, kz) = T ++ [fi] from by rw [HE.out, if_pos hh])
                    clear r8 row8 kk8
                    go_wp2_with (at_builtin; refine wpList_append_run rfl (.tmp 149) (.tmp 152) 59 rfl _ _ rfl rfl R8.out ?_)
                    go_roundw
                    case rel =>
                      have e3 : (idsK (fs.take (j4 + 1)) (kx, ky, kz)).length = n7 + 1 := by rw [HE2.out, List.length_append, HN7.out]; rfl
                      refine ⟨j4 + 1, a', c', hjn4, by go_num, by rw [e3], ?_, H8.out.2⟩
                      rw [e3, HE2.out]; exact H8.out.1
                    case measure => simp [intOf]; omega
                  · have hh' : hasK (fx, fy, fz) (kx, ky, kz) = false := by simpa using hh
                    rw [hh']
                    have HE2 := Lib.hid (show idsK (fs.take (j4 + 1)) (kx, ky, kz) = T from by rw [HE.out, if_neg hh, List.append_nil])
                    go_wp2_with fail
                    go_roundw
                    case rel =>
                      refine ⟨j4 + 1, aw, cw, hjn4, by go_num, by rw [HE2.out, HN7.out], ?_, HK.out.trans K7.out (fun _ _ e => e)⟩
                      rw [HE2.out, HN7.out]; exact HR.out.keptN K7.out
                    case measure => simp [intOf]; omega
                · obtain rfl : n2 = j4 := by omega
                  have e1 : fs.take n2 = fs := List.take_of_length_le (by rw [HW6.out.len]; exact Nat.le_refl _)
                  rw [e1] at HR ⊢
                  have HW7 := Lib.hid (HW6.out.keptN HK.out)
                  have HI := Lib.hid (itemsS_any (k := (kx, ky, kz)) HW7.out.sn.sto HOK.out (HW7.out.inv.few (by rw [HW7.out.len]; omega)))
                  have hi5 := idsK_le fs (kx, ky, kz)
                  rw [HIT.out] at HI
                  generalize idsK fs (kx, ky, kz) = T at *
                  generalize hn7 : T.length = n7 at *
                  clear hn7
                  go_wp2_with fail
                  refine HI.out.mono ?_
                  rintro e w8 ⟨a8, c8, rfl, r8, k8⟩
                  have HT := Lib.hid (ints_any (c := c8) (c' := cw) (r8.toIn cN_len (by decide)) ((HR.out.toIn cN_len (by decide)).kept k8) (by omega) (by omega))
                  rw [decide_eq_true rfl] at HT
                  have HW8 := Lib.hid (HW7.out.keptN k8)
                  clear r8 k8 HI b0 b1 b2
                  go_wp2_with fail
                  refine HT.out.mono ?_
                  rintro e w9 ⟨rfl, k9⟩
                  have HW9 := Lib.hid (HW8.out.keptN k9)
                  clear k9 HT
                  go_wp2_with fail
                  go_roundw
                  case rel => exact ⟨j3 + 1, ll, L, F, hjm3, by go_num, HW9.out, hll6, HK6.out⟩
                  case measure => simp [intOf]; omega
end Go.Proofs.Ytjfkillpepoplaa
