/- Layer trie: lists that may be gone through: the program's right. – Layer trie: what adding a list's chains makes of the numbers; how often a chain is used. No program. – Layer trie: a trie in memory, by chains; the program's Find, Add. – Layer trie: the program's Add. – Layer trie: the program's Add, whole. -/
import Derived.Test.YtljefbfjehblpaaGreatA10
import Derived.Test.YtljefbfjehblpaaGreatA13
import Derived.Test.YtljefbfjehblpaaGreatA6
namespace Go.Proofs.YtljefbfjehblpaaGreat
section
open Go.RowKit
set_option maxRecDepth 100000

/-- A list of right steps, 16 in all. -/
structure Rl (l : List St) : Prop where
  right : ∀ s ∈ l, s.right = true
  cnt : cntL l ≤ 16
theorem mass_cnt : (∀ s : St, Gd s → s.mass ≤ 4 * s.cnt) ∧ ∀ l : List St, (∀ s ∈ l, Gd s) → massL l ≤ 4 * cntL l := by
  refine St.ind2 (fun hd subs ih hg => ?_) (fun _ => by simp [massL]) (fun a l ha hl hg => ?_)
  · obtain ⟨h1, h2, h3⟩ := hg.hd
    have ht := h1.tl
    rw [St.mass, St.cnt]
    by_cases hk : hd.k = 3
    · have := ih (h3 hk).2; omega
    · rw [h2 hk]; simp [massL, cntL]; omega
  · have := ha (hg a List.mem_cons_self)
    have := hl (fun y hy => hg y (List.mem_cons_of_mem _ hy))
    rw [massL, cntL]; omega
theorem Rl.gd {l : List St} (h : Rl l) : ∀ s ∈ l, Gd s := fun s hs => right_gd (h.right s hs)
theorem Rl.mass {l : List St} (h : Rl l) : massL l ≤ 64 := by have := mass_cnt.2 l h.gd; have := h.cnt; omega
theorem Rl.len {l : List St} (h : Rl l) : l.length ≤ 16 := Nat.le_trans (length_cntL l) h.cnt
theorem Rl.chs {l : List St} (h : Rl l) : (chSL l []).length ≤ 16 := Nat.le_trans (chSL_len_le.2 l []) h.cnt
theorem chSL_pat : (∀ (s : St) (d : Int) (ab : List St), 1 ≤ d → s.pAt d = true → (∀ x ∈ ab, x.pAt 1 = true) → ∀ c ∈ s.chs ab, ∀ x ∈ c, x.pAt 1 = true) ∧ ∀ (l : List St) (d : Int) (ab : List St), 1 ≤ d → pLAt l d = true → (∀ x ∈ ab, x.pAt 1 = true) → ∀ c ∈ chSL l ab, ∀ x ∈ c, x.pAt 1 = true := by
  refine St.ind2 (fun hd subs ih d ab hd1 hp hab c hc x hx => ?_) (fun d ab _ _ _ c hc => by simp [chSL_nil] at hc) (fun a l ha hl d ab hd1 hp hab c hc x hx => ?_)
  · rw [chsS_mk] at hc
    rcases List.mem_append.1 hc with hc | hc
    · split at hc
      · rename_i hk
        have hsub : pLAt subs (d + 1) = true := by
          rw [St.pAt] at hp
          split at hp
          · cases hp
          · simp only [Bool.and_eq_true] at hp
            exact hp.2.2.2
        exact ih (d + 1) ab (by omega) hsub hab c hc x hx
      · cases hc
    · rw [List.mem_singleton] at hc
      subst hc
      rcases List.mem_append.1 hx with hx | hx
      · exact hab x hx
      · rw [List.mem_singleton.1 hx]; exact pAt_up.1 _ d 1 hd1 hp
  · rw [chSL_cons] at hc
    simp only [pLAt, Bool.and_eq_true] at hp
    rcases List.mem_append.1 hc with hc | hc
    · exact ha d ab hd1 hp.1 hab c hc x hx
    · refine hl d (ab ++ [a]) hd1 hp.2 (fun y hy => ?_) c hc x hx
      rcases List.mem_append.1 hy with hy | hy
      · exact hab y hy
      · rw [List.mem_singleton.1 hy]; exact pAt_up.1 _ d 1 hd1 hp.1
/-- Its chains are such lists. -/
theorem Rl.chain {l c : List St} (h : Rl l) (hc : c ∈ chSL l []) : Rl c := by
  have hp : pLAt l 1 = true := by
    rw [pLAt_all, List.all_eq_true]
    intro s hs
    have := h.right s hs
    unfold St.right at this
    simp only [Bool.and_eq_true] at this
    exact this.1
  have hcnt : cntL c ≤ 16 := Nat.le_trans (chain_cnt hc) h.cnt
  refine ⟨fun s hs => ?_, hcnt⟩
  unfold St.right
  rw [chSL_pat.2 l 1 [] (by decide) hp (by simp) c hc s hs, Bool.true_and, decide_eq_true_iff]
  exact Nat.le_trans (cnt_mem hs) hcnt
theorem Rl.nil : Rl [] := ⟨by simp, by simp [cntL]⟩
theorem tClo_any (k k0 k1 k2 : Int) (ts : List Tst) (sb : List St) (hc : (St.mk ⟨k, k0, k1, k2, ts⟩ sb).mass ≤ 5000) (hr : (St.mk ⟨k, k0, k1, k2, ts⟩ sb).right = true) (ok : Nat → Nat → Prop) (ta : Option Addr) (tc : Nat) (a : Option Addr) (cap : Nat) (w : World) (HT : Hid (TsAt w ok (.slice ta ts.length tc) ts)) (HS : Hid (SHolds w ok (.slice a sb.length cap) sb)) :
    Calls Tryz.prog 65 #[vS ⟨k, k0, k1, k2, ts⟩ (.slice ta ts.length tc) (.slice a sb.length cap)] w fun e w' => e = .returned (.bool false) ∧ Kept Nil w w' := by
  have CX : Hid (∀ W, Kept Nil w W → Calls Tryz.prog 66 #[vS ⟨k, k0, k1, k2, ts⟩ (.slice ta ts.length tc) (.slice a sb.length cap)] W fun e w' => e = .returned (.bool true) ∧ Kept Nil W w') := Lib.hid fun W kW => by
    have := stRight_any (.mk ⟨k, k0, k1, k2, ts⟩ sb) hc ok ta tc a cap W (HT.out.keptN kW) (HS.out.keptN kW)
    rw [hr] at this
    exact this
  generalize ts.length = tn at CX ⊢
  generalize sb.length = sn at CX ⊢
  have K0 := Lib.hid ((Kept.refl Nil w).alloc (.cells (arrS ⟨k, k0, k1, k2, ts⟩ (.slice ta tn tc) (.slice a sn cap)) 65))
  clear hr hc
  go_enter Tryz.func65, Tryz.ntmps65
  go_wp2_with fail
  refine (CX.out _ K0.out).mono ?_
  rintro e w2 ⟨rfl, k2⟩
  go_wp2_with fail
  go_ret
  exact ⟨rfl, K0.out.trans k2 (fun _ _ g => g)⟩
set_option maxHeartbeats 2000000 in
theorem tIdx_any (l : List St) (hm : massL l ≤ 5000) (hr : ∀ s ∈ l, s.right = true) (ok : Nat → Nat → Prop) (a : Option Addr) (cap : Nat) (w : World) (h : SHolds w ok (.slice a l.length cap) l) :
    Calls Tryz.prog 77 #[.slice a l.length cap, .func (.func 65) #[] #[]] w fun e w' => e = .returned (.int .i64 (-1)) ∧ Kept Nil w w' := by
  obtain ⟨len, hlen⟩ : ∃ n, l.length = n := ⟨_, rfl⟩
  have HH := Lib.hid h
  rw [hlen] at HH ⊢
  have HL := Lib.hid hlen
  have HM := Lib.hid hm
  have HR0 := Lib.hid hr
  have hLen : len ≤ 5000 := by have := length_massL l; omega
  clear h hlen hm hr
  go_enter Tryz.func77, Tryz.ntmps77
  go_wp2_with fail
  go_loopw [5, 8] (fun _ i wr => ∃ j : Nat, j ≤ len ∧ i = .int .i64 j ∧ Kept Nil w wr) (fun _ i _ => len - (intOf i).toNat)
  case atStart => exact ⟨0, by omega, rfl, Kept.refl _ _⟩
  case round =>
    obtain ⟨j, hj, rfl, hK⟩ := hrel
    have HK := Lib.hid hK
    clear hK
    by_cases hlt : j < len
    · obtain ⟨⟨⟨k', k0', k1', k2', ts'⟩, sb⟩, hx⟩ : ∃ x, l[j]? = some x := ⟨_, List.getElem?_eq_getElem (by have := HL.out; omega)⟩
      obtain ⟨b, o, ta', tc', a', cap', rfl, hok, hr, ht, hs⟩ := (HH.out.keptN HK.out).at_ hx
      have CX := Lib.hid (tClo_any k' k0' k1' k2' ts' sb (Nat.le_trans (mass_mem (List.mem_of_getElem? hx)) HM.out) (HR0.out _ (List.mem_of_getElem? hx)) ok ta' tc' a' cap' wr (Lib.hid ht) (Lib.hid hs))
      have HR : Hid (wr.rangeAt b (o + j * 6) (cS ⟨k', k0', k1', k2', ts'⟩ (.slice ta' ts'.length tc') (.slice a' sb.length cap'))) := Lib.hid hr
      generalize ts'.length = tn' at CX HR
      generalize sb.length = len' at CX HR
      clear hx hr ht hs hok
      go_wp2_with ((with_reducible refine wpList_load_S rfl (.tmp 14) rfl _ _ rfl ⟨k', k0', k1', k2', ts'⟩ (.slice ta' tn' tc') (.slice a' len' cap') ?_ ?_)
                   · exact HR.out)
      refine CX.out.mono ?_
      rintro e w2 ⟨rfl, k2⟩
      have K2 := Lib.hid (HK.out.trans k2 (fun _ _ g => g))
      clear k2
      go_wp2_with fail
      go_roundw
      case rel => exact ⟨j + 1, by omega, by go_num, K2.out⟩
      case measure => simp [intOf]; omega
    · obtain rfl : j = len := by omega
      go_wp2_with fail
      go_ret
      exact ⟨rfl, HK.out⟩
theorem tCont_any (l : List St) (hm : massL l ≤ 5000) (hr : ∀ s ∈ l, s.right = true) (ok : Nat → Nat → Prop) (a : Option Addr) (cap : Nat) (w : World) (h : SHolds w ok (.slice a l.length cap) l) :
    Calls Tryz.prog 67 #[.slice a l.length cap, .func (.func 65) #[] #[]] w fun e w' => e = .returned (.bool false) ∧ Kept Nil w w' := by
  have C := Lib.hid (tIdx_any l hm hr ok a cap w h)
  clear h hm hr
  generalize l.length = len at C ⊢
  go_enter Tryz.func67, Tryz.ntmps67
  go_wp2_with fail
  refine C.out.mono ?_
  rintro e w2 ⟨rfl, k2⟩
  go_wp2_with fail
  go_ret
  exact ⟨rfl, k2⟩
set_option maxHeartbeats 1000000 in
theorem tRight_any (l : List St) (hl : Rl l) (ok : Nat → Nat → Prop) (a : Option Addr) (cap : Nat) (w : World) (h : SHolds w ok (.slice a l.length cap) l) (hok : ∀ b o, ok b o → b < w.heap.size) :
    Calls Tryz.prog 36 #[.slice a l.length cap] w fun e w' => e = .returned (.bool true) ∧ Kept Nil w w' := by
  have C1 := Lib.hid (tCont_any l (by have := hl.mass; omega) hl.right ok a cap w h)
  have C2 := Lib.hid (fun W (kW : Kept Nil w W) => stChains_any l (by have := hl.mass; omega) hl.right ok a cap W (h.keptN kW) (fun b o e => Nat.lt_of_lt_of_le (hok b o e) kW.size))
  have hlen := hl.len
  have hch := hl.chs
  have HL := Lib.hid hl
  clear h hok hl
  generalize l.length = n at *
  go_enter Tryz.func36, Tryz.ntmps36
  go_wp2_with fail
  refine C1.out.mono ?_
  rintro e w1 ⟨rfl, k1⟩
  have K1 := Lib.hid k1
  clear k1
  go_wp2_with fail
  refine (C2.out _ K1.out).mono ?_
  rintro e w2 ⟨a', n', c', rfl, hL, k2⟩
  have hn' : n' = (chSL l []).length := by obtain ⟨_, _, e, _⟩ := hL; injection e
  have K2 := Lib.hid (K1.out.trans k2 (fun _ _ g => g))
  have hn16 : n' ≤ 16 := by omega
  have hd : decide ((n' : Int) ≤ 16) = true := by simp; omega
  clear hL k2 hn' hch
  go_wp2_with fail
  go_ret
  exact ⟨rfl, K2.out⟩
end
section
section
open Go.RowKit
set_option maxRecDepth 100000

def addC (es : En) (c : List St) : En := if fnd es c = 0 then es ++ [(c, true)] else es
def addAll (es : En) (D : List (List St)) : En := D.foldl addC es
theorem addAll_nil (es : En) : addAll es [] = es := rfl
theorem addAll_snoc (es : En) (D : List (List St)) (c : List St) : addAll es (D ++ [c]) = addC (addAll es D) c := by unfold addAll; rw [List.foldl_append]; rfl
theorem addAll_append (es : En) (D D' : List (List St)) : addAll es (D ++ D') = addAll (addAll es D) D' := by unfold addAll; rw [List.foldl_append]
theorem addC_old {es : En} {c x : List St} (h : fnd es x ≠ 0) : fnd (addC es c) x = fnd es x := by
  unfold addC
  split
  · exact fnd_old h
  · rfl
theorem addC_has (es : En) (c : List St) : fnd (addC es c) c ≠ 0 := by
  unfold addC
  split
  · rename_i h; rw [fnd_more, if_neg (by omega), if_pos rfl]; omega
  · rename_i h; exact h
theorem addAll_old {x : List St} : ∀ (D : List (List St)) {es : En}, fnd es x ≠ 0 → fnd (addAll es D) x = fnd es x
  | [], _, _ => rfl
  | c :: r, es, h => by
    show fnd (addAll (addC es c) r) x = _
    rw [addAll_old r (by rw [addC_old h]; exact h), addC_old h]
theorem addAll_has {c : List St} : ∀ {D : List (List St)} {es : En}, c ∈ D → fnd (addAll es D) c ≠ 0
  | a :: r, es, h => by
    show fnd (addAll (addC es a) r) c ≠ 0
    rcases List.mem_cons.1 h with rfl | h
    · rw [addAll_old r (addC_has es c)]; exact addC_has es c
    · exact addAll_has h
theorem addC_len (es : En) (c : List St) : (addC es c).length ≤ es.length + 1 := by unfold addC; split <;> simp
theorem addAll_len : ∀ (D : List (List St)) (es : En), (addAll es D).length ≤ es.length + D.length
  | [], es => by simp [addAll]
  | c :: r, es => by
    have h1 := addAll_len r (addC es c)
    have h2 := addC_len es c
    show (addAll (addC es c) r).length ≤ _
    rw [List.length_cons]; omega
theorem addC_mono (es : En) (c : List St) : es.length ≤ (addC es c).length := by unfold addC; split <;> simp
theorem addAll_mono : ∀ (D : List (List St)) (es : En), es.length ≤ (addAll es D).length
  | [], _ => Nat.le_refl _
  | c :: r, es => Nat.le_trans (addC_mono es c) (addAll_mono r (addC es c))
theorem addC_ok {es : En} (ok : EsOK es) {c : List St} (hc : c ≠ []) (hg : ∀ s ∈ c, Gd s) (hl : ∀ x ∈ chSL c [], x ≠ c → fnd es x ≠ 0) : EsOK (addC es c) := by
  unfold addC
  split
  · rename_i h; exact ok.more hc hg h hl
  · exact ok
/-- What stands ahead of one of a list's chains are its own ones. -/
theorem chain_ahead {l c : List St} {D r : List (List St)} (h : chSL l [] = D ++ c :: r) : chSL c [] = D ++ [c] := by
  have hm : c ∈ chSL l [] := by rw [h]; simp
  obtain ⟨t, ht⟩ := chain_pre hm
  obtain ⟨q, hq⟩ := chSL_end (chain_ne hm) []
  rw [List.nil_append] at hq
  rw [hq] at ht ⊢
  have hn := chSL_nodup l []
  rw [h] at ht hn
  congr 1
  rw [List.append_assoc] at ht
  have key : ∀ (A B C E : List (List St)), A ++ c :: C = B ++ c :: E → c ∉ B → c ∉ A → A = B := fun A => by
    induction A with
    | nil =>
      intro B C E he hb _
      cases B with
      | nil => rfl
      | cons y B => simp at he; exact absurd (by rw [← he.1]; simp) hb
    | cons z A ih =>
      intro B C E he hb ha
      cases B with
      | nil => simp at he; exact absurd (by rw [he.1]; simp) ha
      | cons y B =>
        simp at he hb ha
        rw [he.1, ih B C E he.2 hb.2 ha.2]
  refine key q D t r ht ?_ ?_
  · intro e
    rw [List.nodup_append] at hn
    exact hn.2.2 c e c (by simp) rfl
  · intro e
    have hn2 := chSL_nodup c []
    rw [hq, List.nodup_append] at hn2
    exact hn2.2.2 c e c (by simp) rfl
theorem addC_fnd {es : En} (c x : List St) : fnd (addC es c) x ≠ 0 ↔ fnd es x ≠ 0 ∨ x = c := by
  constructor
  · intro h
    by_cases h0 : fnd es x = 0
    · right
      unfold addC at h
      split at h
      · rw [fnd_more, h0] at h
        simp at h
        exact h.symm
      · exact absurd h0 h
    · exact .inl h0
  · rintro (h | rfl)
    · rw [addC_old h]; exact h
    · exact addC_has es x
theorem addAll_ok' {l : List St} (hg : ∀ s ∈ l, Gd s) : ∀ (D P r : List (List St)) (es : En), EsOK es → (∀ x ∈ P, fnd es x ≠ 0) → chSL l [] = P ++ D ++ r → EsOK (addAll es D)
  | [], _, _, _, ok, _, _ => ok
  | c :: D, P, r, es, ok, hP, h => by
    have h' : chSL l [] = P ++ c :: (D ++ r) := by rw [h]; simp
    have hm : c ∈ chSL l [] := by rw [h']; simp
    show EsOK (addAll (addC es c) D)
    refine addAll_ok' hg D (P ++ [c]) r (addC es c) (addC_ok ok (chain_ne hm) (chain_gd hg hm) (fun x hx hne => ?_)) (fun x hx => ?_) (by rw [h]; simp)
    · rw [chain_ahead h'] at hx
      rcases List.mem_append.1 hx with hx | hx
      · exact hP x hx
      · exact absurd (List.mem_singleton.1 hx) hne
    · rw [addC_fnd]
      rcases List.mem_append.1 hx with hx | hx
      · exact .inl (hP x hx)
      · exact .inr (List.mem_singleton.1 hx)
theorem addAll_ok {es : En} (ok : EsOK es) {l : List St} (hg : ∀ s ∈ l, Gd s) (D r : List (List St)) (h : chSL l [] = D ++ r) : EsOK (addAll es D) := addAll_ok' hg D [] r es ok (by simp) (by simpa using h)
/-- Which chains are there then. -/
theorem addAll_fnd {x : List St} : ∀ (D : List (List St)) (es : En), fnd (addAll es D) x ≠ 0 ↔ fnd es x ≠ 0 ∨ x ∈ D
  | [], es => by simp [addAll]
  | c :: r, es => by
    show fnd (addAll (addC es c) r) x ≠ 0 ↔ _
    rw [addAll_fnd r (addC es c), addC_fnd, List.mem_cons, or_assoc]

/-! ### How often a chain is used -/
def usesL (ls : List (List St)) (x : List St) : Nat := ls.countP fun l => decide (x = [] ∨ x ∈ chSL l [])
def endsL (ls : List (List St)) (x : List St) : Nat := ls.countP fun l => decide (l = x)
theorem usesL_le (ls : List (List St)) (x : List St) : usesL ls x ≤ ls.length := List.countP_le_length
theorem endsL_le (ls : List (List St)) (x : List St) : endsL ls x ≤ ls.length := List.countP_le_length
theorem usesL_pos {ls : List (List St)} {x : List St} (hx : x ≠ []) : 0 < usesL ls x ↔ ∃ l ∈ ls, x ∈ chSL l [] := by
  unfold usesL
  rw [List.countP_pos_iff]
  simp [hx]
theorem endsL_pos {ls : List (List St)} {x : List St} : 0 < endsL ls x ↔ x ∈ ls := by
  unfold endsL
  rw [List.countP_pos_iff]
  simp
theorem usesL_snoc (ls : List (List St)) (l x : List St) : usesL (ls ++ [l]) x = usesL ls x + if x = [] ∨ x ∈ chSL l [] then 1 else 0 := by
  unfold usesL
  rw [List.countP_append, List.countP_singleton]
  simp
theorem endsL_snoc (ls : List (List St)) (l x : List St) : endsL (ls ++ [l]) x = endsL ls x + if l = x then 1 else 0 := by
  unfold endsL
  rw [List.countP_append, List.countP_singleton]
  simp
/-- The lists that there are, and the chains' numbers. -/
structure TL (ls : List (List St)) (es : En) : Prop where
  ok : EsOK es
  rl : ∀ l ∈ ls, Rl l
  all : ∀ x, x ≠ [] → (fnd es x ≠ 0 ↔ 0 < usesL ls x)
theorem TL.nil : TL [] [] := ⟨EsOK.nil, by simp, fun x hx => by simp [usesL, fnd, hx, locE]⟩
theorem TL.add {ls : List (List St)} {es : En} (h : TL ls es) {l : List St} (hl : Rl l) : TL (ls ++ [l]) (addAll es (chSL l [])) := by
  refine ⟨addAll_ok h.ok hl.gd _ [] (by simp), fun x hx => ?_, fun x hx => ?_⟩
  · rcases List.mem_append.1 hx with hx | hx
    · exact h.rl x hx
    · rw [List.mem_singleton.1 hx]; exact hl
  · rw [addAll_fnd, h.all x hx, usesL_snoc]
    by_cases hm : x ∈ chSL l [] <;> simp [hx, hm]
end
end
section
open Go.RowKit Go.Maps Go.WideMaps
set_option maxRecDepth 100000

/-- Block p is a trie with these chains; U, E: how often each number is used, and ended. -/
structure TE (w : World) (c : Nat → Nat) (p : Nat) (es : En) (U E : Nat → Int) : Prop where
  ok : EsOK es
  ex : ∃ nm, NmOK es nm ∧ Tr w c p (ndE es U E) nm (es.length + 1)
structure TEG (w w' : World) (c : Nat → Nat) (p : Nat) (es : En) (U E : Nat → Int) (c' : Nat → Nat) : Prop where
  te : TE w' c' p es U E
  kept : Kept (FT c w) w w'
  old : ∀ b, b < w.heap.size → c' b = c b
  new : ∀ b, w.heap.size ≤ b → c' b = 0 ∨ 4 ≤ c' b
section
variable {w w' w1 w2 : World} {c c' c1 c2 : Nat → Nat} {p : Nat} {es es1 es2 : En} {U E U1 E1 U2 E2 : Nat → Int} {F : Nat → Prop}
theorem TE.kept (h : TE w c p es U E) (hk : Kept F w w') (hF : ∀ b, F b → c b = 0) : TE w' c p es U E := by
  obtain ⟨nm, h1, h2⟩ := h.ex
  exact ⟨h.ok, nm, h1, h2.kept hk hF⟩
theorem TE.keptN (h : TE w c p es U E) (hk : Kept Nil w w') : TE w' c p es U E := h.kept hk (fun _ e => e.elim)
theorem TE.low (h : TE w c p es U E) : ∀ b, c b ≠ 0 → b < w.heap.size := by obtain ⟨nm, h1, h2⟩ := h.ex; exact h2.low
theorem TE.lt (h : TE w c p es U E) : p < w.heap.size := by obtain ⟨nm, h1, h2⟩ := h.ex; exact h2.lt
theorem TE.cp (h : TE w c p es U E) : c p = 1 := by obtain ⟨nm, h1, h2⟩ := h.ex; exact h2.cp
theorem TEG.sub (h : TEG w w1 c p es1 U1 E1 c1) : ∀ b, c1 b ≠ 0 → c b ≠ 0 ∨ w.heap.size ≤ b := fun b e => by
  by_cases hb : b < w.heap.size
  · left; rw [← h.old b hb]; exact e
  · exact .inr (by omega)
theorem TEG.refl (h : TE w c p es U E) : TEG w w c p es U E c := ⟨h, Kept.refl _ _, fun _ _ => rfl, fun b hb => .inl (by
  by_cases e : c b = 0
  · exact e
  · have := h.low b e; omega)⟩
theorem TEG.trans (h : TEG w w1 c p es1 U1 E1 c1) (k : TEG w1 w2 c1 p es2 U2 E2 c2) : TEG w w2 c p es2 U2 E2 c2 :=
  ⟨k.te, h.kept.trans k.kept (fun i hi e => ft_back h.kept (h.old i hi) hi e), fun b hb => (k.old b (Nat.lt_of_lt_of_le hb h.kept.size)).trans (h.old b hb), fun b hb => by
    by_cases h1 : b < w1.heap.size
    · rw [k.old b h1]; exact h.new b hb
    · exact k.new b (by omega)⟩
theorem TEG.thenN (h : TEG w w1 c p es1 U1 E1 c1) (k : Kept Nil w1 w2) : TEG w w2 c p es1 U1 E1 c1 :=
  ⟨h.te.keptN k, h.kept.trans k (fun _ _ e => e.elim), h.old, h.new⟩
theorem TEG.afterN {w0 : World} (k : Kept Nil w0 w) (hl : ∀ b, c b ≠ 0 → b < w0.heap.size) (h : TEG w w1 c p es1 U1 E1 c1) : TEG w0 w1 c p es1 U1 E1 c1 :=
  ⟨h.te, (k.mono (fun _ _ e => e.elim)).trans h.kept (fun i hi e => FT_nil k i hi e), fun b hb => h.old b (Nat.lt_of_lt_of_le hb k.size), fun b hb => by
    by_cases h1 : b < w.heap.size
    · left; rw [h.old b h1]
      by_cases e : c b = 0
      · exact e
      · have := hl b e; omega
    · exact h.new b (by omega)⟩
/-- Another block keeps its colour. -/
theorem TEG.zero (h : TEG w w1 c p es1 U1 E1 c1) {b : Nat} (hb : b < w.heap.size) (hc : c b = 0) : c1 b = 0 := by
  by_cases e : c1 b = 0
  · exact e
  · rcases h.sub b e with e | e
    · exact absurd hc e
    · omega
end

/-! ### Find -/
section
variable {w : World} {c : Nat → Nat} {p : Nat} {es : En} {U E : Nat → Int}
theorem inQ_eq (num : List St → Nat) (d : List St) (hd : SH) (subs : List St) : inQ num d (.mk hd subs) = if hd.k = 3 then num (d ++ subs) else 0 := rfl
theorem number_E (h : TE w c p es U E) (hn : es.length ≤ 3000) (d : List St) (s : St) (hs : Gd s) :
    Calls Tryz.prog 30 #[.pointer (some ⟨p, 0, none⟩), .agg (aSp (shp (fnd es d) s.hd (inQ (fnd es) d s)))] w fun e w' => e = .returned (.int .i64 (fnd es (d ++ [s]) : Nat)) ∧ Kept Nil w w' := by
  obtain ⟨nm, h1, h2⟩ := h.ex
  obtain ⟨hd, subs⟩ := s
  have hin : inQ (fnd es) d (.mk hd subs) ≤ 4000 := by
    rw [inQ_eq]; split
    · have := fnd_lt (es := es) (c := d ++ subs); omega
    · omega
  have hfd := fnd_lt (es := es) (c := d)
  have := number_any h2 (shp (fnd es d) hd (inQ (fnd es) d (.mk hd subs))) (spOK_of hs.hd.1 (by omega) (by omega))
  rw [inQ_eq, h1.find h.ok hs] at this
  exact this
theorem find_next (h : TE w c p es U E) (hn : es.length ≤ 3000) (all : List (List St)) : NextOK w (fnd es) all 30 #[.pointer (some ⟨p, 0, none⟩)] #[] (fun _ F W => (∀ b, ¬ F b) ∧ TE W c p es U E) := by
  refine ⟨enter_ofZ (by rfl) (by decide) (by kernel_rfl), fun D F W hI b hb => absurd hb (hI.1 b), fun D F W W' G hI k hG => ⟨hI.1, hI.2.kept k (fun b e => ?_)⟩, fun D d s F W hI _ _ hs => ?_⟩
  · have := (hG b e).1
    by_cases hz : c b = 0
    · exact hz
    · have := h.low b hz; omega
  · simp only [Array.append_empty]
    exact (number_E hI.2 hn d s hs).mono fun e w' ⟨he, k⟩ => ⟨F, he, ⟨hI.1, hI.2.keptN k⟩, fun b e => .inl e, k.mono (fun _ _ e => e.elim)⟩
theorem number_top (h : TE w c p es U E) : Calls Tryz.prog 30 #[.pointer (some ⟨p, 0, none⟩), .agg (aSp zSp)] w fun e w' => e = .returned (.int .i64 1) ∧ Kept Nil w w' := by
  obtain ⟨nm, h1, h2⟩ := h.ex
  have := number_any h2 zSp spOK_z
  rw [h1.top] at this
  exact this
/-- path by number: the numbers of a list's chains, 0 where there is none. -/
theorem pathN_any (h : TE w c p es U E) (hn : es.length ≤ 3000) (l : List St) (hl : Rl l) {m : Nat} (hm : (chSL l []).length = m) (ok : Nat → Nat → Prop) (hok : ∀ b o, ok b o → b < w.heap.size) (a : Option Addr) (cap : Nat) (hH : SHolds w ok (.slice a l.length cap) l) :
    Calls Tryz.prog 29 #[.slice a l.length cap, .func (.func 30) #[.pointer (some ⟨p, 0, none⟩)] #[]] w fun e w' => ∃ a cap, e = .returned (.slice a (m + 1) cap) ∧ Row cNt 3 1 w' w.heap.size (.slice a (m + 1) cap) (1 :: (chSL l []).map (fnd es)) ∧ Kept Nil w w' := by
  subst hm
  have hP := path_any l (find_next h hn (chSL l [])) (by have := hl.cnt; omega) hl.gd (fnd_nil es) (F := fun _ => False) (Q := fun b => b < w.heap.size) ⟨fun _ => id, h⟩ (fun b e => ⟨e, fun f => f⟩) a cap (hH.mono (fun b o e => hok b o e)) (fun W hI kW => by
    simp only [Array.append_empty]
    exact (number_top hI.2).mono fun e w' ⟨he, k⟩ => ⟨he, fun _ => False, ⟨fun _ => id, hI.2.keptN k⟩, fun b e => .inl e, k.mono (fun _ _ e => e.elim)⟩)
  refine hP.mono ?_
  rintro e w' ⟨F', a', cap', he, hr, hI, hF, _, hk⟩
  exact ⟨a', cap', he, hr, hk⟩
theorem last_chain {l : List St} : (1 :: (chSL l []).map (fnd es))[(chSL l []).length]? = some (fnd es l) := by
  by_cases hl : l = []
  · subst hl; rw [chSL_nil]; simp [fnd_nil]
  · obtain ⟨r, hr⟩ := chSL_end hl []
    rw [hr]
    simp
set_option maxHeartbeats 2000000 in
/-- Find is a chain's number. -/
theorem find_any (h : TE w c p es U E) (hn : es.length ≤ 3000) (l : List St) (hl : Rl l) (ok : Nat → Nat → Prop) (hok : ∀ b o, ok b o → b < w.heap.size) (a : Option Addr) (cap : Nat) (hH : SHolds w ok (.slice a l.length cap) l) :
    Calls Tryz.prog 25 #[.pointer (some ⟨p, 0, none⟩), .slice a l.length cap] w fun e w' => e = .returned (.int .i64 (fnd es l : Nat)) ∧ Kept Nil w w' := by
  have C1 := Lib.hid (tRight_any l hl ok a cap w hH hok)
  obtain ⟨m, hm⟩ : ∃ m, (chSL l []).length = m := ⟨_, rfl⟩
  have C2 := Lib.hid (fun W (kW : Kept Nil w W) => pathN_any (h.keptN kW) hn l hl hm ok (fun b o e => Nat.lt_of_lt_of_le (hok b o e) kW.size) a cap (hH.keptN kW))
  have hlast := last_chain (es := es) (l := l)
  have hch := hl.chs
  rw [hm] at hlast hch
  generalize hln : l.length = len at *
  have HLast := Lib.hid hlast
  generalize hf : fnd es l = f at *
  clear h hH hok hln hm hl hlast hf
  go_enter Tryz.func25, Tryz.ntmps25
  go_wp2_with fail
  refine C1.out.mono ?_
  rintro e w1 ⟨rfl, k1⟩
  have K1 := Lib.hid k1
  clear k1
  go_wp2_with fail
  refine (C2.out _ K1.out).mono ?_
  rintro e w2 ⟨a', cap', rfl, hr, k2⟩
  obtain ⟨b, rfl, hb, _, hc⟩ := hr.get cNt_len (by decide) HLast.out
  have c0 := hc 0 _ rfl
  rw [Nat.mul_one, Nat.add_zero] at c0
  have K2 := Lib.hid (K1.out.trans k2 (fun _ _ e => e))
  have hw : IntKind.i64.wrap (((m + 1 : Nat) : Int) - 1) = (m : Int) := by rw [IntKind.wrap_i64]; omega
  obtain ⟨m1, hm1⟩ : ∃ m1, m + 1 = m1 := ⟨_, rfl⟩
  rw [hm1] at hw hr ⊢
  have hmm : m < m1 := by omega
  clear hr hc k2 hm1
  go_wp2_with fail
  go_ret
  exact ⟨rfl, K2.out⟩
end
end
section
open Go.RowKit Go.Maps Go.WideMaps
set_option maxRecDepth 100000

section
variable {w w' : World} {c c' : Nat → Nat} {p : Nat} {es : En} {U E : Nat → Int}
theorem TG.toE {nm : Sp → Option Nat} {m : Nat} (h : TG w w' c p (ndE es U E) nm m c') (ok : EsOK es) (hnm : NmOK es nm) (hm : m = es.length + 1) : TEG w w' c p es U E c' := by
  subst hm
  exact ⟨⟨ok, nm, hnm, h.tr⟩, h.kept, h.old, h.new⟩
theorem ndE_kids {j : Nat} {x : Nd} (h : ndE es U E j = some x) : x.kids.length ≤ es.length + 2 ∧ x.outer.length ≤ es.length + 2 := by
  unfold ndE at h
  obtain ⟨y, _, rfl⟩ := Option.map_eq_some_iff.1 h
  exact ⟨kidsE_le es j, outerE_le es j⟩
/-- What Add's closure keeps. -/
def AddI (wb : World) (c : Nat → Nat) (p b2 : Nat) (es : En) (U E : Nat → Int) (D : List (List St)) (F : Nat → Prop) (W : World) : Prop :=
  ∃ c1, TEG wb W c p (addAll es D) U E c1 ∧ (∀ b, F b ↔ c1 b ≠ 0) ∧ Blk W b2 23 #[.pointer (some ⟨p, 0, none⟩)]
set_option maxHeartbeats 8000000 in
theorem add_next (h : TE w c p es U E) (l : List St) (hl : Rl l) (hn : es.length ≤ 2000) (hU : ∀ n, es.length + 2 ≤ n → U n = 0 ∧ E n = 0) {b2 : Nat} (hb2 : b2 < w.heap.size) (hc2 : c b2 = 0) :
    NextOK w (fnd (addAll es (chSL l []))) (chSL l []) 37 #[] #[.pointer (some ⟨b2, 0, none⟩)] (AddI w c p b2 es U E) := by
  refine ⟨enter_ofZ (by rfl) (by decide) (by kernel_rfl), fun D F W hI b hb => ?_, fun D F W W' G hI k hG => ?_, fun D d s F W hI hall hsz hgs => ?_⟩
  · obtain ⟨c1, ht, hF, _⟩ := hI
    exact ht.te.low b ((hF b).1 hb)
  · obtain ⟨c1, ht, hF, hb⟩ := hI
    refine ⟨c1, ⟨ht.te.kept k (fun b e => ?_), ht.kept.trans k (fun i hi e => by have := (hG i e).1; omega), ht.old, ht.new⟩, hF, hb.kept k (fun e => by have := (hG _ e).1; omega)⟩
    by_cases hz : c1 b = 0
    · exact hz
    · exact absurd ((hF b).2 hz) (hG b e).2
  · obtain ⟨c1, ht, hF, hb⟩ := hI
    obtain ⟨r, hall⟩ := hall
    obtain ⟨hd, subs⟩ := s
    have hm : d ++ [St.mk hd subs] ∈ chSL l [] := by rw [hall]; simp
    have hah := chain_ahead hall
    have hDl : D.length ≤ 16 := by have h1 := congrArg List.length hall; have := hl.chs; rw [List.length_append] at h1; omega
    have hlen := addAll_len D es
    have hmono := addAll_mono D es
    have hfin : addAll es (chSL l []) = addAll (addAll es D) ((d ++ [St.mk hd subs]) :: r) := by rw [hall, addAll_append]
    have hokD : EsOK (addAll es D) := addAll_ok h.ok hl.gd D ((d ++ [St.mk hd subs]) :: r) hall
    have hgc := chain_gd hl.gd hm
    have hlow : ∀ x ∈ chSL (d ++ [St.mk hd subs]) [], x ≠ d ++ [St.mk hd subs] → fnd (addAll es D) x ≠ 0 := fun x hx hne => by
      rw [hah] at hx
      rcases List.mem_append.1 hx with hx | hx
      · exact addAll_has hx
      · exact absurd (List.mem_singleton.1 hx) hne
    have hpar : fnd (addAll es D) d ≠ 0 := by
      by_cases h0 : d = []
      · rw [h0, fnd_nil]; decide
      · exact hlow d (chain_parent _ h0) (fun e => by have := congrArg List.length e; simp at this)
    have hinn : hd.k = 3 → fnd (addAll es D) (d ++ subs) ≠ 0 := fun hk => by
      refine hlow _ (chain_inner hk (hgs.hd.2.2 hk).1) (fun e => ?_)
      have e2 : subs = [.mk hd subs] := List.append_cancel_left e
      have e3 := congrArg cntL e2
      rw [cntL, St.cnt, cntL] at e3
      omega
    generalize hesD : addAll es D = esD at *
    have e1 : fnd (addAll es (chSL l [])) d = fnd esD d := by rw [hfin]; exact addAll_old _ hpar
    have e2 : inQ (fnd (addAll es (chSL l []))) d (.mk hd subs) = inQ (fnd esD) d (.mk hd subs) := by
      rw [inQ_eq, inQ_eq]
      split
      · rename_i hk; rw [hfin]; exact addAll_old _ (hinn hk)
      · rfl
    have e3 : fnd (addAll es (chSL l [])) (d ++ [St.mk hd subs]) = fnd (addC esD (d ++ [St.mk hd subs])) (d ++ [St.mk hd subs]) := by
      rw [hfin]
      exact addAll_old r (addC_has esD _)
    have hsnoc : addAll es (D ++ [d ++ [St.mk hd subs]]) = addC esD (d ++ [St.mk hd subs]) := by rw [addAll_snoc, hesD]
    rw [e1, e2, e3]
    simp only [St.hd]
    have kA : Kept Nil W (W.alloc (.cells (aSp (shp (fnd esD d) hd (inQ (fnd esD) d (.mk hd subs)))) 62)) := (Kept.refl _ _).alloc _
    have bS : Blk (W.alloc (.cells (aSp (shp (fnd esD d) hd (inQ (fnd esD) d (.mk hd subs)))) 62)) W.heap.size 62 (aSp (shp (fnd esD d) hd (inQ (fnd esD) d (.mk hd subs)))) := Blk.new _ _ _
    have CN := Lib.hid (number_E (ht.te.keptN kA) (by omega) d (.mk hd subs) hgs)
    simp only [St.hd] at CN
    have hfd := fnd_lt (es := esD) (c := d)
    have hin : inQ (fnd esD) d (.mk hd subs) ≤ esD.length + 1 := by
      rw [inQ_eq]; split
      · exact fnd_lt
      · omega
    by_cases hz : fnd esD (d ++ [St.mk hd subs]) = 0
    · -- a new one
      have hnew : NewC esD d hd subs := ⟨hokD, hgs, fun s hs => hgc s (List.mem_append_left _ hs), hz, hlow⟩
      have hac : addC esD (d ++ [St.mk hd subs]) = esD ++ [(d ++ [St.mk hd subs], true)] := by unfold addC; rw [if_pos hz]
      have hfc : fnd (addC esD (d ++ [St.mk hd subs])) (d ++ [St.mk hd subs]) = esD.length + 2 := by rw [hac, fnd_more, if_neg (by omega), if_pos rfl]
      have CP : Hid (∀ W2, Kept Nil W W2 → Calls Tryz.prog 16 #[.pointer (some ⟨p, 0, none⟩), .agg (aSp (shp (fnd esD d) hd (inQ (fnd esD) d (.mk hd subs))))] W2 fun e w' => e = .returned (.int .i64 (fnd (addC esD (d ++ [St.mk hd subs])) (d ++ [St.mk hd subs]) : Nat)) ∧ ∃ c', TEG W2 w' c1 p (addC esD (d ++ [St.mk hd subs])) U E c') := Lib.hid fun W2 k2 => by
        obtain ⟨nm, hnm, htr⟩ := (ht.te.keptN k2).ex
        have hp := put_any htr (by omega) (shp (fnd esD d) hd (inQ (fnd esD) d (.mk hd subs))) (spOK_of hgs.hd.1 (by omega) (by omega)) (fnd esD d) (inQ (fnd esD) d (.mk hd subs)) rfl rfl (by omega) (by omega) (fun j x hx => by have := ndE_kids hx; omega)
        refine hp.mono ?_
        rintro e w' ⟨he, c', tg⟩
        rw [hfc, hac]
        refine ⟨he, c', ?_⟩
        have hUz := hU (esD.length + 2) (by omega)
        have hnd := hnew.nd hUz.1 hUz.2
        have hnm' := hnew.nm hnm
        rw [← inQ_eq (fnd esD) d hd subs] at hnd hnm'
        have e5 : (setF nm (shp (fnd esD d) hd (inQ (fnd esD) d (.mk hd subs))) (some (esD.length + 1 + 1))) = fun s => if s = shp (fnd esD d) hd (inQ (fnd esD) d (.mk hd subs)) then some (esD.length + 2) else nm s := rfl
        rw [e5] at tg
        have e6 : addO (addK (setF (ndE esD U E) (esD.length + 1 + 1) (some ⟨shp (fnd esD d) hd (inQ (fnd esD) d (.mk hd subs)), [], [], 0, 0⟩)) (fnd esD d) (esD.length + 1 + 1)) (inQ (fnd esD) d (.mk hd subs)) (esD.length + 1 + 1) = ndE (esD ++ [(d ++ [St.mk hd subs], true)]) U E := hnd.symm
        rw [e6] at tg
        exact tg.toE hnew.next hnm' (by simp)
      rw [hz] at CN
      have HAC := Lib.hid hfc
      have HE : Hid (∀ W2 W3 c3, Kept Nil W W2 → TEG W2 W3 c1 p (addC esD (d ++ [St.mk hd subs])) U E c3 → ∃ F', AddI w c p b2 es U E (D ++ [d ++ [St.mk hd subs]]) F' W3 ∧ (∀ b, F' b → F b ∨ W.heap.size ≤ b) ∧ Kept F W W3) := Lib.hid fun W2 W3 c3 k2 t3 => by
        have t13 := ht.trans (TEG.afterN k2 ht.te.low t3)
        refine ⟨fun b => c3 b ≠ 0, ⟨c3, by rw [hsnoc]; exact t13, fun b => Iff.rfl, (hb.kept k2 (fun e => e)).kept t3.kept (fun e => e.1 (ht.zero hb2 hc2))⟩, fun b e => ?_, ((k2.mono (fun _ _ e => e.elim)).trans t3.kept (fun i hi e => (hF i).2 e.1))⟩
        rcases t3.sub b e with g1 | g1
        · exact .inl ((hF b).2 g1)
        · exact .inr (Nat.le_trans k2.size g1)
      have HBS := Lib.hid bS
      have HKA := Lib.hid kA
      have c2 := (hb.kept kA (fun e => e)).cell 0
      simp at c2
      have HB := Lib.hid hb
      clear hfc hac hnew bS kA hb ht hF hlow hpar hinn e1 e2 e3 hsnoc hfin hokD hgc hm hah hall h hU hz hgs hfd hin
      generalize shp (fnd esD d) hd (inQ (fnd esD) d (.mk hd subs)) = sp at *
      generalize fnd (addC esD (d ++ [St.mk hd subs])) (d ++ [St.mk hd subs]) = z at *
      simp only [Array.empty_append]
      show Calls Tryz.prog 37 #[.agg (aSp sp), .pointer (some ⟨b2, 0, none⟩)] W _
      go_enter Tryz.func37, Tryz.ntmps37
      go_wp2_with (refine wpList_load_Sp rfl (.tmp 2) rfl _ rfl sp HBS.out ?_)
      refine CN.out.mono ?_
      rintro e W2 ⟨rfl, k2⟩
      have K2 := Lib.hid (HKA.out.trans k2 (fun _ _ e => e))
      have HB22 := Lib.hid (HBS.out.kept k2 (fun e => e))
      have c22 := (HB.out.kept K2.out (fun e => e)).cell 0
      simp at c22
      clear k2 c2
      go_wp2_with (refine wpList_load_Sp rfl (.tmp 2) rfl _ rfl sp HB22.out ?_)
      refine (CP.out W2 K2.out).mono ?_
      rintro e W3 ⟨rfl, c3, t3⟩
      obtain ⟨F', g1, g2, g3⟩ := HE.out W2 W3 c3 K2.out t3
      have HG := Lib.hid (And.intro g1 (And.intro g2 g3))
      clear t3 g1 g2 g3 HE CP
      go_wp2_with fail
      go_ret
      exact ⟨F', rfl, HG.out.1, HG.out.2.1, HG.out.2.2⟩
    · -- one that is there
      have hac : addC esD (d ++ [St.mk hd subs]) = esD := by unfold addC; rw [if_neg hz]
      rw [hac]
      have HE : Hid (∀ W2, Kept Nil W W2 → ∃ F', AddI w c p b2 es U E (D ++ [d ++ [St.mk hd subs]]) F' W2 ∧ (∀ b, F' b → F b ∨ W.heap.size ≤ b) ∧ Kept F W W2) := Lib.hid fun W2 k2 => by
        refine ⟨F, ⟨c1, by rw [hsnoc, hac]; exact ht.thenN k2, hF, hb.kept k2 (fun e => e)⟩, fun b e => .inl e, k2.mono (fun _ _ e => e.elim)⟩
      have HBS := Lib.hid bS
      have HKA := Lib.hid kA
      have c2 := (hb.kept kA (fun e => e)).cell 0
      simp at c2
      have hzi : ((fnd esD (d ++ [St.mk hd subs]) : Nat) : Int) ≠ 0 := by omega
      clear hac bS kA hb ht hF hlow hpar hinn e1 e2 e3 hsnoc hfin hokD hgc hm hah hall h hU hgs hfd hin hz
      generalize shp (fnd esD d) hd (inQ (fnd esD) d (.mk hd subs)) = sp at *
      generalize fnd esD (d ++ [St.mk hd subs]) = z at *
      have hzb : ((z : Int) != 0) = true := bne_iff_ne.2 hzi
      simp only [Array.empty_append]
      show Calls Tryz.prog 37 #[.agg (aSp sp), .pointer (some ⟨b2, 0, none⟩)] W _
      go_enter Tryz.func37, Tryz.ntmps37
      go_wp2_with (refine wpList_load_Sp rfl (.tmp 2) rfl _ rfl sp HBS.out ?_)
      refine CN.out.mono ?_
      rintro e W2 ⟨rfl, k2⟩
      obtain ⟨F', g1, g2, g3⟩ := HE.out W2 (HKA.out.trans k2 (fun _ _ e => e))
      have HG := Lib.hid (And.intro g1 (And.intro g2 g3))
      clear g1 g2 g3 HE k2
      go_wp2_with fail
      go_ret
      exact ⟨F', rfl, HG.out.1, HG.out.2.1, HG.out.2.2⟩
end
end
section
open Go.RowKit Go.Maps Go.WideMaps
set_option maxRecDepth 100000

/-- Numbers counted once more for each time that they stand in a list. -/
def bump (U : Nat → Int) (L : List Nat) (n : Nat) : Int := U n + (L.count n : Nat)
theorem bump_nil (U : Nat → Int) : bump U [] = U := by funext n; simp [bump]
theorem bump_snoc (U : Nat → Int) (L : List Nat) (i : Nat) : bump U (L ++ [i]) = bump (bump U L) [i] := by
  funext n; unfold bump; rw [List.count_append]; omega
theorem bump_one (U : Nat → Int) (i n : Nat) : bump U [i] n = if n = i then U n + 1 else U n := by
  unfold bump
  rw [List.count_singleton]
  by_cases h : n = i
  · subst h; simp
  · have : (i == n) = false := by simp; omega
    simp [this, h]
section
variable {es : En} {U E : Nat → Int}
theorem ndE_incU {i : Nat} {d : Nd} (h : ndE es U E i = some d) : setF (ndE es U E) i (some { d with us := d.us + 1 }) = ndE es (bump U [i]) E := by
  funext j
  by_cases hj : j = i
  · subst hj
    rw [setF_same]
    unfold ndE at h ⊢
    obtain ⟨x, hx, rfl⟩ := Option.map_eq_some_iff.1 h
    rw [hx, Option.map_some, bump_one, if_pos rfl]
  · rw [setF_other _ _ hj]
    unfold ndE
    rw [bump_one, if_neg hj]
theorem ndE_incE {i : Nat} {d : Nd} (h : ndE es U E i = some d) : setF (ndE es U E) i (some { d with li := d.li + 1 }) = ndE es U (bump E [i]) := by
  funext j
  by_cases hj : j = i
  · subst hj
    rw [setF_same]
    unfold ndE at h ⊢
    obtain ⟨x, hx, rfl⟩ := Option.map_eq_some_iff.1 h
    rw [hx, Option.map_some, bump_one, if_pos rfl]
  · rw [setF_other _ _ hj]
    unfold ndE
    rw [bump_one, if_neg hj]
theorem ndE_us {i : Nat} {d : Nd} (h : ndE es U E i = some d) : d.us = U i ∧ d.li = E i := by
  unfold ndE at h
  obtain ⟨x, hx, rfl⟩ := Option.map_eq_some_iff.1 h
  exact ⟨rfl, rfl⟩
theorem ndE_at (ok : EsOK es) {x : List St} (h : fnd es x ≠ 0) : ∃ d, ndE es U E (fnd es x) = some d := by
  unfold ndE
  rw [(ent_fnd ok).2 ⟨h, rfl⟩]
  exact ⟨_, rfl⟩
end
section
variable {w w' : World} {c c' : Nat → Nat} {p : Nat} {es : En} {U E : Nat → Int}
theorem ch_incU_E (h : TE w c p es U E) (hn : es.length ≤ 3000) {x : List St} {i : Nat} (hi : fnd es x = i) (hz : i ≠ 0) (hu : -1000000 ≤ U i ∧ U i ≤ 1000000) :
    Calls Tryz.prog 26 #[.pointer (some ⟨p, 0, none⟩), .int .i64 i, .func (.func 38) #[] #[]] w fun e w' => e = .returned (.tuple #[]) ∧ ∃ c', TEG w w' c p es (bump U [i]) E c' := by
  obtain ⟨nm, h1, h2⟩ := h.ex
  obtain ⟨d, hd⟩ := ndE_at (U := U) (E := E) h.ok (x := x) (by omega)
  rw [hi] at hd
  refine (ch_incU h2 (by omega) i hd (by rw [(ndE_us hd).1]; exact hu)).mono ?_
  rintro e w' ⟨he, c', tg⟩
  rw [ndE_incU hd] at tg
  exact ⟨he, c', tg.toE h.ok h1 rfl⟩
theorem ch_incE_E (h : TE w c p es U E) (hn : es.length ≤ 3000) {x : List St} {i : Nat} (hi : fnd es x = i) (hz : i ≠ 0) (hu : -1000000 ≤ E i ∧ E i ≤ 1000000) :
    Calls Tryz.prog 26 #[.pointer (some ⟨p, 0, none⟩), .int .i64 i, .func (.func 39) #[] #[]] w fun e w' => e = .returned (.tuple #[]) ∧ ∃ c', TEG w w' c p es U (bump E [i]) c' := by
  obtain ⟨nm, h1, h2⟩ := h.ex
  obtain ⟨d, hd⟩ := ndE_at (U := U) (E := E) h.ok (x := x) (by omega)
  rw [hi] at hd
  refine (ch_incL h2 (by omega) i hd (by rw [(ndE_us hd).2]; exact hu)).mono ?_
  rintro e w' ⟨he, c', tg⟩
  rw [ndE_incE hd] at tg
  exact ⟨he, c', tg.toE h.ok h1 rfl⟩
/-- The numbers of a list's chains, the top's ahead. -/
def idsE (es : En) (l : List St) : List Nat := 1 :: (chSL l []).map (fnd es)
theorem idsE_len (es : En) (l : List St) : (idsE es l).length = (chSL l []).length + 1 := by simp [idsE]
theorem idsE_at {es : En} {l : List St} (hall : ∀ x ∈ chSL l [], fnd es x ≠ 0) {j i : Nat} (h : (idsE es l)[j]? = some i) : ∃ x, fnd es x = i ∧ i ≠ 0 := by
  unfold idsE at h
  rcases List.mem_cons.1 (List.mem_of_getElem? h) with rfl | hm
  · exact ⟨[], fnd_nil es, by decide⟩
  · obtain ⟨x, hx, rfl⟩ := List.mem_map.1 hm
    exact ⟨x, rfl, hall x hx⟩
theorem idsE_last {es : En} {l : List St} : (idsE es l)[(chSL l []).length]? = some (fnd es l) := last_chain
def SAdd (b2 p b j z : Nat) (w : World) : Prop := w.cell? ⟨b2, 0, none⟩ = some (.pointer (some ⟨p, 0, none⟩)) ∧ w.cell? ⟨b, j, none⟩ = some (.int .i64 z)
/-- What Add leaves. -/
def AddEnd (c : Nat → Nat) (p : Nat) (es' : En) (U' E' : Nat → Int) (L : List Nat) (m : Nat) (w : World) (e : Ending) (w' : World) : Prop :=
  ∃ a cp c', e = .returned (.slice a m cp) ∧ In cNt 1 w' a m L ∧ (∀ b, (Value.slice a m cp).ownBlock = some b → w.heap.size ≤ b ∧ b < w'.heap.size ∧ c' b = 0) ∧ m ≤ cp ∧ TEG w w' c p es' U' E' c'
set_option maxHeartbeats 8000000 in
theorem add_any (h : TE w c p es U E) (l : List St) (hl : Rl l) (hn : es.length ≤ 2000) (hU : ∀ n, es.length + 2 ≤ n → U n = 0 ∧ E n = 0) (hb : ∀ n, (-1000 ≤ U n ∧ U n ≤ 1000) ∧ -1000 ≤ E n ∧ E n ≤ 1000) (ok : Nat → Nat → Prop) (hok : ∀ b o, ok b o → b < w.heap.size ∧ c b = 0) (a : Option Addr) (cap : Nat) (hH : SHolds w ok (.slice a l.length cap) l) :
    Calls Tryz.prog 14 #[.pointer (some ⟨p, 0, none⟩), .slice a l.length cap] w (AddEnd c p (addAll es (chSL l [])) (bump U (idsE (addAll es (chSL l [])) l)) (bump E [fnd (addAll es (chSL l [])) l]) ((chSL l []).map (fnd (addAll es (chSL l [])))) (chSL l []).length w) := by
  obtain ⟨m, hm⟩ : ∃ m, (chSL l []).length = m := ⟨_, rfl⟩
  rw [hm]
  obtain ⟨b2, hb2e⟩ : ∃ b2, w.heap.size = b2 := ⟨_, rfl⟩
  have kA : Kept Nil w (w.alloc (.cells #[.pointer (some ⟨p, 0, none⟩)] 23)) := (Kept.refl _ _).alloc _
  have bB : Blk (w.alloc (.cells #[.pointer (some ⟨p, 0, none⟩)] 23)) b2 23 #[.pointer (some ⟨p, 0, none⟩)] := by rw [← hb2e]; exact Blk.new _ _ _
  have hc2 : c b2 = 0 := by
    by_cases e : c b2 = 0
    · exact e
    · have := h.low b2 e; omega
  have hch := hl.chs
  rw [hm] at hch
  have C1 := Lib.hid (fun W (kW : Kept Nil w W) => tRight_any l hl ok a cap W (hH.keptN kW) (fun b o e => Nat.lt_of_lt_of_le (hok b o e).1 kW.size))
  have hlen := addAll_len (chSL l []) es
  have hesl : (addAll es (chSL l [])).length ≤ 2016 := by omega
  have hall : ∀ x ∈ chSL l [], fnd (addAll es (chSL l [])) x ≠ 0 := fun x hx => addAll_has hx
  have C2 : Hid (∀ W, Kept Nil w W → Blk W b2 23 #[.pointer (some ⟨p, 0, none⟩)] → Calls Tryz.prog 29 #[.slice a l.length cap, .func (.func 37) #[] #[.pointer (some ⟨b2, 0, none⟩)]] W fun e w' => ∃ a cap c1, e = .returned (.slice a (m + 1) cap) ∧ Row cNt 3 1 w' W.heap.size (.slice a (m + 1) cap) (idsE (addAll es (chSL l [])) l) ∧ (∀ b, (Value.slice a (m + 1) cap).ownBlock = some b → c1 b = 0) ∧ TEG W w' c p (addAll es (chSL l [])) U E c1 ∧ Blk w' b2 23 #[.pointer (some ⟨p, 0, none⟩)]) := Lib.hid fun W kW bW => by
    have hP := path_any l (add_next (h.keptN kW) l hl hn hU bW.lt hc2) (by have := hl.cnt; omega) hl.gd (fnd_nil _) (F := fun b => c b ≠ 0) (Q := fun b => b < w.heap.size ∧ c b = 0) ⟨c, TEG.refl (h.keptN kW), fun b => Iff.rfl, bW⟩ (fun b e => ⟨Nat.lt_of_lt_of_le e.1 kW.size, fun f => f e.2⟩) a cap ((hH.keptN kW).mono (fun b o e => hok b o e)) (fun W1 hI k1 => by
      obtain ⟨c1, t1, hF1, bb⟩ := hI
      have kS : Kept Nil W1 (W1.alloc (.cells (aSp zSp) 62)) := (Kept.refl _ _).alloc _
      have bS : Blk (W1.alloc (.cells (aSp zSp) 62)) W1.heap.size 62 (aSp zSp) := Blk.new _ _ _
      have CT := Lib.hid (number_top (t1.te.keptN kS))
      have HBS := Lib.hid bS
      have HE : Hid (∀ W2, Kept Nil W1 W2 → ∃ F', AddI W c p b2 es U E [] F' W2 ∧ (∀ b, F' b → (fun b => c b ≠ 0) b ∨ W1.heap.size ≤ b) ∧ Kept (fun b => c b ≠ 0) W1 W2) := Lib.hid fun W2 k2 => ⟨fun b => c1 b ≠ 0, ⟨c1, t1.thenN k2, fun b => Iff.rfl, bb.kept k2 (fun e => e)⟩, fun b e => .inl ((hF1 b).2 e), k2.mono (fun _ _ e => e.elim)⟩
      have c2 := (bb.kept kS (fun e => e)).cell 0
      simp at c2
      have HKS := Lib.hid kS
      clear bS kS t1 hF1 bb hall hlen hU hb hok hH h
      generalize zSp = sp at *
      simp only [Array.empty_append]
      show Calls Tryz.prog 37 #[.agg (aSp sp), .pointer (some ⟨b2, 0, none⟩)] W1 _
      go_enter Tryz.func37, Tryz.ntmps37
      go_wp2_with (refine wpList_load_Sp rfl (.tmp 2) rfl _ rfl sp HBS.out ?_)
      refine CT.out.mono ?_
      rintro e W2 ⟨rfl, k2⟩
      obtain ⟨F', g1, g2, g3⟩ := HE.out W2 (HKS.out.trans k2 (fun _ _ e => e))
      have HG := Lib.hid (And.intro g1 (And.intro g2 g3))
      clear g1 g2 g3 HE k2
      go_wp2_with fail
      go_ret
      exact ⟨rfl, F', HG.out.1, HG.out.2.1, HG.out.2.2⟩)
    refine hP.mono ?_
    rintro e w' ⟨F', a', cap', he, hr, hI, hF', hown, hk⟩
    obtain ⟨c1, t1, hFc, bb⟩ := hI
    rw [hm] at he hr hown
    exact ⟨a', cap', c1, he, hr, fun b e => by
      by_cases hz : c1 b = 0
      · exact hz
      · exact absurd ((hFc b).2 hz) (hown b e), t1, bb⟩
  have hlast := idsE_last (es := addAll es (chSL l [])) (l := l)
  have hidl := idsE_len (addAll es (chSL l [])) l
  rw [hm] at hlast hidl
  have hlz : fnd (addAll es (chSL l [])) l ≠ 0 := by
    by_cases h0 : l = []
    · rw [h0, fnd_nil]; decide
    · exact hall l (chain_self h0)
  have HAT : Hid (∀ j i, (idsE (addAll es (chSL l [])) l)[j]? = some i → ∃ x, fnd (addAll es (chSL l [])) x = i ∧ i ≠ 0) := Lib.hid fun j i hj => idsE_at hall hj
  have HIDS : Hid (idsE (addAll es (chSL l [])) l = 1 :: (chSL l []).map (fnd (addAll es (chSL l [])))) := Lib.hid rfl
  have HLZ := Lib.hid hlz
  have HB := Lib.hid hb
  have HBb := Lib.hid bB
  have HKA := Lib.hid kA
  have HLAST := Lib.hid hlast
  have HIDL := Lib.hid hidl
  have HESL := Lib.hid hesl
  obtain ⟨len, hln⟩ : ∃ len, l.length = len := ⟨_, rfl⟩
  rw [hln] at C1 C2 ⊢
  have HCH := Lib.hid hm
  have HB2 := Lib.hid (And.intro hb2e hc2)
  have HLOW := Lib.hid h.low
  clear h hU hb hok hH hlen hall hln hm bB kA hlz hlast hidl hesl hb2e hc2 hl
  generalize addAll es (chSL l []) = es' at *
  generalize hids : idsE es' l = ids at *
  clear hids
  generalize hz : fnd es' l = z at *
  have HZ := Lib.hid hz
  clear hz
  go_enter Tryz.func14, Tryz.ntmps14
  go_wp2_with fail
  refine (C1.out _ HKA.out).mono ?_
  rintro e w1 ⟨rfl, k1⟩
  have K1 := Lib.hid (HKA.out.trans k1 (fun _ _ e => e))
  have HB1 := Lib.hid (HBb.out.kept k1 (fun e => e))
  clear k1
  go_wp2_with fail
  simp only [HB2.out.1]
  refine (C2.out w1 K1.out HB1.out).mono ?_
  rintro e w2 ⟨a2, cap2, c2, rfl, hr, hown, t2, bb2⟩
  have HT2 := Lib.hid (TEG.afterN K1.out HLOW.out t2)
  have HR := Lib.hid hr
  have HO := Lib.hid hown
  have HBB := Lib.hid bb2
  have hc20 : Hid (c2 b2 = 0) := Lib.hid (t2.zero HB1.out.lt HB2.out.2)
  have hcaps : m + 1 ≤ cap2 := hr.caps.2.1
  obtain ⟨b, rfl, hbl, hbw, _⟩ := hr.get cNt_len (by decide) HLAST.out
  have HOWN : Hid (c2 b = 0 ∧ w.heap.size ≤ b) := Lib.hid ⟨hown b rfl, Nat.le_trans K1.out.size hbw⟩
  obtain ⟨m1, hm1⟩ : ∃ m1, m + 1 = m1 := ⟨_, rfl⟩
  rw [hm1] at HR HIDL hcaps ⊢
  have HM1 := Lib.hid hm1
  have hmm : m1 ≤ 17 := by omega
  clear hr hown t2 bb2 hm1 C1 C2 hbw
  go_wp2_with fail
  go_loopw [16] (fun i wr => ∃ (j : Nat) (c3 : Nat → Nat), j ≤ m1 ∧ i = .int .i64 j ∧ TEG w wr c p es' (bump U (ids.take j)) E c3 ∧ Blk wr b2 23 #[.pointer (some ⟨p, 0, none⟩)] ∧ Row cNt 3 1 wr 0 (.slice (some ⟨b, 0, none⟩) m1 cap2) ids ∧ c3 b2 = 0 ∧ c3 b = 0) (fun i _ => m1 - (intOf i).toNat)
  case atStart =>
    refine ⟨0, c2, Nat.zero_le _, rfl, ?_, HBB.out, HR.out.down (Nat.zero_le _), hc20.out, HOWN.out.1⟩
    rw [List.take_zero, bump_nil]; exact HT2.out
  case round =>
    obtain ⟨j, c3, hj, rfl, hT, hB, hR3, hz2, hzb⟩ := hrel
    have HT := Lib.hid hT
    have HBr := Lib.hid hB
    have HRr := Lib.hid hR3
    have HZ3 := Lib.hid (And.intro hz2 hzb)
    have y2 := hB.cell 0
    simp at y2
    clear hT hR3 hz2 hzb
    by_cases hlt : j < m1
    · obtain ⟨i, hi⟩ : ∃ i, ids[j]? = some i := ⟨_, List.getElem?_eq_getElem (by have := HIDL.out; omega)⟩
      obtain ⟨g, e, hgl, _, hgc⟩ := HRr.out.get cNt_len (by decide) hi
      cases e
      have x0 := hgc 0 _ rfl
      rw [Nat.mul_one, Nat.add_zero] at x0
      obtain ⟨x, hx, hi0⟩ := HAT.out j i hi
      have hcnt : ((ids.take j).count i : Nat) ≤ 17 := by
        have h1 := List.count_le_length (a := i) (l := ids.take j)
        rw [List.length_take] at h1; omega
      have CI := Lib.hid (ch_incU_E HT.out.te (by have := HESL.out; omega) hx hi0 (by have := (HB.out i).1; unfold bump; omega))
      have HTK : Hid (ids.take (j + 1) = ids.take j ++ [i]) := Lib.hid (by rw [List.take_add_one, hi]; rfl)
      clear hi hgc hx hcnt hB
      go_wp2_with fail
      refine CI.out.mono ?_
      rintro e w3 ⟨rfl, c4, t4⟩
      have HT4 := Lib.hid t4
      have HB4 := Lib.hid (HBr.out.kept t4.kept (fun e => e.1 HZ3.out.1))
      have HR4 := Lib.hid (HRr.out.keptF t4.kept (fun b' e f => by
        have : b = b' := Option.some.inj e
        rw [← this] at f; exact f.1 HZ3.out.2))
      have HZ4 := Lib.hid (And.intro (t4.zero HBr.out.lt HZ3.out.1) (t4.zero hgl HZ3.out.2))
      clear t4 CI
      go_wp2_with fail
      go_roundw
      case rel =>
        refine ⟨j + 1, c4, by omega, by go_num, ?_, HB4.out, HR4.out, HZ4.out.1, HZ4.out.2⟩
        rw [HTK.out, bump_snoc]; exact HT.out.trans HT4.out
      case measure => simp [intOf]; omega
    · obtain rfl : m1 = j := by omega
      have HTF : Hid (TEG w wr c p es' (bump U ids) E c3) := Lib.hid (by have := HT.out; rwa [List.take_of_length_le (by have := HIDL.out; omega)] at this)
      obtain ⟨g, e, hgl, _, hgc⟩ := HRr.out.get cNt_len (by decide) HLAST.out
      cases e
      have x0 := hgc 0 _ rfl
      rw [Nat.mul_one, Nat.add_zero] at x0
      have S0 : Hid (SAdd b2 p b m z wr.drew) := Lib.hid ⟨y2, x0⟩
      have CE := Lib.hid (ch_incE_E (HTF.out.te.keptN ((Kept.refl Nil wr).drew)) (by have := HESL.out; omega) HZ.out HLZ.out (by have := (HB.out z).2; omega))
      have hw1 : IntKind.i64.wrap ((m1 : Int) - 1) = (m : Int) := by have := HM1.out; rw [IntKind.wrap_i64]; omega
      have hmlt : m < m1 := by have := HM1.out; omega
      clear hgc x0 hB
      go_wp2_with fail
      refine wp_region_held (SAdd b2 p b m z) (by kernel_rfl) ?_
      refine takeH (i := 0) (some 24) (.pointer (some ⟨p, 0, none⟩)) rfl rfl (by kernel_rfl) (by kernel_rfl) (by kernel_rfl) (fun _ _ _ h => h) (by rfl) S0.out ?_ ?_
      · intro w hSw
        have h1 := hSw.1; go_simp
      simp only [Act.put, List.setIfInBounds_toArray, List.set_cons_succ, List.set_cons_zero]
      refine takeH (i := 1) (some 25) (.slice (some ⟨b, 0, none⟩) m1 cap2) rfl rfl (by kernel_rfl) (by kernel_rfl) (by kernel_rfl) (fun _ _ _ h => h) (by rfl) S0.out ?_ ?_
      · intro w hSw
        go_simp
      simp only [Act.put, List.setIfInBounds_toArray, List.set_cons_succ, List.set_cons_zero]
      refine takeH (i := 2) (some 26) (.slice (some ⟨b, 0, none⟩) m1 cap2) rfl rfl (by kernel_rfl) (by kernel_rfl) (by kernel_rfl) (fun _ _ _ h => h) (by rfl) S0.out ?_ ?_
      · intro w hSw
        go_simp
      simp only [Act.put, List.setIfInBounds_toArray, List.set_cons_succ, List.set_cons_zero]
      refine takeH (i := 3) (some 27) (.int .i64 m1) rfl rfl (by kernel_rfl) (by kernel_rfl) (by kernel_rfl) (fun _ _ _ h => h) (by rfl) S0.out ?_ ?_
      · intro w hSw
        go_simp
      simp only [Act.put, List.setIfInBounds_toArray, List.set_cons_succ, List.set_cons_zero]
      refine takeH (i := 4) (some 28) (.int .i64 m) rfl rfl (by kernel_rfl) (by kernel_rfl) (by kernel_rfl) (fun _ _ _ h => h) (by rfl) S0.out ?_ ?_
      · intro w hSw
        go_simp
      simp only [Act.put, List.setIfInBounds_toArray, List.set_cons_succ, List.set_cons_zero]
      refine takeH (i := 5) (some 29) (.pointer (some ⟨b, m, none⟩)) rfl rfl (by kernel_rfl) (by kernel_rfl) (by kernel_rfl) (fun _ _ _ h => h) (by rfl) S0.out ?_ ?_
      · intro w hSw
        go_simp
      simp only [Act.put, List.setIfInBounds_toArray, List.set_cons_succ, List.set_cons_zero]
      refine takeH (i := 6) (some 30) (.int .i64 z) rfl rfl (by kernel_rfl) (by kernel_rfl) (by kernel_rfl) (fun _ _ _ h => h) (by rfl) S0.out ?_ ?_
      · intro w hSw
        have h1 := hSw.2; go_simp
      simp only [Act.put, List.setIfInBounds_toArray, List.set_cons_succ, List.set_cons_zero]
      refine wpAnyH_all (rs := [7]) (by kernel_rfl) (by decide) (forall_one ?_)
      refine wpOp_of rfl rfl (call_wp (some 31) rfl 26 #[.tmp 24, .tmp 30, .func 39] #[23, 3, 92] rfl (enter_ofZ (by rfl) (by decide) (by kernel_rfl)) #[.pointer (some ⟨p, 0, none⟩), .int .i64 z, .func (.func 39) #[] #[]] (by simp [Act.eval]) CE.out ?_)
      rintro e w4 ⟨rfl, c5, t5⟩
      have HT5 := Lib.hid (TEG.trans HTF.out (TEG.afterN ((Kept.refl Nil wr).drew) HTF.out.te.low t5))
      have S5 : Hid (SAdd b2 p b m z w4) := Lib.hid ⟨by rw [t5.kept.cell HBr.out.lt (fun e => e.1 HZ3.out.1)]; exact S0.out.1, by rw [t5.kept.cell hgl (fun e => e.1 HZ3.out.2)]; exact S0.out.2⟩
      have HR5 := Lib.hid ((HRr.out.keptN ((Kept.refl Nil wr).drew)).keptF t5.kept (fun b' e f => by
        have : b = b' := Option.some.inj e
        rw [← this] at f; exact f.1 HZ3.out.2))
      have HC5 : Hid (c5 b = 0) := Lib.hid (t5.zero hgl HZ3.out.2)
      have HK5 := Lib.hid (show wr.heap.size ≤ w4.heap.size from t5.kept.size)
      clear t5 CE
      refine ⟨_, rfl, S5.out, ?_⟩
      simp only [Act.put, List.setIfInBounds_toArray, List.set_cons_succ, List.set_cons_zero]
      refine wpAnyH_done (by kernel_rfl) ?_ _
      have HIn : Hid (In cNt 1 w4 (some ⟨b, 1, none⟩) m ((chSL l []).map (fnd es')) ∧ (m = 0 → In cNt 1 w4 (some ⟨b, 0, none⟩) m ((chSL l []).map (fnd es')))) := Lib.hid (by
        have hI := HR5.out.toIn cNt_len (by decide)
        have hml : ((chSL l []).map (fnd es')).length = m := by rw [List.length_map]; exact HCH.out
        refine ⟨⟨hml, ?_⟩, fun e => ⟨hml, .inl e⟩⟩
        rcases hI.2 with g | ⟨b', o', e, hb', hc'⟩
        · have := HM1.out; omega
        · cases e
          refine .inr ⟨_, _, rfl, hb', fun j x i v hj hi => ?_⟩
          have := hc' (j + 1) x i v (by rw [HIDS.out]; simpa using hj) hi
          rw [show (0 : Nat) + (j + 1) * 1 + i = 1 + j * 1 + i by omega] at this
          exact this)
      have HMM : Hid (m1 - 1 = m ∧ m1 ≤ cap2) := Lib.hid (by have := HM1.out; omega)
      by_cases hcap : cap2 = 1
      · subst hcap
        go_wp2_with fail
        go_ret
        have hm0 : m = 0 := by have := HMM.out; omega
        refine ⟨some ⟨b, 0, none⟩, 0, c5, by simp; exact hm0.symm, HIn.out.2 hm0, fun b' e => ?_, by omega, HT5.out⟩
        have : b = b' := Option.some.inj e
        subst this
        have := HK5.out
        exact ⟨HOWN.out.2, by omega, HC5.out⟩
      · have hc1 : ¬ ((1 : Nat) = cap2) := fun e => hcap e.symm
        go_wp2_with fail
        go_ret
        refine ⟨some ⟨b, 1, none⟩, cap2 - 1, c5, by simp [HMM.out.1], HIn.out.1, fun b' e => ?_, by have := HMM.out; omega, HT5.out⟩
        have : b = b' := Option.some.inj e
        subst this
        have := HK5.out
        exact ⟨HOWN.out.2, by omega, HC5.out⟩
end
end
end Go.Proofs.YtljefbfjehblpaaGreat
