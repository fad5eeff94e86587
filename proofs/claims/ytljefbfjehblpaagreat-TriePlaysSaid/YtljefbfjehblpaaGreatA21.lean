/- Layer trie: slices.Reverse of steps. – Layer trie: slices.Reverse of steps, as between asks for it. – Layer trie: the program's step of each right step; Step. – Layer trie: how many nodes there are; what is known of a chain that is there. -/
import Derived.Test.YtljefbfjehblpaaGreatA20
import Derived.Shelf.SlSortCmp.KitK
import Derived.Sort.WalkB2
import Derived.Sort.WalkB12
import Derived.Deep.LoopGhost
namespace Go.Proofs.YtljefbfjehblpaaGreat
section
open Go.RowKit Go.Maps Go.WideMaps Go.Shelf Go.Lib Go.Sort
set_option maxRecDepth 1000000

instance : Inhabited SQ := ⟨(.mk ⟨0, 0, 0, 0, []⟩ [], .slice none 0 0, .slice none 0 0)⟩
set_option maxHeartbeats 4000000 in
theorem revK_any (enc : SQ → List Value) (blk cap : Nat) (d : Array SQ) (w : World) (k6 : Nat) (hk6 : 6 = k6) (R : RowK enc k6 w blk 0 d) (S : SWK enc k6 w blk 0 d w) (hsz : d.size ≤ 5000) :
    Calls Tryz.prog 94 #[.slice (some ⟨blk, 0, none⟩) d.size cap] w fun e w' => e = .returned (.tuple #[]) ∧ ∃ dk : Array SQ, dk = reverseRange d 0 d.size ∧ SWK enc k6 w blk 0 dk w' := by
  have mixed : Tryz.prog.follows .mixedOrders = true := by kernel_rfl
  have aE : ∀ w, (isAgg 65).run Tryz.prog w = .ok true w := fun w => by kernel_rfl
  have zE : ∀ w, (Go.sizeOf 65).run Tryz.prog w = .ok k6 w := fun w => by rw [← hk6]; kernel_rfl
  clear hk6
  have S0 : Aside (SWK enc k6 w blk 0 d w) := S
  clear S
  go_enter Tryz.func94, Tryz.ntmps94
  go_wp2
  go_loopg [2, 3] (d.size - 0) (fun kx s8 s9 wr => ∃ (i jn : Nat) (jz : Int) (dk : Array SQ), s8 = .int .i64 i ∧ s9 = .int .i64 jz ∧ ((i : Int) < jz → jz = jn ∧ jn < d.size) ∧ (¬ (i : Int) < jz → ¬ i < jn) ∧ jn - i ≤ kx ∧
    dk.size = d.size ∧ Aside (SWK enc k6 w blk 0 dk wr) ∧ reverseLoop i jn dk = reverseLoop 0 (d.size - 1) d)
  case atStart => exact ⟨0, d.size - 1, (d.size : Int) - 1, d, rfl, rfl, fun h => ⟨by omega, by omega⟩, fun h => by omega, by omega, rfl, S0, rfl⟩
  case round =>
    clear S0
    obtain ⟨i, jn, jz, dk, rfl, rfl, h1, h2, hkx, hds, S1, heq⟩ := hrel
    by_cases hlt : (i : Int) < jz
    · obtain ⟨rfl, hjn⟩ := h1 hlt
      have hij : i < jn := by omega
      clear h1 h2
      go_wp2_with fail
      have ea44 : ((i : Int)).toNat = i := by omega
      have pa44 : (0 : Int) ≤ (i : Int) := by omega
      have ba44 : (i : Int) < (d.size : Int) := by omega
      have ra44 : IntKind.i64.wrap ((i : Int)) = (i : Int) := by rw [IntKind.wrap_i64]; omega
      have ec44 : ((jn : Int)).toNat = jn := by omega
      have pc44 : (0 : Int) ≤ (jn : Int) := by omega
      have bc44 : (jn : Int) < (d.size : Int) := by omega
      have rc44 : IntKind.i64.wrap ((jn : Int)) = (jn : Int) := by rw [IntKind.wrap_i64]; omega
      have S2 : Aside (SWK enc k6 w blk 0 (swp dk (i) (jn)) ((wr.drew.setCells blk (0 + (i) * k6) (enc dk[jn]!)).setCells blk (0 + (jn) * k6) (enc dk[i]!))) := S1.out.swapped R (i) (jn) (by omega) (by omega)
      have l44a := S1.out.ld1 R (by omega) Tryz.prog (i) (by omega)
      have l44b := S1.out.ld1 R (by omega) Tryz.prog (jn) (by omega)
      have s44a := S1.out.st1 R (by omega) Tryz.prog (i) (by omega) dk[jn]!
      have s44b := S1.out.st2 R (by omega) Tryz.prog (i) (jn) (by omega) (by omega) dk[jn]! dk[i]!
      have n44a : (enc dk[i]!).length = k6 := R.hk _
      have n44b : (enc dk[jn]!).length = k6 := R.hk _
      generalize enc dk[i]! = cI44 at S2 l44a s44b n44a
      generalize enc dk[jn]! = cJ44 at S2 l44b s44a s44b n44b
      clear S1
      simp only [Nat.zero_add] at l44a l44b s44a s44b S2
      go_wp2_with fail
      go_big_region_o
      clear l44a l44b s44a s44b
      generalize (wr.drew.setCells blk (i * k6) cJ44).setCells blk (jn * k6) cI44 = w2 at S2 ⊢
      go_wp2
      go_roundg (jn - 1 - (i + 1))
      case measure => omega
      case rel =>
        rw [reverseLoop, if_pos hij] at heq
        exact ⟨i + 1, jn - 1, (jn : Int) - 1, swp dk i jn, by simp, rfl, fun h => ⟨by omega, by omega⟩, fun h => by omega, Nat.le_refl _, by rw [size_swp]; exact hds, S2, heq⟩
    · have hnot := h2 hlt
      go_wp2
      go_end0
      rw [reverseLoop, if_neg hnot] at heq
      have hS := S1.out
      rw [heq] at hS
      exact ⟨rfl, hS⟩
end
section
open Go.RowKit Go.Maps Go.WideMaps Go.Shelf Go.Lib Go.Sort
set_option maxRecDepth 1000000

/-- What a sort leaves but for its own block. -/
theorem kept_sortWorld {α : Type} [Inhabited α] {cells : α → List Value} {size : Nat} (w : World) (g n : Nat) (d : Array α) (os : Array Obj) : Kept (fun k => k = g) w (sortWorldK cells size w g 0 n d os) := by
  unfold sortWorldK
  refine (?_ : Kept (fun k => k = g) w (putRowK cells size (Sort.ahead w n) g 0 d)).trans (Kept.mono (F := Nil) ?_ (fun _ _ h => h.elim)) (fun _ _ h => h)
  · refine ⟨rfl, rfl, rfl, by simp [putRowK, putRow, mapBlock, Sort.ahead], fun k hk hF => ?_⟩
    show (w.heap.modify g _)[k]? = _
    rw [Array.getElem?_modify, if_neg (fun e => hF e.symm)]
  · exact ⟨rfl, rfl, rfl, by simp [Sort.grow], fun k hk _ => by simp [Sort.grow, Array.getElem?_append, hk]⟩
theorem blk_sortWorld {α : Type} [Inhabited α] {cells : α → List Value} {size : Nat} {w : World} {g : Nat} {t : TypeId} {cs : Array Value} (h : Blk w g t cs) (n : Nat) (d : Array α) (os : Array Obj) : ∃ cs', Blk (sortWorldK cells size w g 0 n d os) g t cs' := by
  have hl := h.lt
  refine ⟨putCells id 0 (flatK cells size d) cs, ?_⟩
  show ((w.heap.modify g (onCells (putCells id 0 (flatK cells size d)))) ++ os)[g]? = _
  unfold Blk at h
  rw [Array.getElem?_append, if_pos (by simpa using hl), Array.getElem?_modify, if_pos rfl, h]
  rfl
/-- A step's cells; of what is no step's two slices, none. -/
def encS (q : SQ) : List Value := if q.2.1.oneCell' && q.2.2.oneCell' then kS.F q else cS q.1.hd (.int .i64 0) (.int .i64 0)
theorem encS_of {q : SQ} {w : World} {ok : Nat → Nat → Prop} (h : kS.K w ok q) : encS q = kS.F q := by
  unfold encS
  rw [h.1.one, h.2.one]; rfl
theorem encS_len (q : SQ) : (encS q).length = 6 := by unfold encS; split <;> rfl
theorem encS_one (q : SQ) : ∀ v ∈ encS q, v.oneCell' = true := by
  intro v hv
  unfold encS at hv
  split at hv
  · rename_i hq
    simp only [Bool.and_eq_true] at hq
    simp only [kS, cS, List.mem_cons, List.not_mem_nil, or_false] at hv
    rcases hv with rfl | rfl | rfl | rfl | rfl | rfl
    · rfl
    · rfl
    · rfl
    · rfl
    · exact hq.1
    · exact hq.2
  · simp only [cS, List.mem_cons, List.not_mem_nil, or_false] at hv
    rcases hv with rfl | rfl | rfl | rfl | rfl | rfl <;> rfl
theorem encS_get {l : List SQ} {w : World} {ok : Nat → Nat → Prop} (hk : KidsD kS w ok l) {i : Nat} (hi : i < l.length) : encS l.toArray[i]! = kS.F l[i] := by
  rw [getElem!_pos l.toArray i (by simpa using hi)]
  exact encS_of (hk _ (List.getElem_mem hi))
theorem holdsK_of {w : World} {g cap : Nat} {l : List SQ} {ok : Nat → Nat → Prop} {e : TypeId} {cs : Array Value} (hB : Blk w g e cs) (hl : LiesD kS w (.slice (some ⟨g, 0, none⟩) l.length cap) l) (hk : KidsD kS w ok l) : HoldsK encS 6 w g 0 l.toArray := by
  intro j hj
  rw [size_flatK] at hj
  rw [get_flatK _ _ _ _ hj]
  have hj' : j < l.length * 6 := by simpa using hj
  have hi : j / 6 < l.length := Nat.div_lt_of_lt_mul (by rw [Nat.mul_comm]; exact hj')
  refine ⟨?_, hB.frozen _⟩
  have hm : j % 6 < 6 := Nat.mod_lt _ (by decide)
  rw [encS_get hk hi]
  obtain ⟨b, o, e1, hr⟩ := hl.at_ (List.getElem?_eq_getElem hi)
  cases e1
  have h6 : j % 6 < (kS.F l[j / 6]).length := by rw [kS.len]; exact hm
  have := hr (j % 6) _ (List.getElem?_eq_getElem h6)
  rw [getElem!_pos (kS.F l[j / 6]) (j % 6) h6]
  have e2 : 0 + (j / 6) * 6 + j % 6 = 0 + j := by rw [Nat.zero_add, Nat.zero_add, Nat.mul_comm]; exact Nat.div_add_mod j 6
  have e3 : kS.sz = 6 := rfl
  rw [e3, e2] at this
  exact this
theorem lies_of_holdsK {w : World} {g cap : Nat} {l : List SQ} {w0 : World} {ok : Nat → Nat → Prop} (h : HoldsK encS 6 w g 0 l.toArray) (hk : KidsD kS w0 ok l) : LiesD kS w (.slice (some ⟨g, 0, none⟩) l.length cap) l := by
  refine LiesD.of fun j q hq i v hi => ?_
  have hj := (List.getElem?_eq_some_iff.1 hq).1
  have hi' : i < 6 := by have := (List.getElem?_eq_some_iff.1 hi).1; rwa [kS.len] at this
  have := (HoldsK.cell h (by simpa using hj) hi').1
  rw [encS_get hk hj] at this
  have e3 : kS.sz = 6 := rfl
  rw [e3, this, show l[j] = q from (List.getElem?_eq_some_iff.1 hq).2, ← hi]
  rw [getElem!_pos (kS.F q) i (by rw [kS.len]; exact hi')]
  exact (List.getElem?_eq_getElem (by rw [kS.len]; exact hi')).symm

set_option maxHeartbeats 4000000 in
theorem rev0_any (a : Option Addr) (cap : Nat) (w : World) :
    Calls Tryz.prog 94 #[.slice a 0 cap] w fun e w' => e = .returned (.tuple #[]) ∧ w = w' := by
  go_enter Tryz.func94, Tryz.ntmps94
  go_wp2
  go_loopw [2, 3] (fun i j wr => i = .int .i64 0 ∧ j = .int .i64 (-1) ∧ w = wr) (fun _ _ _ => 0)
  case atStart => exact ⟨rfl, rfl, rfl⟩
  case round =>
    obtain ⟨rfl, rfl, rfl⟩ := hrel
    go_wp2
    go_end0
    exact ⟨rfl, rfl⟩
theorem revC_any (B : Nat) (w0 : World) (hB : B = w0.heap.size) (subs : List St) (n : Nat) (hn : n ≤ 1000) (W : World) (a : Option Addr) (cap : Nat) (ps : List SQ) (hg : GB kS 65 W B (.slice a n cap) ps) (hps : trS ps = subs.reverse) (hK : Kept Nil w0 W) :
    Calls Tryz.prog 94 #[.slice a n cap] W fun e w' => e = .returned (.tuple #[]) ∧ SHolds w' (okM B w') (.slice a n cap) subs ∧ Kept Nil w0 w' := by
  obtain ⟨hlies, hkids, a', cap', e1, hc, hok⟩ := hg.seen
  injection e1 with ea en ec
  subst ea en ec
  have hrev : trS ps.reverse = subs := by unfold trS at *; rw [List.map_reverse, hps, List.reverse_reverse]
  by_cases h0 : ps.length = 0
  · obtain rfl := List.length_eq_zero_iff.1 h0
    refine (rev0_any a cap W).mono ?_
    rintro e w' ⟨rfl, rfl⟩
    have hs : subs = [] := by rw [← hrev]; rfl
    rw [hs]
    exact ⟨rfl, .nil _ _, hK⟩
  · obtain ⟨b, o, rfl, _⟩ := hlies.at_ (List.getElem?_eq_getElem (show 0 < ps.length by omega))
    obtain ⟨hb1, hb2, rfl, hb4⟩ := hok b o rfl
    have hown : (Value.slice (some ⟨b, 0, none⟩) ps.length cap).ownBlock = some b := rfl
    obtain ⟨_, _, cs, hBlk⟩ := hg.own.base b hown
    have hH : HoldsK encS 6 W b 0 ps.toArray := holdsK_of hBlk hlies hkids
    have R : RowK encS 6 W b 0 ps.toArray := ⟨encS_len, encS_one, hH, hb2⟩
    have := revK_any encS b cap ps.toArray W 6 rfl R (SWK.start hH) (by simp; omega)
    rw [show ps.toArray.size = ps.length by simp] at this
    refine this.mono ?_
    rintro e w' ⟨rfl, dk, hdk, hS⟩
    have hdr : dk = ps.reverse.toArray := by
      rw [hdk]
      unfold reverseRange
      have := Lib.reverseLoop_reverse ps.toArray
      rw [show ps.toArray.size = ps.length by simp] at this
      rw [this]; simp
    subst hdr
    have hH' := hS.holds hb2 hH (by simp)
    obtain ⟨m, os, rfl⟩ := hS
    have kk := kept_sortWorld (cells := encS) (size := 6) W b m ps.reverse.toArray os
    have hkr : KidsD kS W (okN B W (.slice (some ⟨b, 0, none⟩) ps.length cap)) ps.reverse := fun p hp => hg.kids p (List.mem_reverse.1 hp)
    have hk' := hkr.kept kk (fun b' o' hb' e => by subst e; exact hb'.2 rfl)
    obtain ⟨cs', hBlk'⟩ := blk_sortWorld (cells := encS) (size := 6) hBlk m ps.reverse.toArray os
    have hl' := lies_of_holdsK (cap := cap) hH' hkr
    rw [List.length_reverse] at hl'
    refine ⟨rfl, ?_, hK.trans kk (fun i hi e => by subst e; omega)⟩
    rw [← hrev]
    refine LiesD.sholds hl' (hk'.mono fun b' o' hb' => hb'.1.kept kk (fun e => by subst e; exact hb'.2 rfl)) hc (fun b' o' e => ?_)
    cases e
    exact ⟨hb1, hBlk'.lt, rfl, fun i => hBlk'.frozen i⟩
end
section
open Go.RowKit Go.Maps Go.WideMaps
set_option maxRecDepth 1000000

section
variable {w : World} {c : Nat → Nat} {p : Nat} {es : En} {U E : Nat → Int}
theorem stepC_all (ht : TE w c p es U E) (hes : es.length ≤ 4000) : ∀ s : St, Gd s → s.cnt ≤ 1000 → StepC p es w s := by
  refine St.ind (fun hd subs ih hg hc => ?_)
  intro d' hent W kW
  obtain ⟨hk, h1, h2⟩ := hg.hd
  rw [shE_snoc]
  by_cases h3 : hd.k = 3
  · rw [if_pos h3]
    obtain ⟨hne, hall⟩ := h2 h3
    have hok := ht.ok
    have hf := (ent_fnd hok).1 hent
    have hin := fnd_inner hok h3 hne hf.1
    have hcs : cntL subs ≤ 1000 := by rw [St.cnt] at hc; omega
    have hls := length_cntL subs
    have CB := Lib.hid (fun W2 (k2 : Kept Nil W W2) => between_any (ht.keptN (kW.trans k2 (fun _ _ e => e))) hes d' subs hin.1 (by omega) (fun s hs => fun d'' he W3 k3 => ih s hs (hall s hs) (by have := cnt_mem hs; omega) d'' he W3 ((kW.trans k2 (fun _ _ e => e)).trans k3 (fun _ _ e => e))) (n := subs.length) rfl (Lib.hid (fun W3 a cap ps hgb hps k3 => revC_any W2.heap.size W2 rfl subs subs.length (by omega) W3 a cap ps hgb hps k3)))
    refine (stepNcc_any W _ _ hd hk h3 subs CB).mono ?_
    rintro e w' ⟨t, a, cap, rfl, hT, hS, kk⟩
    exact ⟨t, a, subs.length, cap, rfl, hT, hS, kk⟩
  · rw [if_neg h3]
    have hs := h1 h3
    refine (stepFlat_any W _ _ hd hk h3).mono ?_
    rintro e w' ⟨t, rfl, hT, kk⟩
    refine ⟨t, none, 0, 0, rfl, hT, ?_, kk⟩
    show SHolds _ _ _ subs
    rw [hs]
    exact .nil _ _
theorem wpList_load_eq {P : Program} {ops : Array Oper} {rest : List Oper} {o : Oper} {a : Act} {w : World} {Q : Exit → Act → World → Prop} (hg : o.guard = none) (t : TypeId) (x : Operand) (ho : o.op = .load t x) (v : Value)
    (hrun : (Instr.loadAt t (a.eval x)).run P w = .ok v w) (h : wpList P ops Q rest (a.put o.dst v) w) : wpList P ops Q (o :: rest) a w := by
  refine wpList_plain hg fun K hK => ?_
  unfold Oper.wp execOp
  simp [ho, hrun]
  exact hK _ _ h
/-- Two results: a row in a cell, and a slot. -/
theorem results_rowtmp {P : Program} {fn : Func} {p r : Tmp} {ty : TypeId} (h : fn.results = #[.cell p ty, .tmp r]) (tmps : Array Value) (w : World) (g : Nat) (t : TypeId) (cs : Array Value) (fr : Nat × Nat) (d : TypeDesc)
    (hp : tmps.getD p undef = .pointer (some ⟨g, 0, none⟩)) (hg : w.heap[g]? = some (.cells cs t fr))
    (hu : P.underlying ty = some d) (hd : (match d with | .struct _ | .array _ _ => true | _ => false) = true) (hi : (P.info? ty).map (·.size) = some cs.size) :
    (results fn tmps).run P w = .ok (.tuple #[.agg cs, tmps.getD r undef]) w := by
  have hp' : tmps[p]?.getD undef = .pointer (some ⟨g, 0, none⟩) := by simpa using hp
  simp [results, h, hp', asAddr, run_loadVar_row w g t ty cs fr d hg hu hd hi]

set_option maxHeartbeats 8000000 in
/-- Step of a number that has none. -/
theorem tstep_none (ht : TE w c p es U E) {n : Nat} (hn : n ≤ 4611686018427387904) (hc : chn es n = []) :
    Calls Tryz.prog 43 #[.pointer (some ⟨p, 0, none⟩), .int .i64 n] w fun e w' => e = .returned (.tuple #[.agg zS, .bool false]) ∧ Kept Nil w w' := by
  obtain ⟨b, hb⟩ : ∃ b, w.heap.size = b := ⟨_, rfl⟩
  obtain ⟨W1, hW1⟩ : ∃ W1, w.alloc (.cells zS 65) = W1 := ⟨_, rfl⟩
  have K1 : Kept Nil w W1 := by rw [← hW1]; exact (Kept.refl _ _).alloc _
  have B1 : Blk W1 b 65 zS := by rw [← hW1, ← hb]; exact Blk.new _ _ _
  have s1 : W1.heap.size = b + 1 := by rw [← hW1, World.size_alloc, hb]
  obtain ⟨bn, v, c0, _, hl, hv⟩ := (ht.keptN K1).lookV hn
  have hlt := (ht.keptN K1).lt
  have HQ : Hid (W1.heap.size = W1.heap.size) := Lib.hid rfl
  have HK1 := Lib.hid K1
  have HB1 := Lib.hid B1
  have HS1 := Lib.hid s1
  have HB := Lib.hid hb
  have hcase : ent es n = none ∨ n = 1 := by
    cases he : ent es n with
    | none => exact .inl rfl
    | some x =>
      right
      have : x = [] := by unfold chn at hc; rw [he] at hc; exact hc
      subst this
      have := ent_le he
      by_cases h1 : n = 1
      · exact h1
      · exfalso
        have h2 := (ent_two (by omega)).1 he
        exact ht.ok.ne _ _ h2 rfl
  clear ht hc hv K1 B1 s1
  go_enter Tryz.func43, Tryz.ntmps43
  go_upto_region 1 with fail
  try rw [hW1]
  clear hW1
  try rw [hb]
  clear hb
  rcases hcase with he | rfl
  · rw [he] at hl
    go_wp2_with (first
      | (with_reducible refine wpList_alloc_zeroW rfl 89 rfl (aN zNv) infoNz _ HQ ?_
         intro W kW bW _
         have KW := Lib.hid kW
         have BW := Lib.hid bW
         clear kW bW)
      | (with_reducible refine wpList_store_N rfl (.tmp 6) (.tmp 15) rfl _ v zNv rfl rfl BW.out ?_
         intro W2 kW bW
         have KW2 := Lib.hid kW
         have BW2 := Lib.hid bW
         have B2 := Lib.hid ((HB1.out.kept KW.out id).kept kW (fun e => by have := HS1.out; omega))
         clear kW bW)
      | (with_reducible refine wpList_store_S rfl (.tmp 4) (.tmp 23) rfl b ⟨0, 0, 0, 0, []⟩ none 0 0 none 0 0 rfl rfl zS rfl B2.out ?_
         intro W3 kW bW
         have KW3 := Lib.hid kW
         have BW3 := Lib.hid bW
         clear kW bW))
    exact bodyPost_ret (results_rowtmp Tryz.results43 _ _ _ _ _ _ _ rfl BW3.out Tryz.underlying65 rfl infoS6) rfl ⟨rfl, ((HK1.out.trans KW.out (fun _ _ e => e)).trans KW2.out (fun i hi e => by have := HS1.out; have := HB.out; omega)).trans KW3.out (fun i hi e => by have := HB.out; omega)⟩
  · have e1 : ent es 1 = some [] := ent_one es
    rw [e1, show ((1 : Nat) : Int) = 1 from rfl] at hl
    rw [show ((1 : Nat) : Int) = 1 from rfl]
    go_wp2_with (first
      | (with_reducible refine wpList_alloc_zeroW rfl 89 rfl (aN zNv) infoNz _ HQ ?_
         intro W kW bW _
         have KW := Lib.hid kW
         have BW := Lib.hid bW
         clear kW bW)
      | (with_reducible refine wpList_store_N rfl (.tmp 6) (.tmp 15) rfl _ v zNv rfl rfl BW.out ?_
         intro W2 kW bW
         have KW2 := Lib.hid kW
         have BW2 := Lib.hid bW
         have B2 := Lib.hid ((HB1.out.kept KW.out id).kept kW (fun e => by have := HS1.out; omega))
         clear kW bW)
      | (with_reducible refine wpList_store_S rfl (.tmp 4) (.tmp 23) rfl b ⟨0, 0, 0, 0, []⟩ none 0 0 none 0 0 rfl rfl zS rfl B2.out ?_
         intro W3 kW bW
         have KW3 := Lib.hid kW
         have BW3 := Lib.hid bW
         clear kW bW))
    exact bodyPost_ret (results_rowtmp Tryz.results43 _ _ _ _ _ _ _ rfl BW3.out Tryz.underlying65 rfl infoS6) rfl ⟨rfl, ((HK1.out.trans KW.out (fun _ _ e => e)).trans KW2.out (fun i hi e => by have := HS1.out; have := HB.out; omega)).trans KW3.out (fun i hi e => by have := HB.out; omega)⟩
set_option maxHeartbeats 8000000 in
/-- Step of a number whose chain has one. -/
theorem tstep_some (ht : TE w c p es U E) (hes : es.length ≤ 4000) {n : Nat} (hn : n ≤ 4611686018427387904) {d : List St} {s : St} (hc : ent es n = some (d ++ [s])) (hg : Gd s) (hsc : s.cnt ≤ 1000) :
    Calls Tryz.prog 43 #[.pointer (some ⟨p, 0, none⟩), .int .i64 n] w fun e w' => ∃ ta tc a cap, e = .returned (.tuple #[vS s.hd (.slice ta s.hd.ts.length tc) (.slice a s.subs.length cap), .bool true]) ∧ TsAt w' (okM w.heap.size w') (.slice ta s.hd.ts.length tc) s.hd.ts ∧ SHolds w' (okM w.heap.size w') (.slice a s.subs.length cap) s.subs ∧ Kept Nil w w' := by
  obtain ⟨b, hb⟩ : ∃ b, w.heap.size = b := ⟨_, rfl⟩
  obtain ⟨W1, hW1⟩ : ∃ W1, w.alloc (.cells zS 65) = W1 := ⟨_, rfl⟩
  have K1 : Kept Nil w W1 := by rw [← hW1]; exact (Kept.refl _ _).alloc _
  have B1 : Blk W1 b 65 zS := by rw [← hW1, ← hb]; exact Blk.new _ _ _
  have s1 : W1.heap.size = b + 1 := by rw [← hW1, World.size_alloc, hb]
  obtain ⟨bn, v, c0, _, hl, hv⟩ := (ht.keptN K1).lookV hn
  have hlt := (ht.keptN K1).lt
  have HQ : Hid (W1.heap.size = W1.heap.size) := Lib.hid rfl
  have HK1 := Lib.hid K1
  have HB1 := Lib.hid B1
  have HS1 := Lib.hid s1
  have HB := Lib.hid hb
  have hf := (ent_fnd ht.ok).1 hc
  have hne1 : n ≠ 1 := fun e => by
    rw [e, ent_one] at hc
    injection hc with hc
    exact absurd hc (by simp)
  have CS := Lib.hid (stepC_all ht hes s hg hsc d (by rw [hf.2]; exact hc))
  rw [hc] at hv hl
  have hsp : v.sp = shE es (d ++ [s]) := hv.sp
  have ne1 : ((n : Int) == 1) = false := by simp; omega
  rw [← hsp] at CS
  have HSP : Hid (∀ (W : World) (q : Nat), Blk W q 89 (aN v) → (Instr.loadAt 62 (.pointer (some ⟨q, 0, none⟩))).run Tryz.prog W = .ok (.agg (aSp v.sp)) W) := Lib.hid fun _ _ hb => loadSpN hb
  generalize hsv : aSp v.sp = sv at CS HSP
  clear ht hc hv K1 B1 s1 hf hsp hsv
  go_enter Tryz.func43, Tryz.ntmps43
  go_upto_region 1 with fail
  try rw [hW1]
  clear hW1
  try rw [hb]
  clear hb
  simp only [Option.isSome_some] at hl
  go_wp2_with (first
      | (with_reducible refine wpList_alloc_zeroW rfl 89 rfl (aN zNv) infoNz _ HQ ?_
         intro W kW bW _
         have KW := Lib.hid kW
         have BW := Lib.hid bW
         clear kW bW)
      | (with_reducible refine wpList_store_N rfl (.tmp 6) (.tmp 15) rfl _ v zNv rfl rfl BW.out ?_
         intro W2 kW bW
         have KW2 := Lib.hid kW
         have BW2 := Lib.hid bW
         have B2 := Lib.hid ((HB1.out.kept KW.out id).kept kW (fun e => by have := HS1.out; omega))
         clear kW bW)
      | (with_reducible refine wpList_load_eq rfl _ (.tmp 25) rfl (.agg sv) ?_ ?_
         · exact HSP.out _ _ BW2.out)
      | fail)
  have K2 := Lib.hid ((HK1.out.trans KW.out (fun _ _ e => e)).trans KW2.out (fun i hi e => by have := HS1.out; have := HB.out; omega))
  refine (CS.out _ K2.out).mono ?_
  rintro e w3 ⟨t3, a3, n3, c3, rfl, ht3, hs3, k3⟩
  obtain ⟨ta, tc, rfl, _⟩ := ht3.shape
  obtain ⟨hn3, _⟩ := hs3.fits
  subst hn3
  have HT3 := Lib.hid ht3
  have HS3 := Lib.hid hs3
  have HK3 := Lib.hid k3
  have B3 := Lib.hid (B2.out.kept k3 id)
  obtain ⟨tn, htn⟩ : ∃ tn, s.hd.ts.length = tn := ⟨_, rfl⟩
  obtain ⟨sn, hsn⟩ : ∃ sn, s.subs.length = sn := ⟨_, rfl⟩
  have HTN := Lib.hid htn
  have HSN := Lib.hid hsn
  rw [htn, hsn]
  clear ht3 hs3 k3 htn hsn
  go_wp2_with (first
      | (with_reducible refine wpList_store_S rfl (.tmp 4) (.tmp 27) rfl b s.hd ta tn tc a3 sn c3 rfl rfl zS rfl B3.out ?_
         intro W5 kW bW
         have KW5 := Lib.hid kW
         have BW5 := Lib.hid bW
         clear kW bW)
      | fail)
  have hlow : ∀ b' o, okM W2.heap.size w3 b' o → b' ≠ b := fun b' o h e => by
    have h1 := h.1
    have h2 := HS1.out
    have h3 := KW.out.size
    have h4 := KW2.out.size
    omega
  refine bodyPost_ret (results_rowtmp Tryz.results43 _ _ _ _ _ _ _ rfl BW5.out Tryz.underlying65 rfl infoS6) rfl ⟨ta, tc, a3, c3, by rw [HTN.out, HSN.out]; rfl, ?_, ?_, (K2.out.trans HK3.out (fun _ _ e => e)).trans KW5.out (fun i hi e => by have := HB.out; omega)⟩
  · exact (HT3.out.kept KW5.out (fun b' o h e => hlow b' o h e)).mono (fun b' o h => ⟨Nat.le_trans K2.out.size h.1, Nat.lt_of_lt_of_le h.2.1 KW5.out.size, h.2.2.1, h.2.2.2.kept KW5.out h.2.1 (hlow b' o h)⟩)
  · exact (HS3.out.kept KW5.out (fun b' o h e => hlow b' o h e)).mono (fun b' o h => ⟨Nat.le_trans K2.out.size h.1, Nat.lt_of_lt_of_le h.2.1 KW5.out.size, h.2.2.1, h.2.2.2.kept KW5.out h.2.1 (hlow b' o h)⟩)
end
end
section
open Go.RowKit Go.Maps Go.WideMaps
set_option maxRecDepth 1000000

/-- The chains that are there. -/
def liveL (es : En) : List (List St) := es.filterMap (fun e => if e.2 = true then some e.1 else none)
theorem liveL_mem {es : En} {x : List St} : x ∈ liveL es ↔ ∃ i : Nat, es[i]? = some (x, true) := by
  unfold liveL
  rw [List.mem_filterMap]
  constructor
  · rintro ⟨⟨y, b⟩, he, h⟩
    cases b
    · simp at h
    · simp at h
      subst h
      exact List.getElem?_of_mem he
  · rintro ⟨i, hi⟩
    exact ⟨(x, true), List.mem_of_getElem? hi, by simp⟩
theorem liveL_nodup {es : En} (ok : EsOK es) : (liveL es).Nodup := by
  unfold liveL List.Nodup
  rw [List.pairwise_filterMap]
  rw [List.pairwise_iff_getElem]
  intro i j hi hj hij b hb b' hb' e
  have h1 : es[i]? = some (es[i].1, es[i].2) := List.getElem?_eq_getElem hi
  have h2 : es[j]? = some (es[j].1, es[j].2) := List.getElem?_eq_getElem hj
  split at hb
  · rename_i t1
    split at hb'
    · rename_i t2
      cases hb
      cases hb'
      rw [t1] at h1
      rw [t2, ← e] at h2
      have := ok.dis i j _ h1 h2
      omega
    · cases hb'
  · cases hb
theorem isSome_live {es : En} (i : Nat) : (ent es (i + 2)).isSome = (match es[i]? with | some e => e.2 | none => false) := by
  cases he : es[i]? with
  | none =>
    cases h : ent es (i + 2) with
    | none => rfl
    | some x => have := (ent_two (by omega)).1 h; rw [Nat.add_sub_cancel] at this; rw [he] at this; cases this
  | some e =>
    obtain ⟨y, b⟩ := e
    cases b
    · cases h : ent es (i + 2) with
      | none => rfl
      | some x => have := (ent_two (by omega)).1 h; rw [Nat.add_sub_cancel] at this; rw [he] at this; cases this
    · have := (ent_two (es := es) (n := i + 2) (c := y) (by omega)).2 (by rw [Nat.add_sub_cancel]; exact he)
      rw [this]; rfl
theorem countP_range : ∀ (l : List (List St × Bool)), (List.range l.length).countP (fun i => match l[i]? with | some e => e.2 | none => false) = l.countP (·.2)
  | [] => rfl
  | a :: r => by
    rw [List.length_cons, List.range_succ_eq_map, List.countP_cons, List.countP_map, List.countP_cons]
    have := countP_range r
    rw [← this]
    rfl
theorem liveL_len (es : En) : (alv es).length = (liveL es).length + 1 := by
  rw [← alvT_all, alvT, List.length_cons, List.length_map, ← List.countP_eq_length_filter]
  unfold liveL
  rw [List.length_filterMap_eq_countP]
  congr 1
  rw [show (fun i => (ent es (i + 2)).isSome) = (fun i => match es[i]? with | some e => e.2 | none => false) from funext isSome_live]
  rw [countP_range]
  refine List.countP_congr (fun e _ => ?_)
  obtain ⟨y, b⟩ := e
  cases b <;> simp

section
variable {w : World} {c : Nat → Nat} {p : Nat} {es : En} {U E : Nat → Int} {ls : List (List St)}
theorem lenA_any (ht : TE w c p es U E) (h : TLS ls es U E) :
    Calls Tryz.prog 17 #[.pointer (some ⟨p, 0, none⟩)] w fun e w' => e = .returned (.int .i64 ((alv es).length : Nat)) ∧ w' = w := by
  rw [liveL_len es]
  refine len_any ht h (liveL_nodup ht.ok) (fun x => ?_)
  rw [liveL_mem]
  constructor
  · rintro ⟨i, hi⟩
    have hne := ht.ok.ne i x hi
    refine ⟨hne, (h.tl.all x hne).1 (fun e => ?_)⟩
    exact (fnd_zero.1 e).2 i hi
  · rintro ⟨hne, hu⟩
    have hz := (h.tl.all x hne).2 hu
    rcases fnd_get (es := es) (c := x) rfl hz with ⟨e, _⟩ | ⟨_, _, h2⟩
    · exact absurd e hne
    · exact ⟨_, h2⟩
theorem TLS.rlE (h : TLS ls es U E) {n : Nat} {x : List St} (hx : ent es n = some x) : Rl x := by
  by_cases h0 : x = []
  · rw [h0]; exact Rl.nil
  · have h1 := (ent_fnd h.tl.ok).1 hx
    obtain ⟨l, hl, hm⟩ := (usesL_pos h0).1 ((h.tl.all x h0).1 (by omega))
    exact (h.tl.rl l hl).chain hm
theorem depN_some {n : Nat} {x : List St} (hx : ent es n = some x) : depN es n = x.length := by unfold depN; rw [hx]
theorem usE_some (h : TLS ls es U E) {n : Nat} {x : List St} (hx : ent es n = some x) : usE es U n = (usesL ls x : Nat) := by
  have h1 := (ent_fnd h.tl.ok).1 hx
  have := h.us x (by omega)
  unfold usE
  rw [hx, ← this, h1.2]
theorem chn_some {n : Nat} {x : List St} (hx : ent es n = some x) : chn es n = x := by unfold chn; rw [hx]; rfl
theorem none_all {n : Nat} (hx : ent es n = none) : chn es n = [] ∧ parN es n = 0 ∧ depN es n = 0 ∧ innN es n = 0 ∧ usE es U n = 0 ∧ kidN es n = [] ∧ outN es n = [] := by
  unfold chn parN depN innN usE kidN outN
  rw [hx]
  exact ⟨rfl, rfl, rfl, rfl, rfl, rfl, rfl⟩
theorem top_all : chn es 1 = [] ∧ parN es 1 = 0 ∧ depN es 1 = 0 ∧ innN es 1 = 0 := by
  unfold chn parN depN innN
  rw [ent_one]
  exact ⟨rfl, rfl, rfl, rfl⟩
theorem chn_ok (h : TLS ls es U E) (n : Nat) : Rl (chn es n) ∧ massL (chn es n) ≤ 64 ∧ (chn es n).length ≤ 16 := by
  cases e : ent es n with
  | none => rw [(none_all (U := U) e).1]; exact ⟨Rl.nil, by simp [massL], by simp⟩
  | some x => rw [chn_some e]; exact ⟨h.rlE e, (h.rlE e).mass, (h.rlE e).len⟩
theorem massL_take_small {l : List St} {k m : Nat} (h : massL l ≤ m) : massL (l.take k) ≤ m := Nat.le_trans (massL_take_le l k) h
end
end
end Go.Proofs.YtljefbfjehblpaaGreat
