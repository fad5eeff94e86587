/- Whatever list of triples comes in, in every memory that holds Go's own variables as its text lays them: TripleSorts returns true, and writes nothing that was there. No other condition. -/
import Derived.Test.YtdkjjkplmlmbeaaDoorTLaid
import Derived.Test.YtdkjjkplmlmbeaaDoorTLawSorts
import Derived.Deep.Slices
import Derived.OpenShut
import Derived.Carry
namespace Go.Proofs.YtdkjjkplmlmbeaaDoor.lawTripleSorts
open Go.RowKit Go.ChangeShapes Go.WideShapes Go.ChangeAt
open Go.Deep

theorem laidOut : laidOutB Tryd.prog = true := by kernel_rfl
section
variable {H : Type} {enc : TypeId × Value → H}
theorem triple_at {W : World} {n : Nat} {x : Addr} {cs : List Value} {y : DataW H × List MemPlace} (hc : W.cells? 0 x (Tryd.prog.cellsOf 23) = some cs) (h : DataW.trod enc Tryd.prog W 0 (fun _ => true) true n 23 cs = some y) :
    ∃ t : T3, W.cell? (x.add 0) = some (.int .i64 t.1) ∧ W.cell? (x.add 1) = some (.int .i64 t.2.1) ∧ W.cell? (x.add 2) = some (.int .i64 t.2.2) := by
  rw [cellsT] at hc
  obtain ⟨_, hl, hat⟩ := World.cells?_some hc
  obtain ⟨c0, c1, c2, rfl⟩ := list3 cs hl
  obtain ⟨y0, y1, y2, m, _, h0, h1, h2⟩ := trod_array3 Tryd.underlying23 cellsI h
  obtain ⟨x0, e0, _, _⟩ := DataW.trod_int Tryd.underlying3 h0
  obtain ⟨x1, e1, _, _⟩ := DataW.trod_int Tryd.underlying3 h1
  obtain ⟨x2, e2, _, _⟩ := DataW.trod_int Tryd.underlying3 h2
  simp at e0 e1 e2
  subst e0 e1 e2
  exact ⟨(x0, x1, x2), hat 0 (by decide), hat 1 (by decide), hat 2 (by decide)⟩
theorem tris_of {W : World} {a : Option Addr} {len cap : Nat} {d : DataW H} {ps : List MemPlace} (h : DataW.Trod enc Tryd.prog W 0 (fun _ => true) true 40 (.slice a len cap) d ps) : ∃ ts, Tris W a len cap ts := by
  obtain ⟨fuel, hf⟩ := h
  rcases open_slice Tryd.underlying40 hf with ⟨hcs, _⟩ | ⟨x, l, c, m, n, D, Pl, hcs, _, hl, hm, hmm, _, hi⟩
  · simp [Value.cells] at hcs
    obtain ⟨rfl, rfl, rfl⟩ := hcs
    exact ⟨[], rfl, Nat.zero_le _, .inl ⟨rfl, rfl, rfl⟩⟩
  · simp [Value.cells] at hcs
    obtain ⟨rfl, rfl, rfl⟩ := hcs
    rw [if_pos rfl] at hmm
    by_cases h0 : len = 0
    · subst h0
      exact ⟨[], rfl, Nat.zero_le _, .inr (.inl ⟨rfl, x, rfl⟩)⟩
    · obtain ⟨b, off, spot⟩ := x
      have hspot : spot = none := by
        obtain ⟨cs, hc, ht⟩ := hi 0 (by omega)
        obtain ⟨t, c0, _⟩ := triple_at hc ht
        simpa [Addr.add] using World.cell?_spot c0
      subst hspot
      have key : ∀ k, k ≤ len → ∃ ts : List T3, ts.length = k ∧ TAt W b off ts := by
        intro k
        induction k with
        | zero => exact fun _ => ⟨[], rfl, fun i t ht => by simp at ht⟩
        | succ k ih =>
          intro hk
          obtain ⟨ts, hlen, hts⟩ := ih (by omega)
          obtain ⟨cs, hc, ht⟩ := hi k (by omega)
          obtain ⟨t, c0, c1, c2⟩ := triple_at hc ht
          rw [cellsT] at c0 c1 c2
          have ad : ∀ j, ((⟨b, off, none⟩ : Addr).add (k * 3)).add j = ⟨b, off + k * 3 + j, none⟩ := fun j => by
            unfold Addr.add
            by_cases h1 : k * 3 = 0 <;> by_cases h2 : j = 0 <;> simp [h1, h2] <;> omega
          rw [ad] at c0 c1 c2
          refine ⟨ts ++ [t], by simp [hlen], fun i u hu => ?_⟩
          by_cases hi' : i < ts.length
          · exact hts i u (by rw [List.getElem?_append_left hi'] at hu; exact hu)
          · have e : i = k := by
              have := (List.getElem?_eq_some_iff.1 hu).1
              simp at this
              omega
            subst e
            rw [List.getElem?_append_right (by omega), hlen] at hu
            simp at hu
            subst hu
            exact ⟨c0, c1, c2⟩
      obtain ⟨ts, hlen, hts⟩ := key len (Nat.le_refl _)
      exact ⟨ts, hlen, by omega, .inr (.inr ⟨b, off, rfl, hts⟩)⟩
end

theorem reads (os : Os) {H : Type} (enc : TypeId × Value → H) : ∃ places, DataW.whole enc Tryd.prog ((theWorld os).forCall (fun _ _ => 0) ⟨#[], #[(.slice none 0 0 : Value)], []⟩).memory Tryd.f6.params.toList Rows.tripleSortsSpec.vars false #[(.slice none 0 0 : Value)].toList 8 = some ([.nil], [], places) :=
  ⟨[], by kernel_rfl⟩

set_option maxRecDepth 100000 in
theorem lifted (os : Os) (started : os.Started) (H : Type) (enc : TypeId × Value → H) (F : Stop.Interp) :
    ReturnsInHanded {} Tryd.checked os 6 .any ((OpenSpec.ofChange Rows.tripleSortsSpec).preRow enc Tryd.prog Tryd.f6 Rows.tripleSortsRow.domain false Rows.tripleSortsRow.laid) (((OpenSpec.ofChange Rows.tripleSortsSpec).at F).post enc Tryd.prog Tryd.f6 false true false false) := by
  obtain ⟨places, hx⟩ := reads os enc
  refine returnsInHanded_of_row (C := Tryd.checked) (s := OpenSpec.ofChange Rows.tripleSortsSpec) own started (by kernel_rfl) Tryd.func6
    (witness_row_atRef (enc := enc) (C := Tryd.checked) false (theWorld os) #[(.slice none 0 0 : Value)] (World.laidAll_os _ _ _) (by kernel_rfl) (by kernel_rfl) (by kernel_rfl)
      (OpenSpec.preRow_of_cond 8 hx (by kernel_rfl) (fun k hk => by cases hk) (by kernel_rfl) (laid_met os _))) ?_
  intro W base args ds gs before hval0 hW _ _ _ hL hS _
  have hval : ∀ (j : Nat) t v, Tryd.f6.params[j]? = some t → args[j]? = some v → Value.okWide Tryd.prog W .any base t v := hval0
  have hW' := hW
  obtain ⟨p, q, hA0, hV, rfl, _, _⟩ := hW
  have hA : DataW.TrodAll enc Tryd.prog W 0 (fun _ => true) true Tryd.f6.params.toList args.toList ds p := hA0
  rw [Tryd.params6] at hA hval
  obtain ⟨v0, vs0, d0, ds0, p0, q0, hargs, rfl, rfl, h0, r0⟩ := trodAll_cons hA
  obtain ⟨rfl, rfl, rfl⟩ := trodAll_nil r0
  obtain rfl : args = #[v0] := by cases args; simp_all
  obtain ⟨rfl, rfl⟩ := trodVars_none hV
  obtain ⟨a, len, cap, rfl⟩ := okWide_slice Tryd.underlying40 (hval 0 40 v0 rfl rfl)
  have lt0 : ∀ x ∈ p0, x.block < W.heap.size := by obtain ⟨m, hm⟩ := h0; exact DataW.trod_lt m _ _ _ hm
  obtain ⟨ts, hts⟩ := tris_of h0
  clear hA0 hval0
  simp only [List.append_nil] at hW'
  refine (lawSorts_any W hts (env_of hL hS)).mono fun e W' ⟨he, hk⟩ => ?_
  subst he
  exact ⟨_, rfl, _, _, _, [], p0, [], hW', trodAll_mk1 (shut_bool Tryd.underlying4 _), trodAll_mk1 (Below.trod laidOut (by kernel_rfl) (of_decide_eq_true (by kernel_rfl)) h0 hk.toBelow lt0), rfl, hk.toBelow.frame _, fun h => by cases h⟩

theorem said : Rows.TripleSortsSaid :=
  OpenClaim.holds_of_cond 6 Tryd.f6 rfl rfl rfl rfl rfl rfl rfl ⟨rfl, rfl, rfl, rfl, rfl⟩ rfl rfl rfl rfl rfl (by kernel_rfl) Tryd.func6 (by kernel_rfl)
    (of_decide_eq_true (by kernel_rfl)) (by unfold Func.isWrapper; first | (rw [if_pos (by decide +kernel)]; kernel_rfl) | (rw [if_neg (by decide +kernel)]; exact ⟨rfl, rfl⟩))
    (fun os started H enc _ F => by rw [OpenClaim.pre_eq_preRow]; exact lifted os started H enc F)

theorem plain (f : FuncId) (fn : Func) (hf : Tryd.pinned.checked.prog.funcNamed "retiary/retiarylaw02.TripleSorts" = some f) (hfn : Tryd.pinned.checked.prog.funcs[f]? = some fn) :
    true = Tryd.pinned.checked.prog.looks [] ∧ ∀ (j : Nat) t, fn.params[j]? = some t → Tryd.pinned.checked.prog.wantsStandIn t = false := by
  obtain rfl : f = 6 := Option.some.inj ((show Tryd.prog.funcNamed "retiary/retiarylaw02.TripleSorts" = some 6 by kernel_rfl).symm.trans hf) |>.symm
  obtain rfl : fn = Tryd.f6 := (Option.some.inj (Tryd.func6.symm.trans hfn)).symm
  refine ⟨by kernel_rfl, fun j t ht => ?_⟩
  rw [Tryd.params6] at ht
  have hm := Array.mem_of_getElem? ht
  have hall : (#[40].all fun u => !Tryd.prog.wantsStandIn u) = true := by kernel_rfl
  exact (show Tryd.prog.wantsStandIn t = false by simpa using Array.all_eq_true_iff_forall_mem.1 hall t hm)

theorem proved : Rows.TripleSortsCardSaid :=
  Claim7.holds_tied_plain_at .later [] _ _ _ _ said (fun _ h => by cases h) (by kernel_rfl) (fun _ h => by cases h) tripleSorts_row_tie rfl ⟨rfl, rfl⟩ (by kernel_rfl) rfl plain (by kernel_rfl)
#print axioms proved
end Go.Proofs.YtdkjjkplmlmbeaaDoor.lawTripleSorts
