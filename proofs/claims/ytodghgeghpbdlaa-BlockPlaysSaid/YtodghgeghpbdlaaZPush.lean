/- (Out of layer 14.) A region that draws its order and ends in an operation that comes up last, whatever comes ahead: it may be walked without that one, which is carried out behind. No program. -/
import Derived.Test.YtodghgeghpbdlaaQuiet
import Derived.OrdersHeld
namespace Go.Proofs.Ytodghgeghpbdlaa
open Go.RowKit
set_option maxRecDepth 100000

section
variable {P : Program} {pre : Array Oper} {last : Oper} {Q Q' : Exit → Act → World → Prop} {md : Region.Mode}
/-- What is asked of the region: no guards, each waits for such as stand ahead of it alone, the last one for all others. -/
def lastB (md : Region.Mode) (pre : Array Oper) (last : Oper) : Bool :=
  ((List.range pre.size).all fun j => match pre[j]? with | some o => o.guard.isNone && o.after.all (fun e => !Region.binds md e || decide (e.on < j)) | none => false) &&
  (last.guard.isNone && (last.after.all (fun e => !Region.binds md e || decide (e.on < pre.size)) &&
  (List.range pre.size).all fun j => last.after.any fun e => Region.binds md e && (e.on == j || match pre[e.on]? with | some o => o.after.any (fun e' => Region.binds md e' && e'.on == j) | none => false)))
structure LastOK (md : Region.Mode) (pre : Array Oper) (last : Oper) : Prop where
  g : ∀ (j : Nat) (o : Oper), pre[j]? = some o → o.guard = none
  f : ∀ (j : Nat) (o : Oper), pre[j]? = some o → ∀ e ∈ o.after, Region.binds md e = true → e.on < j
  gl : last.guard = none
  fl : ∀ e ∈ last.after, Region.binds md e = true → e.on < pre.size
  al : ∀ (j : Nat), j < pre.size → ∃ e ∈ last.after, Region.binds md e = true ∧ (e.on = j ∨ ∃ o, pre[e.on]? = some o ∧ ∃ e' ∈ o.after, Region.binds md e' = true ∧ e'.on = j)
theorem LastOK.of (h : lastB md pre last = true) : LastOK md pre last := by
  unfold lastB at h
  simp only [Bool.and_eq_true, List.all_eq_true, List.mem_range] at h
  obtain ⟨h1, h2, h3, h4⟩ := h
  have hlt : ∀ {j : Nat} {o : Oper}, pre[j]? = some o → j < pre.size := fun ho => (Array.getElem?_eq_some_iff.1 ho).1
  refine ⟨fun j o ho => ?_, fun j o ho e he hb => ?_, by simpa using h2, fun e he hb => ?_, fun j hj => ?_⟩
  · have := h1 j (hlt ho)
    rw [ho] at this
    simp only [Bool.and_eq_true] at this
    simpa using this.1
  · have := h1 j (hlt ho)
    rw [ho] at this
    simp only [Bool.and_eq_true, Array.all_eq_true_iff_forall_mem] at this
    have := this.2 e he
    rw [hb] at this
    simpa using this
  · have := Array.all_eq_true_iff_forall_mem.1 h3 e he
    rw [hb] at this
    simpa using this
  · obtain ⟨i, hi, h5⟩ := Array.any_eq_true.1 (h4 j hj)
    simp only [Bool.and_eq_true, Bool.or_eq_true, beq_iff_eq] at h5
    refine ⟨_, Array.getElem_mem hi, h5.1, h5.2.imp id fun h6 => ?_⟩
    split at h6
    · rename_i o ho
      obtain ⟨i', hi', h7⟩ := Array.any_eq_true.1 h6
      simp only [Bool.and_eq_true, beq_iff_eq] at h7
      exact ⟨o, ho, _, Array.getElem_mem hi', h7.1, h7.2⟩
    · cases h6
/-- What has come up: the last one hasn't; all that something waited for has. -/
structure UpTo (md : Region.Mode) (pre : Array Oper) (listed : Array Bool) : Prop where
  sz : listed.size = pre.size + 1
  no : listed.getD pre.size true = false
  cl : ∀ (d : Nat) (o : Oper), pre[d]? = some o → listed.getD d false = true → ∀ e ∈ o.after, Region.binds md e = true → listed.getD e.on false = true
theorem getD_dn {listed : Array Bool} {j : Nat} (hj : j < listed.size) (d : Bool) : listed.getD j d = listed.getD j false := by simp [hj]
theorem UpTo.all {listed : Array Bool} (u : UpTo md pre listed) (h : LastOK md pre last) (hr : Region.ready md pre listed = []) : ∀ j, j < pre.size → listed.getD j false = true := by
  intro j
  induction j using Nat.strongRecOn with
  | _ j ih =>
    intro hj
    cases hb : listed.getD j false with
    | true => rfl
    | false =>
      exfalso
      have : j ∈ Region.ready md pre listed := mem_ready.2 ⟨(getD_dn (by rw [u.sz]; omega) _).trans hb, pre[j], Array.getElem?_eq_getElem hj, fun e he hbe => by
        have := h.f j _ (Array.getElem?_eq_getElem hj) e he hbe
        exact ih e.on this (by omega)⟩
      rw [hr] at this; cases this
theorem UpTo.lastReady {listed : Array Bool} (u : UpTo md pre listed) (h : LastOK md pre last) (hr : Region.ready md pre listed = []) : pre.size ∈ Region.ready md (pre.push last) listed :=
  mem_ready.2 ⟨u.no, last, Array.getElem?_push_size, fun e he hb => u.all h hr _ (h.fl e he hb)⟩
theorem UpTo.allOf {listed : Array Bool} (u : UpTo md pre listed) (h : LastOK md pre last) (hr : pre.size ∈ Region.ready md (pre.push last) listed) : ∀ j, j < pre.size → listed.getD j false = true := by
  intro j hj
  obtain ⟨_, o, ho, hall⟩ := mem_ready.1 hr
  rw [Array.getElem?_push_size] at ho
  cases ho
  obtain ⟨e, he, hb, rfl | ⟨o, ho, e', he', hb', rfl⟩⟩ := h.al j hj
  · exact hall e he hb
  · exact u.cl _ o ho (hall e he hb) e' he' hb'
theorem UpTo.none {listed : Array Bool} (u : UpTo md pre listed) (ha : ∀ j, j < pre.size → listed.getD j false = true) : Region.ready md pre listed = [] := by
  rw [List.eq_nil_iff_forall_not_mem]
  intro j hj
  obtain ⟨h0, o, ho, _⟩ := mem_ready.1 hj
  have hlt := (Array.getElem?_eq_some_iff.1 ho).1
  rw [getD_dn (by rw [u.sz]; omega), ha j hlt] at h0
  cases h0
theorem UpTo.step {listed : Array Bool} (u : UpTo md pre listed) {i : Nat} (hi : i ∈ Region.ready md pre listed) : UpTo md pre (listed.setIfInBounds i true) := by
  obtain ⟨_, o, ho, hall⟩ := mem_ready.1 hi
  have hlt := (Array.getElem?_eq_some_iff.1 ho).1
  refine ⟨by simp [u.sz], by rw [getD_set_ne true (by omega)]; exact u.no, fun d o' ho' hd e he hb => ?_⟩
  by_cases hdi : i = d
  · subst hdi
    rw [ho] at ho'
    cases ho'
    exact getD_set_true (hall e he hb)
  · rw [getD_set_ne false hdi] at hd
    exact getD_set_true (u.cl d o' ho' hd e he hb)
theorem wpTo {o : Oper} {a : Act} {w : World} {K K' : Act → World → Prop} (hp : ∀ c a w, Q' (.panic c) a w → Q (.panic c) a w) (ho : LetsOut Q' → LetsOut Q) (hK : ∀ a w, K a w → K' a w) (h : o.wp P a w K Q') : o.wp P a w K' Q := by
  unfold Oper.wp at *
  generalize (execOp a.eval o).run P w = r at *
  cases r with
  | ok n w' =>
    cases n <;> simp only [Oper.upon] at h ⊢
    case value u => exact hK _ _ h
    case skip => exact hK _ _ h
    case defer d => exact hK _ _ h
    case enter f args =>
      refine Calls.mono h fun e w'' he => ?_
      cases e with
      | returned u => exact hK _ _ he
      | panicked c => exact hp _ _ _ he
      | outgrown => exact ho he
    case row row args => exact Rows.mono h fun u w'' he => hK _ _ he
  | halt x w' =>
    cases x <;> simp only [Oper.upon] at h ⊢
    case panic u => exact hp _ _ _ h
theorem wpOpTo {ops : Array Oper} {i : Nat} {o : Oper} (hi : pre[i]? = some o) (hi' : ops[i]? = some o) (hg : o.guard = none) {a : Act} {w : World} {K K' : Act → World → Prop} (hp : ∀ c a w, Q' (.panic c) a w → Q (.panic c) a w) (ho : LetsOut Q' → LetsOut Q) (hK : ∀ a w, K a w → K' a w) (h : wpOp P pre Q' i K a w) : wpOp P ops Q i K' a w := by
  unfold wpOp at *
  rw [hi] at h
  rw [hi']
  simp only [Region.wanted, hg, if_true] at h ⊢
  exact h.imp (wpTo hp ho hK) fun ⟨h1, h2⟩ => ⟨h1, ho h2⟩
/-- What follows where the last one is left out: it is carried out. -/
def ThenLast (P : Program) (last : Oper) (Q : Exit → Act → World → Prop) : Exit → Act → World → Prop
  | .normal, a, w => last.wp P a w (fun a' w' => Q .normal a' w') Q
  | e, a, w => Q e a w
theorem wpAny_push (h : LastOK md pre last) : ∀ (fuel : Nat) (listed : Array Bool) (a : Act) (w : World), UpTo md pre listed → wpAny P md pre (ThenLast P last Q) fuel listed a w → wpAny P md (pre.push last) Q (fuel + 1) listed a w := by
  have hlast : ∀ (f : Nat) (listed : Array Bool) (a : Act) (w : World), UpTo md pre listed → Region.ready md pre listed = [] → ThenLast P last Q .normal a w → wpOp P (pre.push last) Q pre.size (wpAny P md (pre.push last) Q f (listed.setIfInBounds pre.size true)) a w := fun f listed a w u hr hq => by
    unfold wpOp
    rw [Array.getElem?_push_size]
    simp only [Region.wanted, h.gl, if_true]
    refine .inl (Oper.wp_mono (fun a' w' hq' => ?_) hq)
    have ha := u.all h hr
    have hn : Region.ready md (pre.push last) (listed.setIfInBounds pre.size true) = [] := by
      rw [List.eq_nil_iff_forall_not_mem]
      intro j hj
      obtain ⟨h0, o, ho, _⟩ := mem_ready.1 hj
      have hlt := (Array.getElem?_eq_some_iff.1 ho).1
      rw [Array.size_push] at hlt
      by_cases hjn : pre.size = j
      · subst hjn
        have : pre.size < listed.size := by rw [u.sz]; omega
        simp [this] at h0
      · rw [getD_set_ne true hjn, getD_dn (by rw [u.sz]; omega), ha j (by omega)] at h0
        cases h0
    cases f with
    | zero => exact ⟨hn, hq'⟩
    | succ f => exact ⟨fun _ => hq', by rw [hn]; simp⟩
  intro fuel
  induction fuel with
  | zero =>
    intro listed a w u ⟨hr, hq⟩
    refine ⟨fun hn => absurd (u.lastReady h hr) (by rw [hn]; simp), fun i hi => ?_⟩
    obtain ⟨h0, o, ho, hall⟩ := mem_ready.1 hi
    have hlt := (Array.getElem?_eq_some_iff.1 ho).1
    rw [Array.size_push] at hlt
    by_cases hin : i = pre.size
    · subst hin; exact hlast 0 listed a w u hr hq
    · rw [getD_dn (by rw [u.sz]; omega), u.all h hr i (by omega)] at h0
      cases h0
  | succ fuel ih =>
    intro listed a w u ⟨hq, hs⟩
    have hne : Region.ready md (pre.push last) listed = [] → Q .normal a w := fun hn => by
      have hp : Region.ready md pre listed = [] := by
        rw [List.eq_nil_iff_forall_not_mem]
        intro j hj
        obtain ⟨h0, o, ho, hall⟩ := mem_ready.1 hj
        have hlt := (Array.getElem?_eq_some_iff.1 ho).1
        have : j ∈ Region.ready md (pre.push last) listed := mem_ready.2 ⟨h0, o, by rw [Array.getElem?_push_lt hlt]; rw [Array.getElem?_eq_getElem hlt] at ho; exact ho, hall⟩
        rw [hn] at this; cases this
      exact absurd (u.lastReady h hp) (by rw [hn]; simp)
    refine ⟨hne, fun i hi => ?_⟩
    obtain ⟨h0, o, ho, hall⟩ := mem_ready.1 hi
    have hlt := (Array.getElem?_eq_some_iff.1 ho).1
    rw [Array.size_push] at hlt
    by_cases hin : i = pre.size
    · subst hin
      have hr := u.none (u.allOf h hi)
      exact hlast (fuel + 1) listed a w u hr (hq hr)
    · have hlt' : i < pre.size := by omega
      have ho' : pre[i]? = some o := by
        rw [Array.getElem?_push_lt hlt'] at ho
        rw [Array.getElem?_eq_getElem hlt']; exact ho
      have hi' : i ∈ Region.ready md pre listed := mem_ready.2 ⟨h0, o, ho', hall⟩
      exact wpOpTo ho' ho (h.g i o ho') (fun _ _ _ e => e) (fun e => e) (fun a' w' hw => ih _ a' w' (u.step hi') hw) (hs i hi')
/-- A region that draws: without its last operation, under a condition on the world that holds till then. -/
theorem wp_region_last {id : Nat} {ops : Array Oper} {a : Act} {w : World} (S : World → Prop) (pre : Array Oper) (last : Oper) (ho : ops = pre.push last) (hm : P.follows .mixedOrders = true) (hB : lastB .any pre last = true)
    (h : wpAnyH P .any pre (ThenLast P last Q) S pre.size (Array.replicate (pre.size + 1) false) a w.drew) : (Code.region id ops true).wp P Q a w := by
  subst ho
  refine wp_region_any hm ?_
  rw [Array.size_push]
  refine wpAny_push (LastOK.of hB) _ _ _ _ ⟨by simp, by simp, fun d o _ hd => ?_⟩ (wpAny_of_held _ _ _ _ h)
  have : (Array.replicate (pre.size + 1) false).getD d false = false := by
    rcases Nat.lt_or_ge d (pre.size + 1) with h | h
    · simp [h]
    · simp [Nat.not_lt.2 h]
  rw [this] at hd; cases hd
end
section
theorem app_wp {P : Program} {o : Oper} (d : Option Tmp) (hd : o.dst = d) {a : Act} {w : World} {K : Act → World → Prop} {Q : Exit → Act → World → Prop} (s x : Operand) (t ty : TypeId) (hty : o.type = ty)
    (ho : o.op = .call { callee := .builtin .append, args := #[s, x], argTypes := #[t, t] }) (v y : Value) (hs : a.eval s = v) (hx : a.eval x = y) {v' : Value} {w' : World}
    (hr : (Builtin.append_ #[t, t] ty #[v, y]).run P w = .ok v' w') (h : K (a.put d v') w') : o.wp P a w K Q := by
  subst hd hty
  unfold Oper.wp execOp
  simp only [ho, resolve, invoke, builtin, Sem.run_bind, Sem.run_pure, Result.andThen_ok, List.map_toArray, List.map_cons, List.map_nil, hs, hx, hr]
  exact h
theorem wpOp_of {P : Program} {ops : Array Oper} {Q : Exit → Act → World → Prop} {i : Nat} {o : Oper} {K : Act → World → Prop} {a : Act} {w : World} (hi : ops[i]? = some o) (hg : o.guard = none) (h : o.wp P a w K Q) : wpOp P ops Q i K a w := by
  unfold wpOp
  rw [hi]
  simp only [Region.wanted, hg, if_true]
  exact .inl h
theorem lit_wp {P : Program} {o : Oper} (d : Option Tmp) (hd : o.dst = d) {a : Act} {w w' : World} {v : Value} {K : Act → World → Prop} {Q : Exit → Act → World → Prop} (hr : (execOp a.eval o).run P w = .ok (.value v) w') (h : K (a.put d v) w') : o.wp P a w K Q := by
  subst hd
  unfold Oper.wp
  rw [hr]
  exact h
theorem takeH {P : Program} {ops : Array Oper} {Q : Exit → Act → World → Prop} {md : Region.Mode} {S : World → Prop} {i : Nat} {oi : Oper} (d : Option Tmp) (v : Value) {fuel : Nat} {listed : Array Bool} {a : Act} {w : World} (hi : ops[i]? = some oi) (hd : oi.dst = d)
    (hs : Region.noSelect ops = true) (hf : Region.free md ops listed i = true) (hr : (Region.ready md ops listed).contains i = true)
    (hQ : ∀ c a w, Q (.panic c) (a.put oi.dst v) w → Q (.panic c) a w) (hw : Region.wanted oi (yielded ops a.tmps) = true) (hS : S w) (hy : ∀ w, S w → (execOp a.eval oi).run P w = .ok (.value v) w)
    (h : wpAnyH P md ops Q S fuel (listed.setIfInBounds i true) (a.put d v) w) : wpAnyH P md ops Q S (fuel + 1) listed a w := by
  subst hd
  exact wpAnyH_take hi hs hf hr hQ (.inl ⟨hw, hy⟩) hS h
theorem store_wp {P : Program} {last : Oper} {o : Oper} {Q : Exit → Act → World → Prop} {a : Act} {w : World} {K : Act → World → Prop} (ho : last = o) (hK : K = fun a' w' => Q .normal a' w') (h : o.wp P a w K Q) : ThenLast P last Q .normal a w := by
  subst ho hK
  exact h
theorem forall_one {p : Nat → Prop} {i : Nat} (hi : p i) : ∀ k ∈ [i], p k := fun k hk => by rw [List.mem_singleton.1 hk]; exact hi
theorem wp_region_lastL {P : Program} {Q : Exit → Act → World → Prop} {id : Nat} {l : List Oper} {a : Act} {w : World} (S : World → Prop) (hl : l ≠ []) (hm : P.follows .mixedOrders = true) (hB : lastB .any l.dropLast.toArray (l.getLast hl) = true)
    (h : wpAnyH P .any l.dropLast.toArray (ThenLast P (l.getLast hl) Q) S l.dropLast.toArray.size (Array.replicate (l.dropLast.toArray.size + 1) false) a w.drew) : (Code.region id l.toArray true).wp P Q a w :=
  wp_region_last S l.dropLast.toArray (l.getLast hl) (by rw [List.push_toArray, List.dropLast_concat_getLast]) hm hB h
theorem call_wp {P : Program} {o : Oper} (d : Option Tmp) (hd : o.dst = d) (f : FuncId) (xs : Array Operand) (ats : Array TypeId) (ho : o.op = .call { callee := .value (.func f), args := xs, argTypes := ats }) (he : ∀ args w, (callFunc f args).run P w = .ok (.enter f args) w) {a : Act} {w : World} {K : Act → World → Prop} {Q : Exit → Act → World → Prop} (vals : Array Value) (hv : xs.map a.eval = vals) {R : Ending → World → Prop} (hc : Calls P f vals w R) (hk : ∀ e w', R e w' → ∃ v, e = .returned v ∧ K (a.put d v) w') : o.wp P a w K Q := by
  subst hd hv
  have e1 : execOp a.eval o = callFunc f (#[] ++ xs.map a.eval ++ #[]) := by
    obtain ⟨d, op, ty, pos, after, guard⟩ := o
    simp only at ho
    subst ho
    rfl
  have e2 : (#[] ++ xs.map a.eval ++ #[] : Array Value) = xs.map a.eval := by simp
  unfold Oper.wp
  rw [e1, e2, he]
  exact hc.mono fun e w' hR => by
    obtain ⟨v, rfl, hK⟩ := hk e w' hR
    exact hK
/-- A region that draws, under a condition on the world that holds all along. -/
theorem wp_region_held {P : Program} {Q : Exit → Act → World → Prop} {id : Nat} {ops : Array Oper} {a : Act} {w : World} (S : World → Prop) (hm : P.follows .mixedOrders = true)
    (h : wpAnyH P .any ops Q S ops.size (Array.replicate ops.size false) a w.drew) : (Code.region id ops true).wp P Q a w := by
  refine wp_region_any hm ?_
  exact wpAny_of_held _ _ _ _ h
/-- A load, by an equation on its run. -/
theorem exec_load {P : Program} {ev : Operand → Value} {o : Oper} {ty : TypeId} {x : Operand} {p v : Value} {w : World} (ho : o.op = .load ty x) (hx : ev x = p) (hl : (Instr.loadAt ty p).run P w = .ok v w) : (execOp ev o).run P w = .ok (.value v) w := by
  unfold execOp
  simp only [ho, hx, Sem.run_bind, hl, Result.andThen_ok, Sem.run_pure]
/-- A store into a map, by an equation on its run. -/
theorem upd_wp {P : Program} {o : Oper} {a : Act} {w w' : World} {K : Act → World → Prop} {Q : Exit → Act → World → Prop} (t : TypeId) (m k x : Operand) (ho : o.op = .mapUpdate t m k x) {vm vk vx : Value} (hm : a.eval m = vm) (hk : a.eval k = vk) (hx : a.eval x = vx)
    (hr : (Instr.mapUpdate t vm vk vx).run P w = .ok () w') (h : K (a.put o.dst undef) w') : o.wp P a w K Q := by
  unfold Oper.wp execOp
  simp only [ho, hm, hk, hx, Sem.run_bind, hr, Result.andThen_ok, Sem.run_pure]
  exact h
end
end Go.Proofs.Ytodghgeghpbdlaa
