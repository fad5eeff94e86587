/- Layer trie: what is done to a node: one less in a row. – Layer trie: the program's put. – Layer trie: the program's take. -/
import Derived.Test.YtljefbfjehblpaaGreatA8
import Derived.Maps.OwnSet
namespace Go.Proofs.YtljefbfjehblpaaGreat
section
open Go.RowKit Go.Maps Go.WideMaps
set_option maxRecDepth 100000

theorem enter_ofZ {P : Program} {f : FuncId} {fn : Func} (hf : P.funcs[f]? = some fn) (h1 : fn.name ≠ "runtime.NumGoroutine") (h2 : fn.body.isNone = false) (args : Array Value) (w : World) : (callFunc f args).run P w = .ok (.enter f args) w := by
  have h3 : fn.body ≠ none := fun e => by rw [e] at h2; cases h2
  simp [callFunc, go_sem, hf, h1, h3]
section
variable {w : World} {c : Nat → Nat} {k : Nat} {d : Nd}
set_option maxHeartbeats 4000000 in
theorem lessK_ok (hlow : ∀ b, c b ≠ 0 → b < w.heap.size) {bq id : Nat} (hbq : Blk w bq 3 #[.int .i64 id]) (hcq : c bq = 0) (hl : d.kids.length ≤ 5000) (hri : d.kids.Pairwise (· < ·)) (hm : id ∈ d.kids) : DoOK w c k d { d with kids := d.kids.filter fun y => decide (y ≠ id) } 62 #[.pointer (some ⟨bq, 0, none⟩)] := by
  intro v W hr kW hb
  have hR := hr.kr.keptN ((Kept.refl Nil W).drew)
  have hn : v.kn = d.kids.length := by
    obtain ⟨a, cap, e⟩ := hr.kr.shape
    unfold Go.Proofs.YtljefbfjehblpaaGreat.sl at e
    injection e
  have hnz : 0 < d.kids.length := List.length_pos_of_mem hm
  obtain ⟨b0, hb0⟩ : ∃ b0, v.kb = some b0 := by
    rcases hr.kr.2 with ⟨_, e⟩ | ⟨g, cap', cur, e, _⟩
    · omega
    · unfold Go.Proofs.YtljefbfjehblpaaGreat.sl at e
      injection e with e1 e2 e3
      cases h : v.kb with
      | none => rw [h] at e1; cases e1
      | some x => exact ⟨x, rfl⟩
  unfold Go.Proofs.YtljefbfjehblpaaGreat.sl at hR
  rw [hb0] at hR
  have CW := Lib.hid (without_any (b := b0) (n := v.kn) (cap := v.kc) (x := id) (show RowN W.drew (.slice (some ⟨b0, 0, none⟩) v.kn v.kc) d.kids from hR) hri hm hl)
  have hq : w.heap.size < W.heap.size := hb.lt
  have hbqW := (hbq.kept kW (fun e => e))
  have c16 : W.cell? ⟨w.heap.size, 16, none⟩ = some (.slice (some ⟨b0, 0, none⟩) v.kn v.kc) := by rw [hb.cell]; simp [aN, Go.Proofs.YtljefbfjehblpaaGreat.sl, hb0]
  have cbq : W.cell? ⟨bq, 0, none⟩ = some (.int .i64 id) := by rw [hbqW.cell]; rfl
  have S0 : Hid (SPut w.heap.size 16 bq id (.slice (some ⟨b0, 0, none⟩) v.kn v.kc) W.drew) := Lib.hid ⟨c16, cbq⟩
  have h1 := hr.kc b0 hb0
  have hlb := hlow b0 (by omega)
  have hown1 : b0 ≠ w.heap.size := by omega
  have hown2 : b0 ≠ bq := fun e => by rw [e] at h1; omega
  have HE : Hid (∀ W3, Kept (fun b => b = b0) W.drew W3 → RowN W3 (.slice (some ⟨b0, 0, none⟩) (v.kn - 1) v.kc) (d.kids.filter fun y => decide (y ≠ id)) → SPut w.heap.size 16 bq id (.slice (some ⟨b0, 0, none⟩) v.kn v.kc) W3 ∧ W3.frozen? ⟨w.heap.size, 16, none⟩ = false ∧ ∃ v' c', DoPost w c k w.heap.size { d with kids := d.kids.filter fun y => decide (y ≠ id) } (W3.setCell ⟨w.heap.size, 16, none⟩ (.slice (some ⟨b0, 0, none⟩) (v.kn - 1) v.kc)) v' c' ∧ Kept (DoF c k w.heap.size W) W (W3.setCell ⟨w.heap.size, 16, none⟩ (.slice (some ⟨b0, 0, none⟩) (v.kn - 1) v.kc))) := Lib.hid fun W3 k3 r3 => by
    have kk : Kept (fun b => v.kb = some b) W W3 := ((Kept.refl _ W).drew).trans k3 (fun i _ e => by rw [hb0, e])
    have hb3 : Blk W3 w.heap.size 89 (aN v) := hb.kept kk (fun e => by rw [hb0] at e; exact hown1 (Option.some.inj e))
    have k4 : Kept (fun b => b = w.heap.size) W3 (W3.setCell ⟨w.heap.size, 16, none⟩ (.slice (some ⟨b0, 0, none⟩) (v.kn - 1) v.kc)) := Kept.setCell (F := fun b => b = w.heap.size) (Kept.refl _ _) _ (.inl rfl) _
    refine ⟨⟨?_, ?_⟩, hb3.frozen 16, ?_⟩
    · rw [kk.cell hq (fun e => by rw [hb0] at e; exact hown1 (Option.some.inj e))]; exact c16
    · rw [kk.cell hbqW.lt (fun e => by rw [hb0] at e; exact hown2 (Option.some.inj e))]; exact cbq
    · have hb4 := hb3.set_ 16 (.slice (some ⟨b0, 0, none⟩) (v.kn - 1) v.kc)
      have kk4 : Kept (fun b => b = w.heap.size ∨ v.kb = some b) W (W3.setCell ⟨w.heap.size, 16, none⟩ (.slice (some ⟨b0, 0, none⟩) (v.kn - 1) v.kc)) := (kk.mono (fun _ _ e => .inr e)).trans k4 (fun _ _ e => .inl e)
      have hR4 : RowN (W3.setCell ⟨w.heap.size, 16, none⟩ (.slice (some ⟨b0, 0, none⟩) (v.kn - 1) v.kc)) (Go.Proofs.YtljefbfjehblpaaGreat.sl (some b0) (v.kn - 1) v.kc) (d.kids.filter fun y => decide (y ≠ id)) := r3.keptF k4 (fun b e f => by
        have : b0 = b := Option.some.inj e
        omega)
      exact ⟨_, _, doPost_k hlow hr kW kk4 hR4 (fun b e => .inl (hb0.trans e)) hb4⟩
  have hqq := hq
  clear hR hb hr kW hbq hbqW hn hl hlow hcq c16 cbq hri hm hnz h1 hlb hown1 hown2 hb0
  generalize w.heap.size = q at *
  generalize v.kn = n at *
  generalize v.kc = cap at *
  show Calls Tryz.prog 62 #[.pointer (some ⟨q, 0, none⟩), .pointer (some ⟨bq, 0, none⟩)] W _
  go_enter Tryz.func62, Tryz.ntmps62
  go_wp2_with fail
  refine wp_region_lastL (SPut q 16 bq id (.slice (some ⟨b0, 0, none⟩) n cap)) (by simp) (by kernel_rfl) (by kernel_rfl) ?_
  simp only [List.dropLast, List.getLast]
  refine takeH (i := 0) (some 3) (.pointer (some ⟨q, 0, none⟩)) rfl rfl (by kernel_rfl) (by kernel_rfl) (by kernel_rfl) (fun _ _ _ h => h) (by rfl) S0.out ?_ ?_
  · intro w hSw
    go_simp
  simp only [Act.put, List.setIfInBounds_toArray, List.set_cons_succ, List.set_cons_zero]
  refine takeH (i := 1) (some 4) (.pointer (some ⟨q, 0, none⟩)) rfl rfl (by kernel_rfl) (by kernel_rfl) (by kernel_rfl) (fun _ _ _ h => h) (by rfl) S0.out ?_ ?_
  · intro w hSw
    go_simp
  simp only [Act.put, List.setIfInBounds_toArray, List.set_cons_succ, List.set_cons_zero]
  refine takeH (i := 2) (some 5) (.pointer (some ⟨q, 0, none⟩)) rfl rfl (by kernel_rfl) (by kernel_rfl) (by kernel_rfl) (fun _ _ _ h => h) (by rfl) S0.out ?_ ?_
  · intro w hSw
    go_simp
  simp only [Act.put, List.setIfInBounds_toArray, List.set_cons_succ, List.set_cons_zero]
  refine takeH (i := 3) (some 6) (.pointer (some ⟨q, 16, none⟩)) rfl rfl (by kernel_rfl) (by kernel_rfl) (by kernel_rfl) (fun _ _ _ h => h) (by rfl) S0.out ?_ ?_
  · intro w hSw
    go_simp
  simp only [Act.put, List.setIfInBounds_toArray, List.set_cons_succ, List.set_cons_zero]
  refine takeH (i := 4) (some 7) (.slice (some ⟨b0, 0, none⟩) n cap) rfl rfl (by kernel_rfl) (by kernel_rfl) (by kernel_rfl) (fun _ _ _ h => h) (by rfl) S0.out ?_ ?_
  · intro w hSw
    have h1 := hSw.1; go_simp
  simp only [Act.put, List.setIfInBounds_toArray, List.set_cons_succ, List.set_cons_zero]
  refine takeH (i := 5) (some 8) (.int .i64 id) rfl rfl (by kernel_rfl) (by kernel_rfl) (by kernel_rfl) (fun _ _ _ h => h) (by rfl) S0.out ?_ ?_
  · intro w hSw
    have h2 := hSw.2; go_simp
  simp only [Act.put, List.setIfInBounds_toArray, List.set_cons_succ, List.set_cons_zero]
  refine wpAnyH_all (rs := [6]) (by kernel_rfl) (by decide) (forall_one ?_)
  refine wpOp_of rfl rfl (call_wp (some 9) rfl 63 #[.tmp 7, .tmp 8] #[28, 3] rfl (enter_ofZ (by rfl) (by decide) (by kernel_rfl)) #[.slice (some ⟨b0, 0, none⟩) n cap, .int .i64 id] (by simp [Act.eval]) CW.out ?_)
  rintro e W3 ⟨rfl, r3, k3⟩
  obtain ⟨s3, f3, he⟩ := HE.out W3 k3 r3
  have S3 := Lib.hid s3
  have HE3 := Lib.hid he
  have c3 := s3.1
  have hq3 : q < W3.heap.size := Nat.lt_of_lt_of_le hqq k3.size
  clear he s3 k3 r3 HE
  refine ⟨_, rfl, S3.out, ?_⟩
  simp only [Act.put, List.setIfInBounds_toArray, List.set_cons_succ, List.set_cons_zero]
  refine takeH (i := 7) (some 10) (.pointer (some ⟨q, 0, none⟩)) rfl rfl (by kernel_rfl) (by kernel_rfl) (by kernel_rfl) (fun _ _ _ h => h) (by rfl) S3.out ?_ ?_
  · intro w hSw
    go_simp
  simp only [Act.put, List.setIfInBounds_toArray, List.set_cons_succ, List.set_cons_zero]
  refine takeH (i := 8) (some 11) (.pointer (some ⟨q, 16, none⟩)) rfl rfl (by kernel_rfl) (by kernel_rfl) (by kernel_rfl) (fun _ _ _ h => h) (by rfl) S3.out ?_ ?_
  · intro w hSw
    go_simp
  simp only [Act.put, List.setIfInBounds_toArray, List.set_cons_succ, List.set_cons_zero]
  refine wpAnyH_done (by kernel_rfl) ?_ _
  refine store_wp rfl rfl ?_
  generalize n - 1 = n1 at *
  go_wp2_with fail
  go_end0
  exact ⟨rfl, HE3.out⟩
set_option maxHeartbeats 4000000 in
theorem lessO_ok (hlow : ∀ b, c b ≠ 0 → b < w.heap.size) {bq id : Nat} (hbq : Blk w bq 3 #[.int .i64 id]) (hcq : c bq = 0) (hl : d.outer.length ≤ 5000) (hri : d.outer.Pairwise (· < ·)) (hm : id ∈ d.outer) : DoOK w c k d { d with outer := d.outer.filter fun y => decide (y ≠ id) } 64 #[.pointer (some ⟨bq, 0, none⟩)] := by
  intro v W hr kW hb
  have hR := hr.or.keptN ((Kept.refl Nil W).drew)
  have hn : v.on = d.outer.length := by
    obtain ⟨a, cap, e⟩ := hr.or.shape
    unfold Go.Proofs.YtljefbfjehblpaaGreat.sl at e
    injection e
  have hnz : 0 < d.outer.length := List.length_pos_of_mem hm
  obtain ⟨b0, hb0⟩ : ∃ b0, v.ob = some b0 := by
    rcases hr.or.2 with ⟨_, e⟩ | ⟨g, cap', cur, e, _⟩
    · omega
    · unfold Go.Proofs.YtljefbfjehblpaaGreat.sl at e
      injection e with e1 e2 e3
      cases h : v.ob with
      | none => rw [h] at e1; cases e1
      | some x => exact ⟨x, rfl⟩
  unfold Go.Proofs.YtljefbfjehblpaaGreat.sl at hR
  rw [hb0] at hR
  have CW := Lib.hid (without_any (b := b0) (n := v.on) (cap := v.oc) (x := id) (show RowN W.drew (.slice (some ⟨b0, 0, none⟩) v.on v.oc) d.outer from hR) hri hm hl)
  have hq : w.heap.size < W.heap.size := hb.lt
  have hbqW := (hbq.kept kW (fun e => e))
  have c16 : W.cell? ⟨w.heap.size, 17, none⟩ = some (.slice (some ⟨b0, 0, none⟩) v.on v.oc) := by rw [hb.cell]; simp [aN, Go.Proofs.YtljefbfjehblpaaGreat.sl, hb0]
  have cbq : W.cell? ⟨bq, 0, none⟩ = some (.int .i64 id) := by rw [hbqW.cell]; rfl
  have S0 : Hid (SPut w.heap.size 17 bq id (.slice (some ⟨b0, 0, none⟩) v.on v.oc) W.drew) := Lib.hid ⟨c16, cbq⟩
  have h1 := hr.oc b0 hb0
  have hlb := hlow b0 (by omega)
  have hown1 : b0 ≠ w.heap.size := by omega
  have hown2 : b0 ≠ bq := fun e => by rw [e] at h1; omega
  have HE : Hid (∀ W3, Kept (fun b => b = b0) W.drew W3 → RowN W3 (.slice (some ⟨b0, 0, none⟩) (v.on - 1) v.oc) (d.outer.filter fun y => decide (y ≠ id)) → SPut w.heap.size 17 bq id (.slice (some ⟨b0, 0, none⟩) v.on v.oc) W3 ∧ W3.frozen? ⟨w.heap.size, 17, none⟩ = false ∧ ∃ v' c', DoPost w c k w.heap.size { d with outer := d.outer.filter fun y => decide (y ≠ id) } (W3.setCell ⟨w.heap.size, 17, none⟩ (.slice (some ⟨b0, 0, none⟩) (v.on - 1) v.oc)) v' c' ∧ Kept (DoF c k w.heap.size W) W (W3.setCell ⟨w.heap.size, 17, none⟩ (.slice (some ⟨b0, 0, none⟩) (v.on - 1) v.oc))) := Lib.hid fun W3 k3 r3 => by
    have kk : Kept (fun b => v.ob = some b) W W3 := ((Kept.refl _ W).drew).trans k3 (fun i _ e => by rw [hb0, e])
    have hb3 : Blk W3 w.heap.size 89 (aN v) := hb.kept kk (fun e => by rw [hb0] at e; exact hown1 (Option.some.inj e))
    have k4 : Kept (fun b => b = w.heap.size) W3 (W3.setCell ⟨w.heap.size, 17, none⟩ (.slice (some ⟨b0, 0, none⟩) (v.on - 1) v.oc)) := Kept.setCell (F := fun b => b = w.heap.size) (Kept.refl _ _) _ (.inl rfl) _
    refine ⟨⟨?_, ?_⟩, hb3.frozen 17, ?_⟩
    · rw [kk.cell hq (fun e => by rw [hb0] at e; exact hown1 (Option.some.inj e))]; exact c16
    · rw [kk.cell hbqW.lt (fun e => by rw [hb0] at e; exact hown2 (Option.some.inj e))]; exact cbq
    · have hb4 := hb3.set_ 17 (.slice (some ⟨b0, 0, none⟩) (v.on - 1) v.oc)
      have kk4 : Kept (fun b => b = w.heap.size ∨ v.ob = some b) W (W3.setCell ⟨w.heap.size, 17, none⟩ (.slice (some ⟨b0, 0, none⟩) (v.on - 1) v.oc)) := (kk.mono (fun _ _ e => .inr e)).trans k4 (fun _ _ e => .inl e)
      have hR4 : RowN (W3.setCell ⟨w.heap.size, 17, none⟩ (.slice (some ⟨b0, 0, none⟩) (v.on - 1) v.oc)) (Go.Proofs.YtljefbfjehblpaaGreat.sl (some b0) (v.on - 1) v.oc) (d.outer.filter fun y => decide (y ≠ id)) := r3.keptF k4 (fun b e f => by
        have : b0 = b := Option.some.inj e
        omega)
      exact ⟨_, _, doPost_o hlow hr kW kk4 hR4 (fun b e => .inl (hb0.trans e)) hb4⟩
  have hqq := hq
  clear hR hb hr kW hbq hbqW hn hl hlow hcq c16 cbq hri hm hnz h1 hlb hown1 hown2 hb0
  generalize w.heap.size = q at *
  generalize v.on = n at *
  generalize v.oc = cap at *
  show Calls Tryz.prog 64 #[.pointer (some ⟨q, 0, none⟩), .pointer (some ⟨bq, 0, none⟩)] W _
  go_enter Tryz.func64, Tryz.ntmps64
  go_wp2_with fail
  refine wp_region_lastL (SPut q 17 bq id (.slice (some ⟨b0, 0, none⟩) n cap)) (by simp) (by kernel_rfl) (by kernel_rfl) ?_
  simp only [List.dropLast, List.getLast]
  refine takeH (i := 0) (some 3) (.pointer (some ⟨q, 0, none⟩)) rfl rfl (by kernel_rfl) (by kernel_rfl) (by kernel_rfl) (fun _ _ _ h => h) (by rfl) S0.out ?_ ?_
  · intro w hSw
    go_simp
  simp only [Act.put, List.setIfInBounds_toArray, List.set_cons_succ, List.set_cons_zero]
  refine takeH (i := 1) (some 4) (.pointer (some ⟨q, 0, none⟩)) rfl rfl (by kernel_rfl) (by kernel_rfl) (by kernel_rfl) (fun _ _ _ h => h) (by rfl) S0.out ?_ ?_
  · intro w hSw
    go_simp
  simp only [Act.put, List.setIfInBounds_toArray, List.set_cons_succ, List.set_cons_zero]
  refine takeH (i := 2) (some 5) (.pointer (some ⟨q, 0, none⟩)) rfl rfl (by kernel_rfl) (by kernel_rfl) (by kernel_rfl) (fun _ _ _ h => h) (by rfl) S0.out ?_ ?_
  · intro w hSw
    go_simp
  simp only [Act.put, List.setIfInBounds_toArray, List.set_cons_succ, List.set_cons_zero]
  refine takeH (i := 3) (some 6) (.pointer (some ⟨q, 17, none⟩)) rfl rfl (by kernel_rfl) (by kernel_rfl) (by kernel_rfl) (fun _ _ _ h => h) (by rfl) S0.out ?_ ?_
  · intro w hSw
    go_simp
  simp only [Act.put, List.setIfInBounds_toArray, List.set_cons_succ, List.set_cons_zero]
  refine takeH (i := 4) (some 7) (.slice (some ⟨b0, 0, none⟩) n cap) rfl rfl (by kernel_rfl) (by kernel_rfl) (by kernel_rfl) (fun _ _ _ h => h) (by rfl) S0.out ?_ ?_
  · intro w hSw
    have h1 := hSw.1; go_simp
  simp only [Act.put, List.setIfInBounds_toArray, List.set_cons_succ, List.set_cons_zero]
  refine takeH (i := 5) (some 8) (.int .i64 id) rfl rfl (by kernel_rfl) (by kernel_rfl) (by kernel_rfl) (fun _ _ _ h => h) (by rfl) S0.out ?_ ?_
  · intro w hSw
    have h2 := hSw.2; go_simp
  simp only [Act.put, List.setIfInBounds_toArray, List.set_cons_succ, List.set_cons_zero]
  refine wpAnyH_all (rs := [6]) (by kernel_rfl) (by decide) (forall_one ?_)
  refine wpOp_of rfl rfl (call_wp (some 9) rfl 63 #[.tmp 7, .tmp 8] #[28, 3] rfl (enter_ofZ (by rfl) (by decide) (by kernel_rfl)) #[.slice (some ⟨b0, 0, none⟩) n cap, .int .i64 id] (by simp [Act.eval]) CW.out ?_)
  rintro e W3 ⟨rfl, r3, k3⟩
  obtain ⟨s3, f3, he⟩ := HE.out W3 k3 r3
  have S3 := Lib.hid s3
  have HE3 := Lib.hid he
  have c3 := s3.1
  have hq3 : q < W3.heap.size := Nat.lt_of_lt_of_le hqq k3.size
  clear he s3 k3 r3 HE
  refine ⟨_, rfl, S3.out, ?_⟩
  simp only [Act.put, List.setIfInBounds_toArray, List.set_cons_succ, List.set_cons_zero]
  refine takeH (i := 7) (some 10) (.pointer (some ⟨q, 0, none⟩)) rfl rfl (by kernel_rfl) (by kernel_rfl) (by kernel_rfl) (fun _ _ _ h => h) (by rfl) S3.out ?_ ?_
  · intro w hSw
    go_simp
  simp only [Act.put, List.setIfInBounds_toArray, List.set_cons_succ, List.set_cons_zero]
  refine takeH (i := 8) (some 11) (.pointer (some ⟨q, 17, none⟩)) rfl rfl (by kernel_rfl) (by kernel_rfl) (by kernel_rfl) (fun _ _ _ h => h) (by rfl) S3.out ?_ ?_
  · intro w hSw
    go_simp
  simp only [Act.put, List.setIfInBounds_toArray, List.set_cons_succ, List.set_cons_zero]
  refine wpAnyH_done (by kernel_rfl) ?_ _
  refine store_wp rfl rfl ?_
  generalize n - 1 = n1 at *
  go_wp2_with fail
  go_end0
  exact ⟨rfl, HE3.out⟩
end
end
section
open Go.RowKit Go.Maps Go.WideMaps
set_option maxRecDepth 100000

theorem infoSp16 (s : Sp) : (Tryz.prog.info? 62).map (·.size) = some (aSp s).size := (by kernel_rfl : (Tryz.prog.info? 62).map (·.size) = some 16)
theorem loadSp {W : World} {q : Nat} {s : Sp} (hb : Blk W q 62 (aSp s)) : (Instr.loadAt 62 (.pointer (some ⟨q, 0, none⟩))).run Tryz.prog W = .ok (.agg (aSp s)) W := by
  simp only [Instr.loadAt, Instr.sureAddr, Sem.run_bind, Sem.run_pure, Result.andThen_ok, run_loadVar_row W q _ _ _ _ _ hb Tryz.underlying62 rfl (infoSp16 s)]
section
variable {w : World} {c : Nat → Nat} {p m : Nat} {nd : Nat → Option Nd} {nm : Sp → Option Nat} {bn bs : Nat} {nv : Nat → Option Nv}
/-- A node put in by the next number. -/
theorem Trx.enter (h : Trx w c p nd nm m bn bs nv) (hm : m ≤ 3000) (s : Sp) (hs : SpOK s) {n1 : Int} (hn1 : n1 = ((m + 1 : Nat) : Int)) {W1 : World} (k1 : Kept Nil (w.setCell ⟨p, 2, none⟩ (.int .i64 n1)) W1) :
    ∃ W2, (Instr.mapUpdate 51 (.map (some bn)) (.int .i64 n1) (.agg (aN ⟨s, none, 0, 0, none, 0, 0, 0, 0⟩))).run Tryz.prog W1.drew = .ok () W2 ∧ Kept (fun b => b = bn) W1 W2 ∧
      ∃ W3, (Instr.mapUpdate 52 (.map (some bs)) (.agg (aSp s)) (.int .i64 n1)).run Tryz.prog W2.drew = .ok () W3 ∧ Kept (fun b => b = bn ∨ b = bs) W1 W3 ∧ TG w W3 c p (setF nd (m + 1) (some ⟨s, [], [], 0, 0⟩)) (setF nm s (some (m + 1))) (m + 1) c := by
  subst hn1
  have hp := h.blk.lt
  have hbn := h.mn.lt
  have hbs := h.ms.lt
  have hpn : p ≠ bn := fun e => by have := h.cp; rw [e, h.cn] at this; cases this
  have hps : p ≠ bs := fun e => by have := h.cp; rw [e, h.cs] at this; cases this
  have hns : bn ≠ bs := fun e => by have := h.cn; rw [e, h.cs] at this; cases this
  have k0 : Kept (fun b => b = p) w (w.setCell ⟨p, 2, none⟩ (.int .i64 ((m + 1 : Nat) : Int))) := Kept.setCell (F := fun b => b = p) (Kept.refl _ _) _ (.inl rfl) _
  have k01 : Kept (fun b => b = p) w W1 := k0.trans k1 (fun _ _ e => e.elim)
  have hblk : Blk W1 p 54 #[.map (some bn), .map (some bs), .int .i64 ((m + 1 : Nat) : Int)] := (h.blk.set_ 2 _).kept k1 (fun e => e)
  have hmn1 := h.mn.kept k01 (fun e => hpn e.symm)
  have hms1 := h.ms.kept k01 (fun e => hps e.symm)
  obtain ⟨W2, r2, mn2, k2⟩ := (hmn1.kept ((Kept.refl Nil W1).drew) (fun e => e)).put uNodes (by omega) (k := m + 1) (show m + 1 ≤ 4611686018427387904 by omega) ⟨s, none, 0, 0, none, 0, 0, 0, 0⟩
  have k12 : Kept (fun b => b = bn) W1 W2 := (((Kept.refl Nil W1).drew).mono (fun _ _ e => e.elim)).trans k2 (fun _ _ e => e)
  obtain ⟨W3, r3, ms3, k3⟩ := ((hms1.kept k12 (fun e => hns e.symm)).kept ((Kept.refl Nil W2).drew) (fun e => e)).put uNums (by omega) hs (m + 1)
  have k23 : Kept (fun b => b = bs) W2 W3 := (((Kept.refl Nil W2).drew).mono (fun _ _ e => e.elim)).trans k3 (fun _ _ e => e)
  have k13 : Kept (fun b => b = bn ∨ b = bs) W1 W3 := (k12.mono (fun _ _ e => .inl e)).trans k23 (fun _ _ e => .inr e)
  have k03 : Kept (fun b => b = p ∨ b = bn ∨ b = bs) w W3 := (k01.mono (fun _ _ e => .inl e)).trans k13 (fun _ _ e => .inr e)
  refine ⟨W2, r2, k12, W3, r3, k13, ⟨bn, bs, _, ⟨fun b e => Nat.lt_of_lt_of_le (h.low b e) k03.size, h.cp, h.cn, h.cs, hblk.kept k13 (fun e => e.elim hpn hps), mn2.kept k23 hns, ms3, fun j => ?_, fun j hj => ?_⟩⟩, k03.mono (fun b _ e => ?_), fun _ _ => rfl, fun b e => .inl (by
    by_cases g : c b = 0
    · exact g
    · have := h.low b g; omega)⟩
  · by_cases e : j = m + 1
    · subst e
      refine .inr ⟨_, _, setF_same _ _ _, setF_same _ _ _, ⟨rfl, rfl, rfl, Row.nil _ _, Row.nil _ _, (fun b e => by cases e), (fun b e => by cases e)⟩⟩
    · rw [setF_other _ _ e, setF_other _ _ e]
      rcases h.rows j with e1 | ⟨d1, v1, e1, e2, e3⟩
      · exact .inl e1
      · refine .inr ⟨d1, v1, e1, e2, e3.kept k03 (fun b f => ?_) (fun b f => rfl)⟩
        rcases f with rfl | rfl | rfl
        · rw [h.cp]; omega
        · rw [h.cn]; omega
        · rw [h.cs]; omega
  · by_cases e : j = m + 1
    · omega
    · rw [setF_other _ _ e] at hj
      have := h.le j hj
      omega
  · rcases e with rfl | rfl | rfl
    · exact ⟨by rw [h.cp]; decide, .inl (by rw [h.cp]; decide)⟩
    · exact ⟨by rw [h.cn]; decide, .inl (by rw [h.cn]; decide)⟩
    · exact ⟨by rw [h.cs]; decide, .inl (by rw [h.cs]; decide)⟩
theorem ch_addK (h : Tr w c p nd nm m) (hm : m ≤ 4000) (i : Nat) (hi : i ≤ 4611686018427387904) {bq id : Nat} (hbq : Blk w bq 3 #[.int .i64 id]) (hcq : c bq = 0) (hl : ∀ x, nd i = some x → x.kids.length ≤ 5000) :
    Calls Tryz.prog 26 #[.pointer (some ⟨p, 0, none⟩), .int .i64 i, .func (.func 52) #[] #[.pointer (some ⟨bq, 0, none⟩)]] w fun e w' => e = .returned (.tuple #[]) ∧ ∃ c', TG w w' c p (addK nd i id) nm m c' := by
  cases e : nd i with
  | none =>
    have e2 : addK nd i id = nd := by
      funext j
      unfold addK
      split
      · rename_i ej; rw [ej, e]; rfl
      · rfl
    rw [e2]
    exact (change_none h e hi _).mono fun e w' ⟨he, k⟩ => ⟨he, c, (TG.refl h).thenN k⟩
  | some d =>
    have e2 : addK nd i id = setF nd i (some { d with kids := d.kids ++ [id] }) := by
      funext j
      unfold addK setF
      split
      · rename_i ej; rw [ej, e]; rfl
      · rfl
    rw [e2]
    exact change_some h hm e (enter_ofZ (by rfl) (by decide) (by kernel_rfl)) (pushK_ok h.low hbq hcq (hl d e))
theorem ch_addO (h : Tr w c p nd nm m) (hm : m ≤ 4000) (i : Nat) (hi : i ≤ 4611686018427387904) {bq id : Nat} (hbq : Blk w bq 3 #[.int .i64 id]) (hcq : c bq = 0) (hl : ∀ x, nd i = some x → x.outer.length ≤ 5000) :
    Calls Tryz.prog 26 #[.pointer (some ⟨p, 0, none⟩), .int .i64 i, .func (.func 53) #[] #[.pointer (some ⟨bq, 0, none⟩)]] w fun e w' => e = .returned (.tuple #[]) ∧ ∃ c', TG w w' c p (addO nd i id) nm m c' := by
  cases e : nd i with
  | none =>
    have e2 : addO nd i id = nd := by
      funext j
      unfold addO
      split
      · rename_i ej; rw [ej, e]; rfl
      · rfl
    rw [e2]
    exact (change_none h e hi _).mono fun e w' ⟨he, k⟩ => ⟨he, c, (TG.refl h).thenN k⟩
  | some d =>
    have e2 : addO nd i id = setF nd i (some { d with outer := d.outer ++ [id] }) := by
      funext j
      unfold addO setF
      split
      · rename_i ej; rw [ej, e]; rfl
      · rfl
    rw [e2]
    exact change_some h hm e (enter_ofZ (by rfl) (by decide) (by kernel_rfl)) (pushO_ok h.low hbq hcq (hl d e))
theorem ch_lessK (h : Tr w c p nd nm m) (hm : m ≤ 4000) (i : Nat) (hi : i ≤ 4611686018427387904) {bq id : Nat} (hbq : Blk w bq 3 #[.int .i64 id]) (hcq : c bq = 0) (hl : ∀ x, nd i = some x → x.kids.length ≤ 5000) (hri : ∀ x, nd i = some x → x.kids.Pairwise (· < ·) ∧ id ∈ x.kids) :
    Calls Tryz.prog 26 #[.pointer (some ⟨p, 0, none⟩), .int .i64 i, .func (.func 62) #[] #[.pointer (some ⟨bq, 0, none⟩)]] w fun e w' => e = .returned (.tuple #[]) ∧ ∃ c', TG w w' c p (lessK nd i id) nm m c' := by
  cases e : nd i with
  | none =>
    have e2 : lessK nd i id = nd := by
      funext j
      unfold lessK
      split
      · rename_i ej; rw [ej, e]; rfl
      · rfl
    rw [e2]
    exact (change_none h e hi _).mono fun e w' ⟨he, k⟩ => ⟨he, c, (TG.refl h).thenN k⟩
  | some d =>
    have e2 : lessK nd i id = setF nd i (some { d with kids := d.kids.filter fun m => decide (m ≠ id) }) := by
      funext j
      unfold lessK setF
      split
      · rename_i ej; rw [ej, e]; rfl
      · rfl
    rw [e2]
    exact change_some h hm e (enter_ofZ (by rfl) (by decide) (by kernel_rfl)) (lessK_ok h.low hbq hcq (hl d e) (hri d e).1 (hri d e).2)
theorem ch_lessO (h : Tr w c p nd nm m) (hm : m ≤ 4000) (i : Nat) (hi : i ≤ 4611686018427387904) {bq id : Nat} (hbq : Blk w bq 3 #[.int .i64 id]) (hcq : c bq = 0) (hl : ∀ x, nd i = some x → x.outer.length ≤ 5000) (hri : ∀ x, nd i = some x → x.outer.Pairwise (· < ·) ∧ id ∈ x.outer) :
    Calls Tryz.prog 26 #[.pointer (some ⟨p, 0, none⟩), .int .i64 i, .func (.func 64) #[] #[.pointer (some ⟨bq, 0, none⟩)]] w fun e w' => e = .returned (.tuple #[]) ∧ ∃ c', TG w w' c p (lessO nd i id) nm m c' := by
  cases e : nd i with
  | none =>
    have e2 : lessO nd i id = nd := by
      funext j
      unfold lessO
      split
      · rename_i ej; rw [ej, e]; rfl
      · rfl
    rw [e2]
    exact (change_none h e hi _).mono fun e w' ⟨he, k⟩ => ⟨he, c, (TG.refl h).thenN k⟩
  | some d =>
    have e2 : lessO nd i id = setF nd i (some { d with outer := d.outer.filter fun m => decide (m ≠ id) }) := by
      funext j
      unfold lessO setF
      split
      · rename_i ej; rw [ej, e]; rfl
      · rfl
    rw [e2]
    exact change_some h hm e (enter_ofZ (by rfl) (by decide) (by kernel_rfl)) (lessO_ok h.low hbq hcq (hl d e) (hri d e).1 (hri d e).2)
theorem ch_incU (h : Tr w c p nd nm m) (hm : m ≤ 4000) (i : Nat) {d : Nd} (e : nd i = some d) (hu : -1000000 ≤ d.us ∧ d.us ≤ 1000000) :
    Calls Tryz.prog 26 #[.pointer (some ⟨p, 0, none⟩), .int .i64 i, .func (.func 38) #[] #[]] w fun e w' => e = .returned (.tuple #[]) ∧ ∃ c', TG w w' c p (setF nd i (some { d with us := d.us + 1 })) nm m c' :=
  change_some h hm e (enter_ofZ (by rfl) (by decide) (by kernel_rfl)) (incU_ok h.low hu)
theorem ch_decU (h : Tr w c p nd nm m) (hm : m ≤ 4000) (i : Nat) {d : Nd} (e : nd i = some d) (hu : -1000000 ≤ d.us ∧ d.us ≤ 1000000) :
    Calls Tryz.prog 26 #[.pointer (some ⟨p, 0, none⟩), .int .i64 i, .func (.func 31) #[] #[]] w fun e w' => e = .returned (.tuple #[]) ∧ ∃ c', TG w w' c p (setF nd i (some { d with us := d.us - 1 })) nm m c' :=
  change_some h hm e (enter_ofZ (by rfl) (by decide) (by kernel_rfl)) (decU_ok h.low hu)
theorem ch_incL (h : Tr w c p nd nm m) (hm : m ≤ 4000) (i : Nat) {d : Nd} (e : nd i = some d) (hu : -1000000 ≤ d.li ∧ d.li ≤ 1000000) :
    Calls Tryz.prog 26 #[.pointer (some ⟨p, 0, none⟩), .int .i64 i, .func (.func 39) #[] #[]] w fun e w' => e = .returned (.tuple #[]) ∧ ∃ c', TG w w' c p (setF nd i (some { d with li := d.li + 1 })) nm m c' :=
  change_some h hm e (enter_ofZ (by rfl) (by decide) (by kernel_rfl)) (incL_ok h.low hu)
theorem ch_decL (h : Tr w c p nd nm m) (hm : m ≤ 4000) (i : Nat) {d : Nd} (e : nd i = some d) (hu : -1000000 ≤ d.li ∧ d.li ≤ 1000000) :
    Calls Tryz.prog 26 #[.pointer (some ⟨p, 0, none⟩), .int .i64 i, .func (.func 27) #[] #[]] w fun e w' => e = .returned (.tuple #[]) ∧ ∃ c', TG w w' c p (setF nd i (some { d with li := d.li - 1 })) nm m c' :=
  change_some h hm e (enter_ofZ (by rfl) (by decide) (by kernel_rfl)) (decL_ok h.low hu)
/-- What put reads in its regions. -/
def SPutN (p b3 b5 bn bs : Nat) (m1 : Int) (s : Sp) (w : World) : Prop := w.cell? ⟨p, 0, none⟩ = some (.map (some bn)) ∧ w.cell? ⟨p, 1, none⟩ = some (.map (some bs)) ∧ w.cell? ⟨b5, 0, none⟩ = some (.int .i64 m1) ∧ Blk w b3 62 (aSp s)
set_option maxHeartbeats 8000000 in
theorem put_any (h : Tr w c p nd nm m) (hm : m ≤ 3000) (s : Sp) (hs : SpOK s) (par q : Nat) (hpar : s.p = par) (hq : s.q = q) (hpm : par ≤ m) (hqm : q ≤ m) (hl : ∀ j x, nd j = some x → x.kids.length ≤ 4000 ∧ x.outer.length ≤ 4000) :
    Calls Tryz.prog 16 #[.pointer (some ⟨p, 0, none⟩), .agg (aSp s)] w fun e w' => e = .returned (.int .i64 ((m + 1 : Nat) : Int)) ∧ ∃ c', TG w w' c p (addO (addK (setF nd (m + 1) (some ⟨s, [], [], 0, 0⟩)) par (m + 1)) q (m + 1)) (setF nm s (some (m + 1))) (m + 1) c' := by
  obtain ⟨bn, bs, nv, h⟩ := h
  have hp := h.blk.lt
  have kA : Kept Nil w (w.alloc (.cells (aSp s) 62)) := (Kept.refl _ _).alloc _
  have hA := h.kept kA (fun _ e => e.elim)
  have hb3 : Blk (w.alloc (.cells (aSp s) 62)) w.heap.size 62 (aSp s) := Blk.new _ _ _
  have hz0 : (w.alloc (.cells (aSp s) 62)).heap.size = w.heap.size + 1 := by simp
  have HKA := Lib.hid kA
  have hnil := fun W : World => run_eql_map_nil (P := Tryz.prog) W _ _ _ (some bn) Tryz.underlying51
  have hc3 : Hid (c w.heap.size = 0 ∧ c (w.heap.size + 1) = 0) := Lib.hid ⟨by
    by_cases e : c w.heap.size = 0
    · exact e
    · have := h.low _ e; omega, by
    by_cases e : c (w.heap.size + 1) = 0
    · exact e
    · have := h.low _ e; omega⟩
  have hp3 : p ≠ w.heap.size := by omega
  have HLOW := Lib.hid h.low
  clear kA h
  go_enter Tryz.func16, Tryz.ntmps16
  go_upto_region 1 with fail
  generalize w.alloc (.cells (aSp s) 62) = W0 at *
  generalize hq3 : w.heap.size = b3 at *
  have HQ3 := Lib.hid hq3
  have c0 := hA.blk.cell 0
  have c2 := hA.blk.cell 2
  have f2 := hA.blk.frozen 2
  have hp0 := hA.blk.lt
  simp at c0 c2
  have k1 : Kept Nil (W0.setCell ⟨p, 2, none⟩ (.int .i64 ((m : Int) + 1))) ((W0.setCell ⟨p, 2, none⟩ (.int .i64 ((m : Int) + 1))).alloc (.cells #[.int .i64 ((m : Int) + 1)] 3)) := (Kept.refl _ _).alloc _
  obtain ⟨W2, r2, k2, W3, r3, k3, tg⟩ := hA.enter hm s hs (n1 := (m : Int) + 1) (by omega) k1
  clear hq3
  go_wp2_with fail
  have hzs : (W0.setCell ⟨p, 2, none⟩ (.int .i64 ((m : Int) + 1))).heap.size = b3 + 1 := by simp [World.setCell, hz0]
  have hb5 : Blk ((W0.setCell ⟨p, 2, none⟩ (.int .i64 ((m : Int) + 1))).alloc (.cells #[.int .i64 ((m : Int) + 1)] 3)) (b3 + 1) 3 #[.int .i64 ((m : Int) + 1)] := by rw [← hzs]; exact Blk.new _ _ _
  have kS : Kept (fun b => b = p) W0 ((W0.setCell ⟨p, 2, none⟩ (.int .i64 ((m : Int) + 1))).alloc (.cells #[.int .i64 ((m : Int) + 1)] 3)) := (Kept.setCell (F := fun b => b = p) (Kept.refl _ _) _ (.inl rfl) _).alloc _
  have hb31 := hb3.kept kS (fun e => hp3 e.symm)
  have hblk1 := ((hA.blk.set_ 2 (.int .i64 ((m : Int) + 1))).alloc (.cells #[.int .i64 ((m : Int) + 1)] 3))
  generalize ((W0.setCell ⟨p, 2, none⟩ (.int .i64 ((m : Int) + 1))).alloc (.cells #[.int .i64 ((m : Int) + 1)] 3)) = W1 at *
  generalize hb5e : b3 + 1 = b5 at *
  have hpbn : p ≠ bn := fun e => by have := hA.cp; rw [e, hA.cn] at this; cases this
  have hpbs : p ≠ bs := fun e => by have := hA.cp; rw [e, hA.cs] at this; cases this
  have h3n : b3 ≠ bn := fun e => by have := hc3.out.1; rw [e, hA.cn] at this; cases this
  have h3s : b3 ≠ bs := fun e => by have := hc3.out.1; rw [e, hA.cs] at this; cases this
  have h5n : b5 ≠ bn := fun e => by have := hc3.out.2; rw [e, hA.cn] at this; cases this
  have h5s : b5 ≠ bs := fun e => by have := hc3.out.2; rw [e, hA.cs] at this; cases this
  have S1 : Hid (SPutN p b3 b5 bn bs ((m : Int) + 1) s W1.drew) := Lib.hid ⟨by have := hblk1.drew.cell 0; simpa using this, by have := hblk1.drew.cell 1; simpa using this, by have := hb5.drew.cell 0; simpa using this, hb31.drew⟩
  have kp2 := hblk1.kept k2 hpbn
  have S2 : Hid (SPutN p b3 b5 bn bs ((m : Int) + 1) s W2.drew) := Lib.hid ⟨by have := kp2.drew.cell 0; simpa using this, by have := kp2.drew.cell 1; simpa using this, by have := (hb5.kept k2 h5n).drew.cell 0; simpa using this, (hb31.kept k2 h3n).drew⟩
  have B3 := Lib.hid (hb31.kept k3 (fun e => e.elim h3n h3s))
  have B5 := Lib.hid (hb5.kept k3 (fun e => e.elim h5n h5s))
  have HTG := Lib.hid tg
  clear k2 k3 tg hb5 hb31 hblk1 kp2 kS hzs hb3 hpbn hpbs h3n h3s h5n h5s c0 c2 f2 k1 hA hz0 hp0
  refine wp_region_lastL (SPutN p b3 b5 bn bs ((m : Int) + 1) s) (by simp) (by kernel_rfl) (by kernel_rfl) ?_
  simp only [List.dropLast, List.getLast]
  refine takeH (i := 0) (some 30) (.pointer (some ⟨p, 0, none⟩)) rfl rfl (by kernel_rfl) (by kernel_rfl) (by kernel_rfl) (fun _ _ _ h => h) (by rfl) S1.out ?_ ?_
  · intro w hSw
    go_simp
  simp only [Act.put, List.setIfInBounds_toArray, List.set_cons_succ, List.set_cons_zero]
  refine takeH (i := 1) (some 31) (.pointer (some ⟨p, 0, none⟩)) rfl rfl (by kernel_rfl) (by kernel_rfl) (by kernel_rfl) (fun _ _ _ h => h) (by rfl) S1.out ?_ ?_
  · intro w hSw
    go_simp
  simp only [Act.put, List.setIfInBounds_toArray, List.set_cons_succ, List.set_cons_zero]
  refine takeH (i := 2) (some 32) (.pointer (some ⟨p, 0, none⟩)) rfl rfl (by kernel_rfl) (by kernel_rfl) (by kernel_rfl) (fun _ _ _ h => h) (by rfl) S1.out ?_ ?_
  · intro w hSw
    go_simp
  simp only [Act.put, List.setIfInBounds_toArray, List.set_cons_succ, List.set_cons_zero]
  refine takeH (i := 3) (some 33) (.map (some bn)) rfl rfl (by kernel_rfl) (by kernel_rfl) (by kernel_rfl) (fun _ _ _ h => h) (by rfl) S1.out ?_ ?_
  · intro w hSw
    have h1 := hSw.1; go_simp
  simp only [Act.put, List.setIfInBounds_toArray, List.set_cons_succ, List.set_cons_zero]
  refine takeH (i := 4) (some 34) (.int .i64 ((m : Int) + 1)) rfl rfl (by kernel_rfl) (by kernel_rfl) (by kernel_rfl) (fun _ _ _ h => h) (by rfl) S1.out ?_ ?_
  · intro w hSw
    have h1 := hSw.2.2.1; go_simp
  simp only [Act.put, List.setIfInBounds_toArray, List.set_cons_succ, List.set_cons_zero]
  refine takeH (i := 5) (some 35) (.agg (aSp s)) rfl rfl (by kernel_rfl) (by kernel_rfl) (by kernel_rfl) (fun _ _ _ h => h) (by rfl) S1.out ?_ ?_
  · intro w hSw
    exact exec_load rfl rfl (loadSp hSw.2.2.2)
  simp only [Act.put, List.setIfInBounds_toArray, List.set_cons_succ, List.set_cons_zero]
  refine takeH (i := 6) (some 36) (.agg (aN ⟨s, none, 0, 0, none, 0, 0, 0, 0⟩)) rfl rfl (by kernel_rfl) (by kernel_rfl) (by kernel_rfl) (fun _ _ _ h => h) (by rfl) S1.out ?_ ?_
  · intro w hSw
    obtain ⟨sp, sk, sa, sb, sc, x0, x1, x2, x3, x4, x5, x6, x7, x8, sn, sq⟩ := s; unfold aSp; go_simp; rfl
  simp only [Act.put, List.setIfInBounds_toArray, List.set_cons_succ, List.set_cons_zero]
  refine wpAnyH_done (by kernel_rfl) ?_ _
  refine store_wp rfl rfl ?_
  refine upd_wp _ _ _ _ rfl rfl rfl rfl r2 ?_
  go_wp2_with fail
  refine wp_region_lastL (SPutN p b3 b5 bn bs ((m : Int) + 1) s) (by simp) (by kernel_rfl) (by kernel_rfl) ?_
  simp only [List.dropLast, List.getLast]
  refine takeH (i := 0) (some 37) (.pointer (some ⟨p, 0, none⟩)) rfl rfl (by kernel_rfl) (by kernel_rfl) (by kernel_rfl) (fun _ _ _ h => h) (by rfl) S2.out ?_ ?_
  · intro w hSw
    go_simp
  simp only [Act.put, List.setIfInBounds_toArray, List.set_cons_succ, List.set_cons_zero]
  refine takeH (i := 1) (some 38) (.pointer (some ⟨p, 0, none⟩)) rfl rfl (by kernel_rfl) (by kernel_rfl) (by kernel_rfl) (fun _ _ _ h => h) (by rfl) S2.out ?_ ?_
  · intro w hSw
    go_simp
  simp only [Act.put, List.setIfInBounds_toArray, List.set_cons_succ, List.set_cons_zero]
  refine takeH (i := 2) (some 39) (.pointer (some ⟨p, 1, none⟩)) rfl rfl (by kernel_rfl) (by kernel_rfl) (by kernel_rfl) (fun _ _ _ h => h) (by rfl) S2.out ?_ ?_
  · intro w hSw
    go_simp
  simp only [Act.put, List.setIfInBounds_toArray, List.set_cons_succ, List.set_cons_zero]
  refine takeH (i := 3) (some 40) (.map (some bs)) rfl rfl (by kernel_rfl) (by kernel_rfl) (by kernel_rfl) (fun _ _ _ h => h) (by rfl) S2.out ?_ ?_
  · intro w hSw
    have h1 := hSw.2.1; go_simp
  simp only [Act.put, List.setIfInBounds_toArray, List.set_cons_succ, List.set_cons_zero]
  refine takeH (i := 4) (some 41) (.agg (aSp s)) rfl rfl (by kernel_rfl) (by kernel_rfl) (by kernel_rfl) (fun _ _ _ h => h) (by rfl) S2.out ?_ ?_
  · intro w hSw
    exact exec_load rfl rfl (loadSp hSw.2.2.2)
  simp only [Act.put, List.setIfInBounds_toArray, List.set_cons_succ, List.set_cons_zero]
  refine takeH (i := 5) (some 42) (.int .i64 ((m : Int) + 1)) rfl rfl (by kernel_rfl) (by kernel_rfl) (by kernel_rfl) (fun _ _ _ h => h) (by rfl) S2.out ?_ ?_
  · intro w hSw
    have h1 := hSw.2.2.1; go_simp
  simp only [Act.put, List.setIfInBounds_toArray, List.set_cons_succ, List.set_cons_zero]
  refine wpAnyH_done (by kernel_rfl) ?_ _
  refine store_wp rfl rfl ?_
  refine upd_wp _ _ _ _ rfl rfl rfl rfl r3 ?_
  have d0 : W3.cell? ⟨b3, 0, none⟩ = some (.int .i64 (par : Int)) := by rw [B3.out.cell]; simp [aSp, hpar]
  have hC1 := Lib.hid (ch_addK HTG.out.tr (by omega) par (by omega) (bq := b5) (id := m + 1) (by have := B5.out; simpa using this) hc3.out.2 (fun x hx => by
    unfold setF at hx
    split at hx
    · cases hx; simp
    · have := (hl par x hx).1; omega))
  clear r2 r3 S1 S2
  go_wp2_with fail
  refine hC1.out.mono ?_
  rintro e W4 ⟨rfl, c4, tg4⟩
  have hc4 : c4 b5 = 0 ∧ c4 b3 = 0 := by
    constructor
    · by_cases e : c4 b5 = 0
      · exact e
      · rcases tg4.sub b5 e with e | e
        · exact absurd hc3.out.2 e
        · have := B5.out.lt; omega
    · by_cases e : c4 b3 = 0
      · exact e
      · rcases tg4.sub b3 e with e | e
        · exact absurd hc3.out.1 e
        · have := B3.out.lt; omega
  have B34 := Lib.hid (B3.out.kept tg4.kept (fun e => e.1 hc3.out.1))
  have B54 := Lib.hid (B5.out.kept tg4.kept (fun e => e.1 hc3.out.2))
  have d1 : W4.cell? ⟨b3, 15, none⟩ = some (.int .i64 (q : Int)) := by rw [B34.out.cell]; simp [aSp, hq]
  have hC2 := Lib.hid (ch_addO tg4.tr (by omega) q (by omega) (bq := b5) (id := m + 1) (by have := B54.out; simpa using this) hc4.1 (fun x hx => by
    unfold addK setF at hx
    split at hx
    · split at hx
      · cases hx; simp
      · obtain ⟨y, hy, rfl⟩ := Option.map_eq_some_iff.1 hx
        have := (hl _ y hy).2; simp only; omega
    · split at hx
      · cases hx; simp
      · have := (hl q x hx).2; omega))
  have HTG2 := Lib.hid (HTG.out.trans tg4)
  clear tg4 d0 hC1
  go_wp2_with fail
  refine hC2.out.mono ?_
  rintro e W5 ⟨rfl, c5, tg5⟩
  have B55 := Lib.hid (B54.out.kept tg5.kept (fun e => e.1 hc4.1))
  have d2 : W5.cell? ⟨b5, 0, none⟩ = some (.int .i64 ((m : Int) + 1)) := by rw [B55.out.cell]; rfl
  have HTG3 := Lib.hid (TG.afterN HKA.out (by rw [HQ3.out]; exact HLOW.out) (HTG2.out.trans tg5))
  clear tg5 d1 hC2
  go_wp2_with fail
  go_ret
  exact ⟨rfl, c5, HTG3.out⟩
end
end
section
open Go.RowKit Go.Maps Go.WideMaps
set_option maxRecDepth 100000

/-- A delete, by an equation on its run. -/
theorem del_wp {P : Program} {o : Oper} (d : Option Tmp) (hd : o.dst = d) {a : Act} {w : World} {K : Act → World → Prop} {Q : Exit → Act → World → Prop} (s x : Operand) (t t2 ty : TypeId) (hty : o.type = ty)
    (ho : o.op = .call { callee := .builtin .delete, args := #[s, x], argTypes := #[t, t2] }) (v y : Value) (hs : a.eval s = v) (hx : a.eval x = y) {v' : Value} {w' : World}
    (hr : (Builtin.delete_ #[t, t2] ty #[v, y]).run P w = .ok v' w') (h : K (a.put d v') w') : o.wp P a w K Q := by
  subst hd hty
  unfold Oper.wp execOp
  simp only [ho, resolve, invoke, builtin, Sem.run_bind, Sem.run_pure, Result.andThen_ok, List.map_toArray, List.map_cons, List.map_nil, hs, hx, hr]
  exact h
theorem store_N_wp {o : Oper} {a : Act} {w : World} {K : Act → World → Prop} {Q : Exit → Act → World → Prop} (x y : Operand) (ho : o.op = .store 89 x y)
    (q : Nat) (v v0 : Nv) (hx : a.eval x = .pointer (some ⟨q, 0, none⟩)) (hy : a.eval y = .agg (aN v)) (hb : Blk w q 89 (aN v0))
    (h : ∀ W, Kept (fun k => k = q) w W → Blk W q 89 (aN v) → K (a.put o.dst undef) W) : o.wp Tryz.prog a w K Q :=
  wp_store_row _ x y ho q _ hx hy _ _ hb (infoN20 v) rfl (aN_one v) (h _ (Kept.setRow (F := fun k => k = q) (Kept.refl _ w) q (Or.inl rfl) _) (hb.row _))
theorem alloc_N_wp {o : Oper} {a : Act} {w : World} {K : Act → World → Prop} {Q : Exit → Act → World → Prop} (d : Option Tmp) (hd : o.dst = d) (ho : o.op = .alloc 89) (q : Nat) (hq : w.heap.size = q)
    (h : K (a.put d (.pointer (some ⟨q, 0, none⟩))) (w.alloc (.cells (aN zNv) 89))) : o.wp Tryz.prog a w K Q := by
  subst hd hq
  have hz := infoNz
  obtain ⟨i, hi, hzi⟩ : ∃ i, Tryz.prog.info? 89 = some i ∧ i.zero = some (.agg (aN zNv)) := by
    cases hq : Tryz.prog.info? 89 with
    | none => rw [hq] at hz; cases hz
    | some i => rw [hq] at hz; simp at hz; exact ⟨i, rfl, hz⟩
  unfold Oper.wp execOp
  simp [ho, Instr.alloc, zeroValue, typeInfo, hi, hzi, newVar, newRow]
  exact h
theorem loadSpN {W : World} {q : Nat} {v : Nv} (hb : Blk W q 89 (aN v)) : (Instr.loadAt 62 (.pointer (some ⟨q, 0, none⟩))).run Tryz.prog W = .ok (.agg (aSp v.sp)) W := by
  have := run_loadAt_mid (P := Tryz.prog) W q 0 62 (aSp v.sp).toList _ (fun j x hj => by
    rw [Nat.zero_add, hb.cell]
    have hl : j < 16 := by have := (List.getElem?_eq_some_iff.1 hj).1; simpa [aSp] using this
    rw [← hj]
    rcases (by omega : j = 0 ∨ j = 1 ∨ j = 2 ∨ j = 3 ∨ j = 4 ∨ j = 5 ∨ j = 6 ∨ j = 7 ∨ j = 8 ∨ j = 9 ∨ j = 10 ∨ j = 11 ∨ j = 12 ∨ j = 13 ∨ j = 14 ∨ j = 15) with rfl | rfl | rfl | rfl | rfl | rfl | rfl | rfl | rfl | rfl | rfl | rfl | rfl | rfl | rfl | rfl <;> rfl) Tryz.underlying62 rfl (infoSp16 v.sp)
  simpa using this
section
variable {w : World} {c : Nat → Nat} {p m : Nat} {nd : Nat → Option Nd} {nm : Sp → Option Nat} {bn bs : Nat} {nv : Nat → Option Nv}
/-- A node is out. -/
theorem Trx.leave (h : Trx w c p nd nm m bn bs nv) (n : Nat) (hn : n ≤ 4611686018427387904) (s : Sp) (hs : SpOK s) {W1 : World} (k1 : Kept Nil w W1) :
    ∃ W2, (Builtin.delete_ #[51, 3] 0 #[.map (some bn), .int .i64 n]).run Tryz.prog W1.drew = .ok (.tuple #[]) W2 ∧ Kept (fun b => b = bn) W1 W2 ∧
      ∃ W3, (Builtin.delete_ #[52, 62] 0 #[.map (some bs), .agg (aSp s)]).run Tryz.prog W2.drew = .ok (.tuple #[]) W3 ∧ Kept (fun b => b = bn ∨ b = bs) W1 W3 ∧ TG w W3 c p (setF nd n none) (setF nm s none) m c := by
  have hp := h.blk.lt
  have hpn : p ≠ bn := fun e => by have := h.cp; rw [e, h.cn] at this; cases this
  have hps : p ≠ bs := fun e => by have := h.cp; rw [e, h.cs] at this; cases this
  have hns : bn ≠ bs := fun e => by have := h.cn; rw [e, h.cs] at this; cases this
  have h1 := h.kept k1 (fun _ e => e.elim)
  obtain ⟨W2, r2, mn2, k2⟩ := (h1.mn.kept ((Kept.refl Nil W1).drew) (fun e => e)).del uNodes (k := n) (show n ≤ 4611686018427387904 from hn)
  have k12 : Kept (fun b => b = bn) W1 W2 := (((Kept.refl Nil W1).drew).mono (fun _ _ e => e.elim)).trans k2 (fun _ _ e => e)
  obtain ⟨W3, r3, ms3, k3⟩ := ((h1.ms.kept k12 (fun e => hns e.symm)).kept ((Kept.refl Nil W2).drew) (fun e => e)).del uNums (k := s) hs
  have k23 : Kept (fun b => b = bs) W2 W3 := (((Kept.refl Nil W2).drew).mono (fun _ _ e => e.elim)).trans k3 (fun _ _ e => e)
  have k13 : Kept (fun b => b = bn ∨ b = bs) W1 W3 := (k12.mono (fun _ _ e => .inl e)).trans k23 (fun _ _ e => .inr e)
  have k03 : Kept (fun b => b = bn ∨ b = bs) w W3 := (k1.mono (fun _ _ e => e.elim)).trans k13 (fun _ _ e => e)
  refine ⟨W2, r2, k12, W3, r3, k13, ⟨bn, bs, _, ⟨fun b e => Nat.lt_of_lt_of_le (h.low b e) k03.size, h.cp, h.cn, h.cs, h.blk.kept k03 (fun e => e.elim hpn hps), mn2.kept k23 hns, ms3, fun j => ?_, fun j hj => ?_⟩⟩, k03.mono (fun b _ e => ?_), fun _ _ => rfl, fun b e => .inl (by
    by_cases g : c b = 0
    · exact g
    · have := h.low b g; omega)⟩
  · by_cases e : j = n
    · subst e
      exact .inl ⟨setF_same _ _ _, setF_same _ _ _⟩
    · rw [setF_other _ _ e, setF_other _ _ e]
      rcases h.rows j with e1 | ⟨d1, v1, e1, e2, e3⟩
      · exact .inl e1
      · refine .inr ⟨d1, v1, e1, e2, e3.kept k03 (fun b f => ?_) (fun b f => rfl)⟩
        rcases f with rfl | rfl
        · rw [h.cn]; omega
        · rw [h.cs]; omega
  · by_cases e : j = n
    · rw [e, setF_same] at hj; exact absurd rfl hj
    · rw [setF_other _ _ e] at hj; exact h.le j hj
  · rcases e with rfl | rfl
    · exact ⟨by rw [h.cn]; decide, .inl (by rw [h.cn]; decide)⟩
    · exact ⟨by rw [h.cs]; decide, .inl (by rw [h.cs]; decide)⟩
/-- What take reads in its regions: ahead of the node's copy, behind it. -/
def STk0 (p b3 bn n : Nat) (vv : Value) (w : World) : Prop := w.cell? ⟨p, 0, none⟩ = some (.map (some bn)) ∧ w.cell? ⟨b3, 0, none⟩ = some (.int .i64 n) ∧ (Instr.lookup 51 (.map (some bn)) (.int .i64 n) false).run Tryz.prog w = .ok vv w
def STk (p b3 b4 bn bs n : Nat) (v : Nv) (w : World) : Prop := w.cell? ⟨p, 0, none⟩ = some (.map (some bn)) ∧ w.cell? ⟨p, 1, none⟩ = some (.map (some bs)) ∧ w.cell? ⟨b3, 0, none⟩ = some (.int .i64 n) ∧ Blk w b4 89 (aN v)
set_option maxHeartbeats 8000000 in
theorem take_any (h : Tr w c p nd nm m) (hm : m ≤ 3000) (n : Nat) (d : Nd) (hn : nd n = some d) (hs : SpOK d.sp) (par q : Nat) (hpar : d.sp.p = par) (hq : d.sp.q = q) (hpm : par < n) (hqm : q < n) (hl : ∀ j x, nd j = some x → x.kids.length ≤ 4000 ∧ x.outer.length ≤ 4000)
    (hK : ∀ x, nd par = some x → x.kids.Pairwise (· < ·) ∧ n ∈ x.kids) (hO : ∀ x, nd q = some x → x.outer.Pairwise (· < ·) ∧ n ∈ x.outer) :
    Calls Tryz.prog 33 #[.pointer (some ⟨p, 0, none⟩), .int .i64 n] w fun e w' => e = .returned (.tuple #[]) ∧ ∃ c', TG w w' c p (lessO (lessK (setF nd n none) par n) q n) (setF nm d.sp none) m c' := by
  obtain ⟨bn, bs, nv, h⟩ := h
  have hp := h.blk.lt
  have hnm := h.le n (by rw [hn]; simp)
  obtain ⟨v, hv, hr⟩ : ∃ v, nv n = some v ∧ NodeR w c n d v := by
    rcases h.rows n with e | ⟨d1, v, e1, e2, e3⟩
    · rw [hn] at e; cases e.1
    · rw [hn] at e1; cases e1; exact ⟨v, e2, e3⟩
  obtain ⟨b3, hb3e⟩ : ∃ b3, w.heap.size = b3 := ⟨_, rfl⟩
  have kA : Kept Nil w (w.alloc (.cells #[.int .i64 n] 3)) := (Kept.refl _ _).alloc _
  have hb3 : Blk (w.alloc (.cells #[.int .i64 n] 3)) b3 3 #[.int .i64 n] := by rw [← hb3e]; exact Blk.new _ _ _
  have kD := kA.drew
  have hz0 : (w.alloc (.cells #[.int .i64 n] 3)).drew.heap.size = b3 + 1 := by simp [hb3e]
  have hpn : p ≠ bn := fun e => by have := h.cp; rw [e, h.cn] at this; cases this
  have hps : p ≠ bs := fun e => by have := h.cp; rw [e, h.cs] at this; cases this
  have hcz : ∀ b, b3 ≤ b → c b = 0 := fun b hb => by
    by_cases e : c b = 0
    · exact e
    · have := h.low _ e; omega
  have hbn3 : bn < b3 := by rw [← hb3e]; exact h.mn.lt
  have hbs3 : bs < b3 := by rw [← hb3e]; exact h.ms.lt
  have hp3 : p < b3 := by omega
  have hlk : (Instr.lookup 51 (.map (some bn)) (.int .i64 n) false).run Tryz.prog (w.alloc (.cells #[.int .i64 n] 3)).drew = .ok (.agg (aN v)) (w.alloc (.cells #[.int .i64 n] 3)).drew := by
    have := (h.kept kD (fun _ e => e.elim)).mn.look uNodes (zeroNv _) (k := n) (show n ≤ 4611686018427387904 by omega)
    rw [hv] at this
    exact this
  have hbl := (h.kept kD (fun _ e => e.elim)).blk
  have S0 : Hid (STk0 p b3 bn n (.agg (aN v)) (w.alloc (.cells #[.int .i64 n] 3)).drew) := Lib.hid ⟨by have := hbl.cell 0; simpa using this, by have := hb3.drew.cell 0; simpa using this, hlk⟩
  have kZ : Kept Nil (w.alloc (.cells #[.int .i64 n] 3)).drew ((w.alloc (.cells #[.int .i64 n] 3)).drew.alloc (.cells (aN zNv) 89)) := (Kept.refl _ _).alloc _
  have hlk1 : (Instr.lookup 51 (.map (some bn)) (.int .i64 n) false).run Tryz.prog ((w.alloc (.cells #[.int .i64 n] 3)).drew.alloc (.cells (aN zNv) 89)) = .ok (.agg (aN v)) ((w.alloc (.cells #[.int .i64 n] 3)).drew.alloc (.cells (aN zNv) 89)) := by
    have := (h.kept (kD.trans kZ (fun _ _ e => e)) (fun _ e => e.elim)).mn.look uNodes (zeroNv _) (k := n) (show n ≤ 4611686018427387904 by omega)
    rw [hv] at this
    exact this
  have hbl1 := (h.kept (kD.trans kZ (fun _ _ e => e)) (fun _ e => e.elim)).blk
  have S1 : Hid (STk0 p b3 bn n (.agg (aN v)) ((w.alloc (.cells #[.int .i64 n] 3)).drew.alloc (.cells (aN zNv) 89))) := Lib.hid ⟨by have := hbl1.cell 0; simpa using this, by have := (hb3.drew.kept kZ (fun e => e)).cell 0; simpa using this, hlk1⟩
  have hb4 : Blk ((w.alloc (.cells #[.int .i64 n] 3)).drew.alloc (.cells (aN zNv) 89)) (b3 + 1) 89 (aN zNv) := by rw [← hz0]; exact Blk.new _ _ _
  have HB4 := Lib.hid hb4
  have HL : Hid (∀ W1, Kept (fun b => b = b3 + 1) ((w.alloc (.cells #[.int .i64 n] 3)).drew.alloc (.cells (aN zNv) 89)) W1 → Blk W1 (b3 + 1) 89 (aN v) →
      STk p b3 (b3 + 1) bn bs n v W1.drew ∧ ∃ W2, (Builtin.delete_ #[51, 3] 0 #[.map (some bn), .int .i64 n]).run Tryz.prog W1.drew = .ok (.tuple #[]) W2 ∧ STk p b3 (b3 + 1) bn bs n v W2.drew ∧
      ∃ W3, (Builtin.delete_ #[52, 62] 0 #[.map (some bs), .agg (aSp v.sp)]).run Tryz.prog W2.drew = .ok (.tuple #[]) W3 ∧ STk p b3 (b3 + 1) bn bs n v W3 ∧ Blk W3 b3 3 #[.int .i64 n] ∧ Blk W3 (b3 + 1) 89 (aN v) ∧ TG w W3 c p (setF nd n none) (setF nm d.sp none) m c) := Lib.hid fun W1 k1 b1 => by
    have kw1 : Kept Nil w W1 := (kD.trans kZ (fun _ _ e => e)).trans k1 (fun i hi e => by omega)
    have hB3 := (hb3.drew.kept kZ (fun e => e)).kept k1 (fun e => by omega)
    obtain ⟨W2, r2, k2, W3, r3, k3, tg⟩ := h.leave n (by omega) v.sp (by rw [hr.sp]; exact hs) kw1
    have hbw := (h.kept kw1 (fun _ e => e.elim)).blk
    have hb2 := hbw.kept k2 hpn
    rw [hr.sp] at tg
    exact ⟨⟨by have := hbw.drew.cell 0; simpa using this, by have := hbw.drew.cell 1; simpa using this, by have := hB3.drew.cell 0; simpa using this, b1.drew⟩, W2, r2, ⟨by have := hb2.drew.cell 0; simpa using this, by have := hb2.drew.cell 1; simpa using this, by have := (hB3.kept k2 (by omega)).drew.cell 0; simpa using this, (b1.kept k2 (by omega)).drew⟩, W3, r3, ⟨by have := (hbw.kept k3 (fun e => e.elim hpn hps)).cell 0; simpa using this, by have := (hbw.kept k3 (fun e => e.elim hpn hps)).cell 1; simpa using this, by have := (hB3.kept k3 (by omega)).cell 0; simpa using this, b1.kept k3 (by omega)⟩, hB3.kept k3 (by omega), b1.kept k3 (by omega), tg⟩
  have hvp : v.sp.p = par := by rw [hr.sp]; exact hpar
  have hvq : v.sp.q = q := by rw [hr.sp]; exact hq
  clear h hr hv hb4 hbl hbl1 hlk hlk1 kZ kD kA hb3 hpn hps
  go_enter Tryz.func33, Tryz.ntmps33
  go_wp2_with fail
  refine wp_region_lastL (STk0 p b3 bn n (.agg (aN v))) (by simp) (by kernel_rfl) (by kernel_rfl) ?_
  simp only [List.dropLast, List.getLast]
  refine takeH (i := 0) (some 5) (.pointer (some ⟨p, 0, none⟩)) rfl rfl (by kernel_rfl) (by kernel_rfl) (by kernel_rfl) (fun _ _ _ h => h) (by rfl) S0.out ?_ ?_
  · intro w hSw
    go_simp
  simp only [Act.put, List.setIfInBounds_toArray, List.set_cons_succ, List.set_cons_zero]
  refine takeH (i := 1) (some 6) (.pointer (some ⟨p, 0, none⟩)) rfl rfl (by kernel_rfl) (by kernel_rfl) (by kernel_rfl) (fun _ _ _ h => h) (by rfl) S0.out ?_ ?_
  · intro w hSw
    go_simp
  simp only [Act.put, List.setIfInBounds_toArray, List.set_cons_succ, List.set_cons_zero]
  refine takeH (i := 2) (some 7) (.pointer (some ⟨p, 0, none⟩)) rfl rfl (by kernel_rfl) (by kernel_rfl) (by kernel_rfl) (fun _ _ _ h => h) (by rfl) S0.out ?_ ?_
  · intro w hSw
    go_simp
  simp only [Act.put, List.setIfInBounds_toArray, List.set_cons_succ, List.set_cons_zero]
  refine takeH (i := 3) (some 8) (.map (some bn)) rfl rfl (by kernel_rfl) (by kernel_rfl) (by kernel_rfl) (fun _ _ _ h => h) (by rfl) S0.out ?_ ?_
  · intro w hSw
    have h1 := hSw.1; go_simp
  simp only [Act.put, List.setIfInBounds_toArray, List.set_cons_succ, List.set_cons_zero]
  refine takeH (i := 4) (some 9) (.int .i64 n) rfl rfl (by kernel_rfl) (by kernel_rfl) (by kernel_rfl) (fun _ _ _ h => h) (by rfl) S0.out ?_ ?_
  · intro w hSw
    have h1 := hSw.2.1; go_simp
  simp only [Act.put, List.setIfInBounds_toArray, List.set_cons_succ, List.set_cons_zero]
  refine takeH (i := 5) (some 10) (.agg (aN v)) rfl rfl (by kernel_rfl) (by kernel_rfl) (by kernel_rfl) (fun _ _ _ h => h) (by rfl) S0.out ?_ ?_
  · intro w hSw
    have h1 := hSw.2.2; generalize aN v = av at *; go_simp
  simp only [Act.put, List.setIfInBounds_toArray, List.set_cons_succ, List.set_cons_zero]
  refine wpAnyH_all (rs := [6]) (by kernel_rfl) (by decide) (forall_one ?_)
  refine wpOp_of rfl rfl (alloc_N_wp (some 4) rfl rfl (b3 + 1) hz0 ⟨S1.out, ?_⟩)
  simp only [Act.put, List.setIfInBounds_toArray, List.set_cons_succ, List.set_cons_zero]
  refine wpAnyH_done (by kernel_rfl) ?_ _
  refine store_wp rfl rfl ?_
  refine store_N_wp (.tmp 4) (.tmp 10) rfl (b3 + 1) v zNv rfl rfl HB4.out ?_
  intro W1 k1 b1
  obtain ⟨s1, W2, r2, s2, W3, r3, s4, B3, B4, tg⟩ := HL.out W1 k1 b1
  have S2 := Lib.hid s1
  have S3 := Lib.hid s2
  have S4w := Lib.hid s4
  have S3w : Hid (STk p b3 (b3 + 1) bn bs n v W2) := Lib.hid s2
  have HB3 := Lib.hid B3
  have HB4' := Lib.hid B4
  have HTG := Lib.hid tg
  clear k1 b1 s1 s2 s4 B3 B4 tg HL HB4 S0 S1
  generalize hb4e : b3 + 1 = b4 at *
  go_wp2_with fail
  refine wp_region_held (STk p b3 b4 bn bs n v) (by kernel_rfl) ?_
  refine takeH (i := 0) (some 11) (.pointer (some ⟨p, 0, none⟩)) rfl rfl (by kernel_rfl) (by kernel_rfl) (by kernel_rfl) (fun _ _ _ h => h) (by rfl) S2.out ?_ ?_
  · intro w hSw
    go_simp
  simp only [Act.put, List.setIfInBounds_toArray, List.set_cons_succ, List.set_cons_zero]
  refine takeH (i := 1) (some 12) (.pointer (some ⟨p, 0, none⟩)) rfl rfl (by kernel_rfl) (by kernel_rfl) (by kernel_rfl) (fun _ _ _ h => h) (by rfl) S2.out ?_ ?_
  · intro w hSw
    go_simp
  simp only [Act.put, List.setIfInBounds_toArray, List.set_cons_succ, List.set_cons_zero]
  refine takeH (i := 2) (some 13) (.pointer (some ⟨p, 0, none⟩)) rfl rfl (by kernel_rfl) (by kernel_rfl) (by kernel_rfl) (fun _ _ _ h => h) (by rfl) S2.out ?_ ?_
  · intro w hSw
    go_simp
  simp only [Act.put, List.setIfInBounds_toArray, List.set_cons_succ, List.set_cons_zero]
  refine takeH (i := 3) (some 14) (.map (some bn)) rfl rfl (by kernel_rfl) (by kernel_rfl) (by kernel_rfl) (fun _ _ _ h => h) (by rfl) S2.out ?_ ?_
  · intro w hSw
    have h1 := hSw.1; go_simp
  simp only [Act.put, List.setIfInBounds_toArray, List.set_cons_succ, List.set_cons_zero]
  refine takeH (i := 4) (some 15) (.int .i64 n) rfl rfl (by kernel_rfl) (by kernel_rfl) (by kernel_rfl) (fun _ _ _ h => h) (by rfl) S2.out ?_ ?_
  · intro w hSw
    have h1 := hSw.2.2.1; go_simp
  simp only [Act.put, List.setIfInBounds_toArray, List.set_cons_succ, List.set_cons_zero]
  refine wpAnyH_all (rs := [5]) (by kernel_rfl) (by decide) (forall_one ?_)
  refine wpOp_of rfl rfl (del_wp none rfl (.tmp 14) (.tmp 15) 51 3 0 rfl rfl (.map (some bn)) (.int .i64 n) rfl rfl r2 ?_)
  refine ⟨S3w.out, ?_⟩
  refine wpAnyH_done (by kernel_rfl) ?_ _
  go_wp2_with fail
  refine wp_region_held (STk p b3 b4 bn bs n v) (by kernel_rfl) ?_
  refine takeH (i := 0) (some 16) (.pointer (some ⟨p, 0, none⟩)) rfl rfl (by kernel_rfl) (by kernel_rfl) (by kernel_rfl) (fun _ _ _ h => h) (by rfl) S3.out ?_ ?_
  · intro w hSw
    go_simp
  simp only [Act.put, List.setIfInBounds_toArray, List.set_cons_succ, List.set_cons_zero]
  refine takeH (i := 1) (some 17) (.pointer (some ⟨p, 0, none⟩)) rfl rfl (by kernel_rfl) (by kernel_rfl) (by kernel_rfl) (fun _ _ _ h => h) (by rfl) S3.out ?_ ?_
  · intro w hSw
    go_simp
  simp only [Act.put, List.setIfInBounds_toArray, List.set_cons_succ, List.set_cons_zero]
  refine takeH (i := 2) (some 18) (.pointer (some ⟨p, 1, none⟩)) rfl rfl (by kernel_rfl) (by kernel_rfl) (by kernel_rfl) (fun _ _ _ h => h) (by rfl) S3.out ?_ ?_
  · intro w hSw
    go_simp
  simp only [Act.put, List.setIfInBounds_toArray, List.set_cons_succ, List.set_cons_zero]
  refine takeH (i := 3) (some 19) (.map (some bs)) rfl rfl (by kernel_rfl) (by kernel_rfl) (by kernel_rfl) (fun _ _ _ h => h) (by rfl) S3.out ?_ ?_
  · intro w hSw
    have h1 := hSw.2.1; go_simp
  simp only [Act.put, List.setIfInBounds_toArray, List.set_cons_succ, List.set_cons_zero]
  refine takeH (i := 4) (some 20) (.pointer (some ⟨b4, 0, none⟩)) rfl rfl (by kernel_rfl) (by kernel_rfl) (by kernel_rfl) (fun _ _ _ h => h) (by rfl) S3.out ?_ ?_
  · intro w hSw
    go_simp
  simp only [Act.put, List.setIfInBounds_toArray, List.set_cons_succ, List.set_cons_zero]
  refine takeH (i := 5) (some 21) (.agg (aSp v.sp)) rfl rfl (by kernel_rfl) (by kernel_rfl) (by kernel_rfl) (fun _ _ _ h => h) (by rfl) S3.out ?_ ?_
  · intro w hSw
    exact exec_load rfl rfl (loadSpN hSw.2.2.2)
  simp only [Act.put, List.setIfInBounds_toArray, List.set_cons_succ, List.set_cons_zero]
  refine wpAnyH_all (rs := [6]) (by kernel_rfl) (by decide) (forall_one ?_)
  refine wpOp_of rfl rfl (del_wp none rfl (.tmp 19) (.tmp 21) 52 62 0 rfl rfl (.map (some bs)) (.agg (aSp v.sp)) rfl rfl r3 ?_)
  refine ⟨S4w.out, ?_⟩
  refine wpAnyH_done (by kernel_rfl) ?_ _
  have d0 : W3.cell? ⟨b4, 0, none⟩ = some (.int .i64 (par : Int)) := by rw [HB4'.out.cell]; simp [aN, hvp]
  have hc34 : c b3 = 0 ∧ c b4 = 0 := ⟨hcz _ (Nat.le_refl _), hcz _ (by omega)⟩
  have hC1 := Lib.hid (ch_lessK HTG.out.tr (by omega) par (by omega) (bq := b3) (id := n) HB3.out hc34.1 (fun x hx => by
    rw [setF_other _ _ (by omega)] at hx
    have := (hl par x hx).1; omega) (fun x hx => by
    rw [setF_other _ _ (by omega)] at hx
    exact hK x hx))
  clear r2 r3 S2 S3 S3w S4w
  go_wp2_with fail
  refine hC1.out.mono ?_
  rintro e W4 ⟨rfl, c4, tg4⟩
  have hc4 : c4 b3 = 0 := by
    by_cases e : c4 b3 = 0
    · exact e
    · rcases tg4.sub b3 e with e | e
      · exact absurd hc34.1 e
      · have := HB3.out.lt; omega
  have B34 := Lib.hid (HB3.out.kept tg4.kept (fun e => e.1 hc34.1))
  have B44 := Lib.hid (HB4'.out.kept tg4.kept (fun e => e.1 hc34.2))
  have d1 : W4.cell? ⟨b4, 15, none⟩ = some (.int .i64 (q : Int)) := by rw [B44.out.cell]; simp [aN, hvq]
  have hC2 := Lib.hid (ch_lessO tg4.tr (by omega) q (by omega) (bq := b3) (id := n) B34.out hc4 (fun x hx => by
    unfold lessK at hx
    rw [setF_other _ _ (by omega)] at hx
    split at hx
    · obtain ⟨y, hy, rfl⟩ := Option.map_eq_some_iff.1 hx
      have := (hl _ y hy).2; simp only; omega
    · have := (hl q x hx).2; omega) (fun x hx => by
    unfold lessK at hx
    rw [setF_other _ _ (by omega)] at hx
    split at hx
    · obtain ⟨y, hy, rfl⟩ := Option.map_eq_some_iff.1 hx
      exact hO y hy
    · exact hO x hx))
  have HTG2 := Lib.hid (HTG.out.trans tg4)
  clear tg4 d0 hC1
  go_wp2_with fail
  refine hC2.out.mono ?_
  rintro e W5 ⟨rfl, c5, tg5⟩
  have HTG3 := Lib.hid (HTG2.out.trans tg5)
  clear tg5 d1 hC2
  go_wp2_with fail
  go_end0
  exact ⟨rfl, c5, HTG3.out⟩
end
end
end Go.Proofs.YtljefbfjehblpaaGreat
