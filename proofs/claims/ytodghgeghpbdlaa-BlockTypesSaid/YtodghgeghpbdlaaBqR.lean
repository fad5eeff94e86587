/- Blocks (block.Blocks[retiary/api.Triple,string]): By; a call on any Blocks, whatever it is asked. -/
import Derived.Test.YtodghgeghpbdlaaBqQb
namespace Go.Proofs.Ytodghgeghpbdlaa
open Go.RowKit Go.Maps Go.WideMaps
set_option maxRecDepth 100000

section
variable {w : World} {B pb n : Nat} {R : List (Int × Int × Int)} {Ps : List ((Int × Int × Int) × ByteArray)} {s : SQ}
theorem byF_q (h : BSQ w B pb R Ps n s) {k : (Int × Int × Int)} (hk : k ∈ R) {v : ByteArray} (hv : KS.ok v) {bv : Nat} (hb : Blk w bv 9 #[.string v]) :
    Calls Try.prog 88 #[.agg #[.int .i64 k.1, .int .i64 k.2.1, .int .i64 k.2.2, .map (some (s.Mb k))], .pointer (some ⟨bv, 0, none⟩)] w fun e w' => e = .returned (.bool (isIn (k, v) Ps)) ∧ Kept Nil w w' := by
  have kA : Kept Nil w (w.alloc (.cells #[.int .i64 k.1, .int .i64 k.2.1, .int .i64 k.2.2, .map (some (s.Mb k))] 153)) := (Kept.refl _ _).alloc _
  have hA := h.keptN kA
  have hbA := (hb.kept kA (fun e => e)).cell 0
  simp only [List.getElem?_toArray, List.getElem?_cons_zero] at hbA
  have KA := Lib.hid kA
  have HA := Lib.hid hA
  have HK := Lib.hid hk
  have HV := Lib.hid hv
  clear h hb kA hA hk hv
  by_cases hm : (k, v) ∈ Ps
  · rw [isIn_t hm]
    have CL := Lib.hid (HA.out.has_in HK.out hm)
    clear hm
    go_enter Try.func88, Try.ntmps88
    go_wp2_with fail
    refine CL.out.mono ?_
    rintro e w1 ⟨rfl, rfl⟩
    go_wp2_with fail
    go_ret
    exact ⟨rfl, KA.out⟩
  · rw [isIn_f hm]
    have CL := Lib.hid (HA.out.has_out HK.out HV.out hm)
    clear hm
    go_enter Try.func88, Try.ntmps88
    go_wp2_with fail
    refine CL.out.mono ?_
    rintro e w1 ⟨rfl, rfl⟩
    go_wp2_with fail
    go_ret
    exact ⟨rfl, KA.out⟩
/-- By. -/
theorem by_q (h : BTQ w B pb R Ps n) (hn : n ≤ 5000) {v : ByteArray} (hv : KS.ok v) :
    Calls Try.prog 50 #[.pointer (some ⟨pb, 0, none⟩), .string v] w fun e w' => ∃ a cap, e = .returned (.slice a (byP R Ps v).length cap) ∧ In cKQ 3 w' a (byP R Ps v).length (byP R Ps v) ∧ Kept Nil w w' ∧ (byP R Ps v).length ≤ cap ∧ (∀ b, (Value.slice a (byP R Ps v).length cap).ownBlock = some b → w.heap.size ≤ b) := by
  obtain ⟨s, h⟩ := h
  have kA : Kept Nil w (w.alloc (.cells #[.string v] 9)) := (Kept.refl _ _).alloc _
  have bA : Blk (w.alloc (.cells #[.string v] 9)) w.heap.size 9 #[.string v] := Blk.new _ _ _
  have CT := Lib.hid (those_by_q (f := fun k => isIn (k, v) Ps) (h.keptN kA) hn (bv := w.heap.size) (fun V kV k hk => byF_q ((h.keptN kA).keptN kV) hk hv (bA.kept kV (fun e => e))))
  have KA := Lib.hid kA
  have HZ := Lib.hid (show w.heap.size ≤ (w.alloc (.cells #[.string v] 9)).heap.size by simp)
  rw [show R.filter (fun k => isIn (k, v) Ps) = byP R Ps v from rfl] at CT
  generalize byP R Ps v = l at *
  generalize hll : l.length = ll at *
  clear h kA bA hv
  go_enter Try.func50, Try.ntmps50
  go_wp2_with fail
  refine CT.out.mono ?_
  rintro e w1 ⟨a, cap, rfl, h1, h2, h3, h4⟩
  have HR := Lib.hid (And.intro h1 (And.intro h2 (And.intro h3 h4)))
  clear h1 h2 h3 h4
  go_wp2_with fail
  go_ret
  exact ⟨a, cap, rfl, HR.out.1, KA.out.trans HR.out.2.1 (fun _ _ e => e), HR.out.2.2.1, fun b e => Nat.le_trans HZ.out (HR.out.2.2.2 b e)⟩
end
section
variable {w : World} {B pb n : Nat} {R : List (Int × Int × Int)} {Ps : List ((Int × Int × Int) × ByteArray)}
/-- What a list of owners is behind Open. -/
def opn (R : List (Int × Int × Int)) (k : (Int × Int × Int)) : List (Int × Int × Int) := if isIn k R then R else R ++ [k]
theorem open_q (h : BTQ w B pb R Ps n) (hn : n ≤ 5000) (hB : B ≤ w.heap.size) {k : (Int × Int × Int)} (hok : K3.ok k) :
    Calls Try.prog 46 #[.pointer (some ⟨pb, 0, none⟩), .agg #[.int .i64 k.1, .int .i64 k.2.1, .int .i64 k.2.2]] w fun e w' => e = .returned (.bool (!isIn k R)) ∧ GBQ w w' B pb (opn R k) Ps (n + 1) := by
  obtain ⟨s, h⟩ := h
  unfold opn
  by_cases hk : k ∈ R
  · rw [isIn_t hk]
    refine (open_had_q h hn hk).mono ?_
    rintro e w' ⟨he, k1⟩
    exact ⟨he, GBQ.ofN h k1 (Nat.le_succ n)⟩
  · rw [isIn_f hk]
    exact open_new_q h hn hB hok hk
/-- The pairs behind Block. -/
def blkd (R : List (Int × Int × Int)) (Ps : List ((Int × Int × Int) × ByteArray)) (k : (Int × Int × Int)) (v : ByteArray) : List ((Int × Int × Int) × ByteArray) := if isIn k R && !isIn (k, v) Ps then Ps ++ [(k, v)] else Ps
theorem block_q (h : BTQ w B pb R Ps n) (hn : n ≤ 5000) {k : (Int × Int × Int)} (hok : K3.ok k) {v : ByteArray} (hv : KS.ok v) :
    Calls Try.prog 47 #[.pointer (some ⟨pb, 0, none⟩), .agg #[.int .i64 k.1, .int .i64 k.2.1, .int .i64 k.2.2], .string v] w fun e w' => e = .returned (.tuple #[.bool (isIn k R && !isIn (k, v) Ps && decide ((bls Ps k).length = 0)), .bool (isIn k R && !isIn (k, v) Ps)]) ∧ GBQ w w' B pb R (blkd R Ps k v) (n + 1) := by
  obtain ⟨s, h⟩ := h
  unfold blkd
  by_cases hk : k ∈ R
  · rw [isIn_t hk]
    by_cases hm : (k, v) ∈ Ps
    · rw [isIn_t hm]
      refine (block_had_q h hn hk hm).mono ?_
      rintro e w' ⟨he, k1⟩
      exact ⟨he, GBQ.ofN h k1 (Nat.le_succ n)⟩
    · rw [isIn_f hm]
      refine (block_new_q h hn hk hv hm).mono ?_
      rintro e w' ⟨he, g⟩
      exact ⟨by simpa using he, g⟩
  · rw [isIn_f hk]
    refine (block_gone_q h hok hk hv).mono ?_
    rintro e w' ⟨he, k1⟩
    exact ⟨he, GBQ.ofN h k1 (Nat.le_succ n)⟩
end
end Go.Proofs.Ytodghgeghpbdlaa
