/- Blocks (block.Blocks[string,int]): By, Owners; a call on any Blocks, whatever it is asked. -/
import Derived.Test.YtodghgeghpbdlaaBpQb
import Derived.Test.YtodghgeghpbdlaaBpQo
namespace Go.Proofs.Ytodghgeghpbdlaa
open Go.RowKit Go.Maps Go.WideMaps
set_option maxRecDepth 100000

section
variable {w : World} {B pb n : Nat} {R : List ByteArray} {Ps : List (ByteArray × Int)} {s : SP}
theorem byF_p (h : BSP w B pb R Ps n s) {k : ByteArray} (hk : k ∈ R) {v : Int} (hv : KI.ok v) {bv : Nat} (hb : Blk w bv 3 #[.int .i64 v]) :
    Calls Try.prog 80 #[.agg #[.string k, .map (some (s.Mb k))], .pointer (some ⟨bv, 0, none⟩)] w fun e w' => e = .returned (.bool (isIn (k, v) Ps)) ∧ Kept Nil w w' := by
  have kA : Kept Nil w (w.alloc (.cells #[.string k, .map (some (s.Mb k))] 136)) := (Kept.refl _ _).alloc _
  have hA := h.keptN kA
  have hbA := (hb.kept kA (fun e => e)).cell 0
  simp only [List.getElem?_toArray, List.getElem?_cons_zero] at hbA
  have KA := Lib.hid kA
  have HA := Lib.hid hA
  have HK := Lib.hid hk
  have HV := Lib.hid hv
  clear h hb kA hA hk hv
  by_cases hm : (k, v) ∈ Ps
  · rw [isIn_t hm]
    have CL := Lib.hid (HA.out.has_in HK.out hm)
    clear hm
    go_enter Try.func80, Try.ntmps80
    go_wp2_with fail
    refine CL.out.mono ?_
    rintro e w1 ⟨rfl, rfl⟩
    go_wp2_with fail
    go_ret
    exact ⟨rfl, KA.out⟩
  · rw [isIn_f hm]
    have CL := Lib.hid (HA.out.has_out HK.out HV.out hm)
    clear hm
    go_enter Try.func80, Try.ntmps80
    go_wp2_with fail
    refine CL.out.mono ?_
    rintro e w1 ⟨rfl, rfl⟩
    go_wp2_with fail
    go_ret
    exact ⟨rfl, KA.out⟩
/-- By. -/
theorem by_p (h : BTP w B pb R Ps n) (hn : n ≤ 5000) {v : Int} (hv : KI.ok v) :
    Calls Try.prog 42 #[.pointer (some ⟨pb, 0, none⟩), .int .i64 v] w fun e w' => ∃ a cap, e = .returned (.slice a (byP R Ps v).length cap) ∧ In cKP 1 w' a (byP R Ps v).length (byP R Ps v) ∧ Kept Nil w w' ∧ (byP R Ps v).length ≤ cap ∧ (∀ b, (Value.slice a (byP R Ps v).length cap).ownBlock = some b → w.heap.size ≤ b) := by
  obtain ⟨s, h⟩ := h
  have kA : Kept Nil w (w.alloc (.cells #[.int .i64 v] 3)) := (Kept.refl _ _).alloc _
  have bA : Blk (w.alloc (.cells #[.int .i64 v] 3)) w.heap.size 3 #[.int .i64 v] := Blk.new _ _ _
  have CT := Lib.hid (those_by_p (f := fun k => isIn (k, v) Ps) (h.keptN kA) hn (bv := w.heap.size) (fun V kV k hk => byF_p ((h.keptN kA).keptN kV) hk hv (bA.kept kV (fun e => e))))
  have KA := Lib.hid kA
  have HZ := Lib.hid (show w.heap.size ≤ (w.alloc (.cells #[.int .i64 v] 3)).heap.size by simp)
  rw [show R.filter (fun k => isIn (k, v) Ps) = byP R Ps v from rfl] at CT
  generalize byP R Ps v = l at *
  generalize hll : l.length = ll at *
  clear h kA bA hv
  go_enter Try.func42, Try.ntmps42
  go_wp2_with fail
  refine CT.out.mono ?_
  rintro e w1 ⟨a, cap, rfl, h1, h2, h3, h4⟩
  have HR := Lib.hid (And.intro h1 (And.intro h2 (And.intro h3 h4)))
  clear h1 h2 h3 h4
  go_wp2_with fail
  go_ret
  exact ⟨a, cap, rfl, HR.out.1, KA.out.trans HR.out.2.1 (fun _ _ e => e), HR.out.2.2.1, fun b e => Nat.le_trans HZ.out (HR.out.2.2.2 b e)⟩
theorem ownersF_p {k : ByteArray} :
    Calls Try.prog 81 #[.agg #[.string k, .map (some (s.Mb k))]] w fun e w' => e = .returned (.bool true) ∧ Kept Nil w w' := by
  have KA := Lib.hid ((Kept.refl Nil w).alloc (.cells #[.string k, .map (some (s.Mb k))] 136))
  go_enter Try.func81, Try.ntmps81
  go_wp2
  go_ret
  exact ⟨rfl, KA.out⟩
theorem owners_p (h : BTP w B pb R Ps n) (hn : n ≤ 5000) :
    Calls Try.prog 44 #[.pointer (some ⟨pb, 0, none⟩)] w fun e w' => ∃ a cap, e = .returned (.slice a R.length cap) ∧ In cKP 1 w' a R.length R ∧ Kept Nil w w' ∧ R.length ≤ cap ∧ (∀ b, (Value.slice a R.length cap).ownBlock = some b → w.heap.size ≤ b) := by
  obtain ⟨s, h⟩ := h
  have CT := Lib.hid (those_ow_p (f := fun _ => true) h hn (fun V _ k _ => ownersF_p (k := k)))
  rw [show R.filter (fun _ => true) = R from List.filter_eq_self.2 (fun _ _ => rfl)] at CT
  generalize hll : R.length = ll at *
  clear h
  go_enter Try.func44, Try.ntmps44
  go_wp2_with fail
  refine CT.out.mono ?_
  rintro e w1 ⟨a, cap, rfl, h1, h2, h3, h4⟩
  have HR := Lib.hid (And.intro h1 (And.intro h2 (And.intro h3 h4)))
  clear h1 h2 h3 h4
  go_wp2_with fail
  go_ret
  exact ⟨a, cap, rfl, HR.out⟩
end
section
variable {w : World} {B pb n : Nat} {R : List ByteArray} {Ps : List (ByteArray × Int)}
/-- What a list of owners is behind Open. -/
def opn (R : List ByteArray) (k : ByteArray) : List ByteArray := if isIn k R then R else R ++ [k]
theorem open_p (h : BTP w B pb R Ps n) (hn : n ≤ 5000) (hB : B ≤ w.heap.size) {k : ByteArray} (hok : KS.ok k) :
    Calls Try.prog 30 #[.pointer (some ⟨pb, 0, none⟩), .string k] w fun e w' => e = .returned (.bool (!isIn k R)) ∧ GBP w w' B pb (opn R k) Ps (n + 1) := by
  obtain ⟨s, h⟩ := h
  unfold opn
  by_cases hk : k ∈ R
  · rw [isIn_t hk]
    refine (open_had_p h hn hk).mono ?_
    rintro e w' ⟨he, k1⟩
    exact ⟨he, GBP.ofN h k1 (Nat.le_succ n)⟩
  · rw [isIn_f hk]
    exact open_new_p h hn hB hok hk
/-- The pairs behind Block. -/
def blkd (R : List ByteArray) (Ps : List (ByteArray × Int)) (k : ByteArray) (v : Int) : List (ByteArray × Int) := if isIn k R && !isIn (k, v) Ps then Ps ++ [(k, v)] else Ps
theorem block_p (h : BTP w B pb R Ps n) (hn : n ≤ 5000) {k : ByteArray} (hok : KS.ok k) {v : Int} (hv : KI.ok v) :
    Calls Try.prog 33 #[.pointer (some ⟨pb, 0, none⟩), .string k, .int .i64 v] w fun e w' => e = .returned (.tuple #[.bool (isIn k R && !isIn (k, v) Ps && decide ((bls Ps k).length = 0)), .bool (isIn k R && !isIn (k, v) Ps)]) ∧ GBP w w' B pb R (blkd R Ps k v) (n + 1) := by
  obtain ⟨s, h⟩ := h
  unfold blkd
  by_cases hk : k ∈ R
  · rw [isIn_t hk]
    by_cases hm : (k, v) ∈ Ps
    · rw [isIn_t hm]
      refine (block_had_p h hn hk hm).mono ?_
      rintro e w' ⟨he, k1⟩
      exact ⟨he, GBP.ofN h k1 (Nat.le_succ n)⟩
    · rw [isIn_f hm]
      refine (block_new_p h hn hk hv hm).mono ?_
      rintro e w' ⟨he, g⟩
      exact ⟨by simpa using he, g⟩
  · rw [isIn_f hk]
    refine (block_gone_p h hok hk hv).mono ?_
    rintro e w' ⟨he, k1⟩
    exact ⟨he, GBP.ofN h k1 (Nat.le_succ n)⟩
theorem close_p (h : BTP w B pb R Ps n) (hn : n ≤ 5000) {k : ByteArray} (hok : KS.ok k) :
    Calls Try.prog 31 #[.pointer (some ⟨pb, 0, none⟩), .string k] w fun e w' => e = .returned (.bool (isIn k R)) ∧ GBP w w' B pb (wo k R) (outP k Ps) n := by
  obtain ⟨s, h⟩ := h
  by_cases hk : k ∈ R
  · rw [isIn_t hk]
    exact close_in_p h hn hk
  · rw [isIn_f hk, wo_out hk]
    refine (close_out_p h hok hk).mono ?_
    rintro e w' ⟨he, k1⟩
    have e2 : outP k Ps = Ps := by
      unfold outP
      rw [List.filter_eq_self]
      exact fun x hx => decide_eq_true (fun e => hk (e ▸ h.sub x hx))
    rw [e2]
    exact ⟨he, GBP.ofN h k1 (Nat.le_refl n)⟩
theorem free_p (h : BTP w B pb R Ps n) (hn : n ≤ 5000) {k : ByteArray} (hok : KS.ok k) {v : Int} (hv : KI.ok v) :
    Calls Try.prog 35 #[.pointer (some ⟨pb, 0, none⟩), .string k, .int .i64 v] w fun e w' => e = .returned (.tuple #[.bool (isIn (k, v) Ps && decide ((bls Ps k).length = 1)), .bool (isIn (k, v) Ps)]) ∧ GBP w w' B pb R (wo (k, v) Ps) n := by
  obtain ⟨s, h⟩ := h
  by_cases hm : (k, v) ∈ Ps
  · rw [isIn_t hm]
    refine (free_had_p h hn hv hm).mono ?_
    rintro e w' ⟨he, g⟩
    exact ⟨by simpa using he, g⟩
  · rw [isIn_f hm, wo_out hm]
    by_cases hk : k ∈ R
    · refine (free_not_p h hn hk hv hm).mono ?_
      rintro e w' ⟨he, k1⟩
      exact ⟨he, GBP.ofN h k1 (Nat.le_refl n)⟩
    · refine (free_gone_p h hok hk hv).mono ?_
      rintro e w' ⟨he, k1⟩
      exact ⟨he, GBP.ofN h k1 (Nat.le_refl n)⟩
end
end Go.Proofs.Ytodghgeghpbdlaa
