/- Layer cond: the contract of Check, of the program: any tree, any depth. -/
import Derived.Test.YtoceogbanlmnoaaCCheck
namespace Go.Proofs.Ytoceogbanlmnoaa
open Go.RowKit
set_option maxRecDepth 100000

theorem chk_mk (h : Hd) (subs : List Sh) (d : Int) : (Sh.mk h subs).chk d = if 3 < d then 5 else if h.k = 3 then nccT h subs d else if h.k = 1 ∨ h.k = 2 then termsT h subs.length else 3 := by
  simp only [Sh.chk, nccT, termsT]
set_option maxHeartbeats 1000000 in
theorem check_step (k : Int) (x0 x1 x2 : Bool) (n0 n1 n2 : Int) (subs : List Sh) (len : Nat) (HL : Hid (subs.length = len)) (hLen : len ≤ 5000) (IH : Hid (CheckIH subs))
    (ok : Nat → Nat → Prop) (a : Option Addr) (cap : Nat) (w : World) (HH : Hid (Holds cA w ok (.slice a len cap) subs)) (d m : Int) (hm : m = max d 1) :
    Calls Try.prog 64 #[vA ⟨k, x0, x1, x2, n0, n1, n2⟩ (.slice a len cap), .int .i64 d] w fun e w' => e = .returned (.int .i64 ((Sh.mk ⟨k, x0, x1, x2, n0, n1, n2⟩ subs).chk m)) ∧ Kept Nil w w' := by
  have HV : Hid ((Sh.mk ⟨k, x0, x1, x2, n0, n1, n2⟩ subs).chk m = if 3 < m then 5 else if k = 3 then nccT ⟨k, x0, x1, x2, n0, n1, n2⟩ subs m else if k = 1 ∨ k = 2 then termsT ⟨k, x0, x1, x2, n0, n1, n2⟩ len else 3) := Lib.hid (by rw [chk_mk, HL.out])
  generalize (Sh.mk ⟨k, x0, x1, x2, n0, n1, n2⟩ subs).chk m = v at HV
  have K0 := Lib.hid ((Kept.refl Nil w).alloc (.cells #[.int .i64 k, .bool x0, .int .i64 n0, .bool x1, .int .i64 n1, .bool x2, .int .i64 n2, .slice a len cap] 27))
  have H1 := Lib.hid (HH.out.keptN K0.out)
  have C1 := Lib.hid (fun (h : 1 ≤ m) (h3 : m ≤ 3) => checkNcc_step k x0 x1 x2 n0 n1 n2 subs len HL hLen IH ok a cap _ H1 m h h3)
  have C2 := Lib.hid (checkTerms_any k x0 x1 x2 n0 n1 n2 a len cap (w.alloc (.cells #[.int .i64 k, .bool x0, .int .i64 n0, .bool x1, .int .i64 n1, .bool x2, .int .i64 n2, .slice a len cap] 27)))
  have hmx : (if d < 1 then 1 else d) = m := by rw [hm]; omega
  have hm1 : 1 ≤ m := by rw [hm]; omega
  clear hm
  by_cases h3 : 3 < m
  · go_enter Try.func64, Try.ntmps64
    go_wp2_with fail
    go_ret
    exact ⟨by rw [HV.out]; simp [h3], K0.out⟩
  · have h3' : m ≤ 3 := by omega
    by_cases hk : k = 3
    · subst hk
      have C := Lib.hid (C1.out hm1 h3')
      clear C1 C2
      have hd3 : decide (3 < m) = false := decide_eq_false h3
      go_enter Try.func64, Try.ntmps64
      go_wp2_with fail
      refine C.out.mono ?_
      rintro e w2 ⟨rfl, k2⟩
      go_wp2_with fail
      go_ret
      exact ⟨by rw [HV.out]; simp [show ¬ (3 < m) by omega], K0.out.trans k2 (fun _ _ g => g)⟩
    · have hk3 : (k == 3) = false := by simpa using hk
      have hd3 : decide (3 < m) = false := decide_eq_false h3
      clear C1
      by_cases hk1 : k = 1
      · subst hk1
        go_enter Try.func64, Try.ntmps64
        go_wp2_with fail
        refine C2.out.mono ?_
        rintro e w2 ⟨rfl, k2⟩
        go_wp2_with fail
        go_ret
        exact ⟨by rw [HV.out]; simp [show ¬ (3 < m) by omega], K0.out.trans k2 (fun _ _ g => g)⟩
      · have hk1' : (k == 1) = false := by simpa using hk1
        by_cases hk2 : k = 2
        · subst hk2
          go_enter Try.func64, Try.ntmps64
          go_wp2_with fail
          refine C2.out.mono ?_
          rintro e w2 ⟨rfl, k2⟩
          go_wp2_with fail
          go_ret
          exact ⟨by rw [HV.out]; simp [show ¬ (3 < m) by omega], K0.out.trans k2 (fun _ _ g => g)⟩
        · have hk2' : (k == 2) = false := by simpa using hk2
          go_enter Try.func64, Try.ntmps64
          go_wp2_with fail
          go_ret
          exact ⟨by rw [HV.out]; simp [show ¬ (3 < m) by omega, hk, hk1, hk2], K0.out⟩
theorem check_any : ∀ s : Sh, s.count ≤ 5000 → ∀ ok a cap w (d : Int), Holds cA w ok (.slice a s.subs.length cap) s.subs →
    Calls Try.prog 64 #[vA s.hd (.slice a s.subs.length cap), .int .i64 d] w fun e w' => e = .returned (.int .i64 (s.chk (max d 1))) ∧ Kept Nil w w' := by
  refine Sh.ind fun hd subs ih hc ok a cap w d h => ?_
  have hc' : 1 + countL subs ≤ 5000 := by simpa [Sh.count] using hc
  have hl := length_countL subs
  exact check_step hd.k hd.x0 hd.x1 hd.x2 hd.n0 hd.n1 hd.n2 subs _ rfl (by omega) (fun hd' sb hx ok a cap w d' h1 h4 hh => by
    have := ih _ hx (by have := count_mem hx; omega) ok a cap w d' hh
    rwa [show max d' 1 = d' by omega] at this) ok a cap w h d _ rfl
theorem right_any (s : Sh) (hc : s.count ≤ 5000) (ok : Nat → Nat → Prop) (a : Option Addr) (cap : Nat) (w : World) (h : Holds cA w ok (.slice a s.subs.length cap) s.subs) :
    Calls Try.prog 83 #[vA s.hd (.slice a s.subs.length cap)] w fun e w' => e = .returned (.bool (s.chk 1 == 0)) ∧ Kept Nil w w' := by
  have C := Lib.hid (fun w' (k : Kept Nil w w') => check_any s hc ok a cap w' 1 (h.keptN k))
  rw [show max (1 : Int) 1 = 1 by omega] at C
  generalize s.chk 1 = v at C ⊢
  generalize s.subs.length = len at C ⊢
  generalize s.hd = hd at C ⊢
  obtain ⟨k, x0, x1, x2, n0, n1, n2⟩ := hd
  have K0 := Lib.hid ((Kept.refl Nil w).alloc (.cells #[.int .i64 k, .bool x0, .int .i64 n0, .bool x1, .int .i64 n1, .bool x2, .int .i64 n2, .slice a len cap] 27))
  clear h
  go_enter Try.func83, Try.ntmps83
  go_wp2_with fail
  refine (C.out _ K0.out).mono ?_
  rintro e w2 ⟨rfl, k2⟩
  go_wp2_with fail
  go_ret
  exact ⟨rfl, K0.out.trans k2 (fun _ _ g => g)⟩
end Go.Proofs.Ytoceogbanlmnoaa
