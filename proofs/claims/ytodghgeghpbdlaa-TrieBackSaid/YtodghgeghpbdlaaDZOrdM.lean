/- Layer trie: two tries beside each other; lists of steps of the program's; what the law TrieOrder keeps. -/
import Derived.Test.YtodghgeghpbdlaaA21
namespace Go.Proofs.Ytodghgeghpbdlaa
open Go.RowKit Go.Maps Go.WideMaps
set_option maxRecDepth 100000

theorem usesL_rev (ls : List (List St)) (x : List St) : usesL ls.reverse x = usesL ls x := by unfold usesL; exact List.countP_reverse
theorem elsLP : Els Try.prog 55 30 1 := ⟨Try.underlying55, ⟨_, _, _, rfl, rfl, rfl, rfl, by kernel_rfl, by decide +kernel⟩, by decide⟩
/-- A trie of these lists. -/
def TO (W : World) (c : Nat → Nat) (p : Nat) (L : List (List St)) (m : Nat) : Prop := ∃ es U E, TE W c p es U E ∧ TLS L es U E ∧ es.length ≤ m
section
variable {w w' : World} {c c' : Nat → Nat} {p m : Nat} {L : List (List St)} {l : List St}
theorem TO.kept {F : Nat → Prop} (h : TO w c p L m) (hk : Kept F w w') (hF : ∀ b, F b → c b = 0) : TO w' c p L m := by
  obtain ⟨es, U, E, h1, h2, h3⟩ := h
  exact ⟨es, U, E, h1.kept hk hF, h2, h3⟩
theorem TO.keptN (h : TO w c p L m) (hk : Kept Nil w w') : TO w' c p L m := h.kept hk (fun _ e => e.elim)
theorem TO.low (h : TO w c p L m) : ∀ b, c b ≠ 0 → b < w.heap.size := by obtain ⟨es, U, E, h1, _⟩ := h; exact h1.low
/-- Add. -/
theorem TO.add (h : TO w c p L m) (hl : Rl l) (hm : m ≤ 1000) (hL : L.length ≤ 100) (ok : Nat → Nat → Prop) (hok : ∀ b o, ok b o → b < w.heap.size ∧ c b = 0) (a : Option Addr) (cap : Nat) (hH : SHolds w ok (.slice a l.length cap) l) :
    Calls Try.prog 12 #[.pointer (some ⟨p, 0, none⟩), .slice a l.length cap] w fun e w' => ∃ v c', e = .returned v ∧ TO w' c' p (L ++ [l]) (m + 16) ∧ Kept (fun b => c b ≠ 0) w w' ∧ ∀ b, c' b ≠ 0 → c b ≠ 0 ∨ w.heap.size ≤ b := by
  obtain ⟨es, U, E, h1, h2, h3⟩ := h
  refine (add_any h1 l hl (by omega) h2.far (fun n => by have := h2.bnd n; omega) ok hok a cap hH).mono ?_
  rintro e w' ⟨a6, cp6, c6, rfl, hI6, ho6, _, t6⟩
  have hch := hl.chs
  exact ⟨_, c6, rfl, ⟨_, _, _, t6.te, h2.add hl, by have := addAll_len (chSL l []) es; omega⟩, t6.kept.mono (fun _ _ e => e.1), t6.sub⟩
/-- Find, of a chain that some list has. -/
theorem TO.find (h : TO w c p L m) {x : List St} (hx : x ≠ []) (hu : 0 < usesL L x) (hm : m ≤ 1000) (ok : Nat → Nat → Prop) (hok : ∀ b o, ok b o → b < w.heap.size) (a : Option Addr) (cap : Nat) (hH : SHolds w ok (.slice a x.length cap) x) :
    ∃ f : Nat, f ≠ 0 ∧ Calls Try.prog 24 #[.pointer (some ⟨p, 0, none⟩), .slice a x.length cap] w (fun e w' => e = .returned (.int .i64 f) ∧ Kept Nil w w') ∧
      (∀ W, Kept Nil w W → Calls Try.prog 20 #[.pointer (some ⟨p, 0, none⟩), .int .i64 f] W fun e w' => e = .returned (.int .i64 (usesL L x : Nat)) ∧ w' = W) ∧
      (∀ W, Kept Nil w W → Calls Try.prog 25 #[.pointer (some ⟨p, 0, none⟩), .int .i64 f] W fun e w' => e = .returned (.int .i64 (x.length : Nat)) ∧ w' = W) := by
  obtain ⟨es, U, E, h1, h2, h3⟩ := h
  have hf : fnd es x ≠ 0 := (h2.tl.all x hx).2 hu
  obtain ⟨l2, hl2, hx3⟩ := (usesL_pos hx).1 hu
  have hr := (h2.tl.rl l2 hl2).chain hx3
  have hlt := fnd_lt (es := es) (c := x)
  have he := (ent_fnd h2.tl.ok (c := x) (n := fnd es x)).2 ⟨hf, rfl⟩
  refine ⟨fnd es x, hf, find_any h1 (by omega) x hr ok hok a cap hH, fun W kW => ?_, fun W kW => ?_⟩
  · have := uses_any (h1.keptN kW) (n := fnd es x) (by omega)
    unfold usE at this
    rw [he] at this
    rw [← h2.us x hf]
    exact this
  · have := depth_any (h1.keptN kW) (by omega) (n := fnd es x) (by omega)
    unfold depN at this
    rw [he] at this
    exact this
theorem TO.uses1 (h : TO w c p L m) : Calls Try.prog 20 #[.pointer (some ⟨p, 0, none⟩), .int .i64 1] w fun e w' => e = .returned (.int .i64 (usesL L [] : Nat)) ∧ w' = w := by
  obtain ⟨es, U, E, h1, h2, h3⟩ := h
  have hf : fnd es [] = 1 := fnd_nil es
  have he := (ent_fnd h2.tl.ok (c := []) (n := 1)).2 ⟨by decide, hf⟩
  have hu := h2.us [] (by rw [hf]; decide)
  rw [hf] at hu
  have := uses_any h1 (n := 1) (by omega)
  unfold usE at this
  rw [he] at this
  rw [← hu]
  exact this
theorem TO.len (h : TO w c p L m) {Dis : List (List St)} (hn : Dis.Nodup) (hD : ∀ x, x ∈ Dis ↔ x ≠ [] ∧ 0 < usesL L x) :
    Calls Try.prog 21 #[.pointer (some ⟨p, 0, none⟩)] w fun e w' => e = .returned (.int .i64 ((Dis.length + 1 : Nat) : Int)) ∧ w' = w := by
  obtain ⟨es, U, E, h1, h2, h3⟩ := h
  exact len_any h1 h2 hn hD
theorem rl_of {l : List Sh} (h : GoesT l) : Rl (stL l []) := ⟨stL_right h.2 (by have := h.1; simp; omega), by have := st_cnt.2 l []; have := h.1; omega⟩
end
end Go.Proofs.Ytodghgeghpbdlaa
