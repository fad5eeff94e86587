/- Plain facts: what stands behind and ahead in a row of numbers, when one is put in or taken out. -/
namespace Go.Proofs.Ytodghgeghpbdlaa

/-- What stands behind h in a row (0: nothing, or h isn't there). -/
def nx : List Nat → Nat → Nat
  | [], _ => 0
  | x :: r, h => if x = h then r.headD 0 else nx r h
/-- What stands ahead of h in a row whose head stands behind y; the last one, if h isn't there. -/
def bf : Nat → List Nat → Nat → Nat
  | y, [], _ => y
  | y, z :: r, h => if z = h then y else bf z r h
/-- n put ahead of h; last, if h isn't there. -/
def ins : List Nat → Nat → Nat → List Nat
  | [], _, n => [n]
  | x :: r, h, n => if x = h then n :: x :: r else x :: ins r h n
/-- h taken out. -/
def rm (r : List Nat) (h : Nat) : List Nat := r.filter (fun x => decide (x ≠ h))

theorem rm_none {h : Nat} {r : List Nat} (hr : h ∉ r) : rm r h = r := by
  unfold rm
  rw [List.filter_eq_self]
  intro a ha
  simp
  intro e; subst e; exact hr ha
theorem rm_same {h : Nat} {r : List Nat} : rm (h :: r) h = rm r h := by simp [rm]
theorem rm_other {h x : Nat} {r : List Nat} (hx : x ≠ h) : rm (x :: r) h = x :: rm r h := by simp [rm, hx]
theorem mem_rm {h x : Nat} {r : List Nat} : x ∈ rm r h ↔ x ∈ r ∧ x ≠ h := by simp [rm]
theorem nodup_rm {h : Nat} {r : List Nat} (hr : r.Nodup) : (rm r h).Nodup := hr.sublist List.filter_sublist

theorem mem_ins {h n x : Nat} : ∀ {r : List Nat}, x ∈ ins r h n ↔ x = n ∨ x ∈ r
  | [] => by simp [ins]
  | y :: r => by
    unfold ins
    split
    · simp
    · simp only [List.mem_cons, mem_ins (r := r)]
      constructor
      · rintro (e | e | e) <;> simp [e]
      · rintro (e | e | e) <;> simp [e]
theorem nodup_ins {h n : Nat} : ∀ {r : List Nat}, r.Nodup → n ∉ r → (ins r h n).Nodup
  | [], _, _ => by simp [ins]
  | y :: r, hr, hn => by
    unfold ins
    split
    · exact List.nodup_cons.2 ⟨hn, hr⟩
    · have h1 := List.nodup_cons.1 hr
      simp only [List.mem_cons, not_or] at hn
      refine List.nodup_cons.2 ⟨fun e => ?_, nodup_ins h1.2 hn.2⟩
      rcases mem_ins.1 e with e | e
      · exact hn.1 e.symm
      · exact h1.1 e
theorem length_ins {h n : Nat} : ∀ {r : List Nat}, (ins r h n).length = r.length + 1
  | [] => by simp [ins]
  | y :: r => by
    unfold ins
    split
    · simp
    · simp [length_ins (r := r)]
theorem ins_none {h n : Nat} : ∀ {r : List Nat}, h ∉ r → ins r h n = r ++ [n]
  | [], _ => rfl
  | y :: r, hh => by
    simp only [List.mem_cons, not_or] at hh
    unfold ins
    rw [if_neg (fun e => hh.1 e.symm), ins_none hh.2]; rfl
theorem length_rm {h : Nat} : ∀ {r : List Nat}, r.Nodup → h ∈ r → (rm r h).length + 1 = r.length
  | [], _, hh => by simp at hh
  | y :: r, hr, hh => by
    have h1 := List.nodup_cons.1 hr
    by_cases e : y = h
    · subst e; rw [rm_same, rm_none h1.1]; simp
    · rw [rm_other e]
      have := length_rm h1.2 (by rcases List.mem_cons.1 hh with e' | e'; exact absurd e'.symm e; exact e')
      simp only [List.length_cons]; omega

theorem bf_mem {h : Nat} : ∀ {y : Nat} {r : List Nat}, bf y r h = y ∨ bf y r h ∈ r
  | y, [] => .inl rfl
  | y, z :: r => by
    unfold bf
    split
    · exact .inl rfl
    · rcases bf_mem (h := h) (y := z) (r := r) with e | e
      · exact .inr (by rw [e]; simp)
      · exact .inr (List.mem_cons_of_mem _ e)
theorem bf_mem' {h y : Nat} {r : List Nat} : bf y r h ∈ y :: r := by
  rcases bf_mem (h := h) (y := y) (r := r) with e | e
  · rw [e]; simp
  · exact List.mem_cons_of_mem _ e
theorem nx_mem {h : Nat} : ∀ {r : List Nat}, nx r h = 0 ∨ nx r h ∈ r
  | [] => .inl rfl
  | x :: r => by
    unfold nx
    split
    · cases r with
      | nil => exact .inl rfl
      | cons z r => exact .inr (by simp)
    · rcases nx_mem (h := h) (r := r) with e | e
      · exact .inl e
      · exact .inr (List.mem_cons_of_mem _ e)
theorem nx_out {h : Nat} : ∀ {r : List Nat}, h ∉ r → nx r h = 0
  | [], _ => rfl
  | x :: r, hh => by
    simp only [List.mem_cons, not_or] at hh
    unfold nx
    rw [if_neg (fun e => hh.1 e.symm), nx_out hh.2]
theorem nx_mem0 {h : Nat} {r : List Nat} : nx (0 :: r) h = 0 ∨ nx (0 :: r) h ∈ r := by
  rcases nx_mem (h := h) (r := 0 :: r) with e | e
  · exact .inl e
  · rcases List.mem_cons.1 e with e | e
    · exact .inl e
    · exact .inr e

/-! ### one put in -/
theorem nx_ins {h n x : Nat} : ∀ {r : List Nat} {y : Nat}, (y :: r).Nodup → x ≠ n → nx (y :: ins r h n) x = if x = bf y r h then n else nx (y :: r) x
  | [], y, _, hx => by
    by_cases e : y = x
    · simp [ins, nx, bf, e]
    · simp [ins, nx, bf, e, Ne.symm e]
  | z :: r, y, hn, hx => by
    have h1 := List.nodup_cons.1 hn
    unfold ins bf
    by_cases e : z = h
    · rw [if_pos e, if_pos e]
      rw [nx]
      by_cases ey : y = x
      · rw [if_pos ey, if_pos ey.symm]; rfl
      · rw [if_neg ey, if_neg (fun e' => ey e'.symm), nx, if_neg (fun e' => hx e'.symm)]
        conv => rhs; rw [nx, if_neg ey]
    · rw [if_neg e, if_neg e, nx, nx_ins h1.2 hx]
      by_cases ey : y = x
      · rw [if_pos ey, if_neg (fun e' => h1.1 (by rw [ey, e']; exact bf_mem')), nx, if_pos ey]; rfl
      · rw [if_neg ey]
        conv => rhs; rw [nx, if_neg ey]
theorem nx_ins_same {h n : Nat} : ∀ {r : List Nat} {y : Nat}, n ≠ y → n ∉ r → h = 0 ∨ h ∈ r → nx (y :: ins r h n) n = h
  | [], y, hy, _, hh => by
    have : h = 0 := by simpa using hh
    simp [ins, nx, this, Ne.symm hy]
  | z :: r, y, hy, hn, hh => by
    simp only [List.mem_cons, not_or] at hn
    unfold ins
    by_cases e : z = h
    · rw [if_pos e, nx, if_neg (fun e => hy e.symm), nx, if_pos rfl]; exact e
    · rw [if_neg e, nx, if_neg (fun e => hy e.symm)]
      exact nx_ins_same hn.1 hn.2 (hh.imp id (fun hm => by rcases List.mem_cons.1 hm with e' | e'; exact absurd e'.symm e; exact e'))
theorem bf_ins {h n x : Nat} : ∀ {r : List Nat} {y : Nat}, x ≠ n → x = h ∨ x ∈ r ∨ h ∈ r → bf y (ins r h n) x = if x = h then n else bf y r x
  | [], y, hx, hh => by
    have : x = h := by simpa using hh
    simp [ins, bf, this]
    intro e; exact absurd (this.trans e.symm) hx
  | z :: r, y, hx, hh => by
    unfold ins
    by_cases e : z = h
    · rw [if_pos e]
      simp only [bf]
      rw [if_neg (fun e => hx e.symm)]
      by_cases ex : x = h
      · rw [if_pos (e.trans ex.symm), if_pos ex]
      · have : z ≠ x := fun e' => ex (e'.symm.trans e)
        rw [if_neg this, if_neg ex, if_neg this]
    · rw [if_neg e]
      simp only [bf]
      by_cases ez : z = x
      · rw [if_pos ez, if_pos ez, if_neg (fun e' => e (ez.trans e'))]
      · rw [if_neg ez, if_neg ez]
        refine bf_ins hx ?_
        rcases hh with hh | hh | hh
        · exact .inl hh
        · rcases List.mem_cons.1 hh with e' | e'
          · exact absurd e'.symm ez
          · exact .inr (.inl e')
        · rcases List.mem_cons.1 hh with e' | e'
          · exact absurd e'.symm e
          · exact .inr (.inr e')
theorem bf_ins_same {h n : Nat} : ∀ {r : List Nat} {y : Nat}, n ∉ r → bf y (ins r h n) n = bf y r h
  | [], y, _ => by simp [ins, bf]
  | z :: r, y, hn => by
    simp only [List.mem_cons, not_or] at hn
    unfold ins
    by_cases e : z = h
    · rw [if_pos e]; simp only [bf]; rw [if_pos trivial, if_pos e]
    · rw [if_neg e]; simp only [bf]; rw [if_neg (fun e' => hn.1 e'.symm), if_neg e]; exact bf_ins_same hn.2
theorem headD_ins {h n : Nat} {r : List Nat} : (ins r h n).headD 0 = nx (0 :: ins r h n) 0 := by simp [nx]
theorem headD_nx {r : List Nat} : r.headD 0 = nx (0 :: r) 0 := by simp [nx]

/-! ### one taken out -/
theorem nx_rm {h x : Nat} : ∀ {r : List Nat} {y : Nat}, (y :: r).Nodup → h ∈ r → x ≠ h → nx (y :: rm r h) x = if x = bf y r h then nx (y :: r) h else nx (y :: r) x
  | [], y, _, hh, _ => by simp at hh
  | z :: r, y, hn, hh, hx => by
    have h1 := List.nodup_cons.1 hn
    have h2 := List.nodup_cons.1 h1.2
    by_cases e : z = h
    · subst e
      rw [rm_same, rm_none h2.1]
      simp only [bf, if_true]
      have hy : y ≠ z := fun e => h1.1 (by simp [e])
      by_cases ey : y = x
      · subst ey
        simp [nx, hy]
      · rw [if_neg (fun e' => ey e'.symm)]
        simp [nx, ey, Ne.symm hx]
    · have hm : h ∈ r := by rcases List.mem_cons.1 hh with e' | e'; exact absurd e'.symm e; exact e'
      have hy : y ≠ h := fun e' => h1.1 (by rw [e']; exact List.mem_cons_of_mem _ hm)
      have ih := nx_rm (x := x) h1.2 hm hx
      have hb : bf y (z :: r) h = bf z r h := by simp [bf, e]
      rw [rm_other e, hb]
      have l1 : nx (y :: z :: rm r h) x = if y = x then z else nx (z :: rm r h) x := by simp [nx]
      have l2 : nx (y :: z :: r) x = if y = x then z else nx (z :: r) x := by simp [nx]
      have l3 : nx (y :: z :: r) h = nx (z :: r) h := by simp [nx, hy]
      rw [l1, l2, l3, ih]
      by_cases ey : y = x
      · rw [if_pos ey, if_pos ey, if_neg (fun e' => h1.1 (by rw [ey, e']; exact bf_mem'))]
      · rw [if_neg ey, if_neg ey]
theorem bf_rm {h x : Nat} : ∀ {r : List Nat} {y : Nat}, (y :: r).Nodup → 0 ∉ r → h ∈ r → x ≠ h → x ∈ r ∨ x = 0 → bf y (rm r h) x = if x = nx (y :: r) h then bf y r h else bf y r x
  | [], y, _, _, hh, _, _ => by simp at hh
  | z :: r, y, hn, h0, hh, hx, hxr => by
    have h1 := List.nodup_cons.1 hn
    have h2 := List.nodup_cons.1 h1.2
    by_cases e : z = h
    · subst e
      have hy : y ≠ z := fun e => h1.1 (by simp [e])
      have l1 : nx (y :: z :: r) z = r.headD 0 := by simp [nx, hy]
      have l2 : bf y (z :: r) z = y := by simp [bf]
      have l3 : bf y (z :: r) x = bf z r x := by simp [bf, Ne.symm hx]
      rw [rm_same, rm_none h2.1, l1, l2, l3]
      cases r with
      | nil =>
        have : x = 0 := by
          rcases hxr with e' | e'
          · simp at e'; exact absurd e' hx
          · exact e'
        subst this
        simp [bf]
      | cons u r =>
        by_cases eu : x = u
        · simp [bf, eu]
        · simp [bf, eu, Ne.symm eu]
    · have hm : h ∈ r := by rcases List.mem_cons.1 hh with e' | e'; exact absurd e'.symm e; exact e'
      have hy : y ≠ h := fun e' => h1.1 (by rw [e']; exact List.mem_cons_of_mem _ hm)
      have l1 : bf y (z :: rm r h) x = if z = x then y else bf z (rm r h) x := by simp [bf]
      have l2 : bf y (z :: r) x = if z = x then y else bf z r x := by simp [bf]
      have l3 : bf y (z :: r) h = bf z r h := by simp [bf, e]
      have l4 : nx (y :: z :: r) h = nx (z :: r) h := by simp [nx, hy]
      have h0' : 0 ∉ r := fun e => h0 (List.mem_cons_of_mem _ e)
      rw [rm_other e, l1, l2, l3, l4]
      by_cases ez : z = x
      · rw [if_pos ez, if_pos ez, if_neg]
        intro e'
        have : nx (z :: r) h = 0 ∨ nx (z :: r) h ∈ r := by
          have : nx (z :: r) h = nx r h := by simp [nx, e]
          rw [this]; exact nx_mem
        rcases this with e2 | e2
        · exact h0 (by rw [← e2, ← e', ← ez]; simp)
        · exact h2.1 (by rw [ez, e']; exact e2)
      · rw [if_neg ez, if_neg ez]
        exact bf_rm h1.2 h0' hm hx (hxr.imp (fun hm => by rcases List.mem_cons.1 hm with e' | e'; exact absurd e'.symm ez; exact e') id)
/-! ### by places -/
theorem nx_at {x : Nat} : ∀ {r : List Nat} {i : Nat}, r.Nodup → r[i]? = some x → nx r x = r[i + 1]?.getD 0
  | [], _, _, h => by simp at h
  | y :: r, 0, _, h => by
    have : y = x := by simpa using h
    subst this
    cases r <;> simp [nx]
  | y :: r, i + 1, hn, h => by
    have h1 := List.nodup_cons.1 hn
    have hr : r[i]? = some x := by simpa using h
    have : y ≠ x := fun e => h1.1 (e ▸ List.mem_of_getElem? hr)
    simp only [nx, if_neg this, List.getElem?_cons_succ]
    exact nx_at h1.2 hr
theorem nx0_at {x i : Nat} {r : List Nat} (hn : r.Nodup) (h0 : 0 ∉ r) (h : r[i]? = some x) : nx (0 :: r) x = r[i + 1]?.getD 0 := by
  have := nx_at (List.nodup_cons.2 ⟨h0, hn⟩) (i := i + 1) (x := x) (by simpa using h)
  simpa using this
theorem bf_at {x : Nat} : ∀ {r : List Nat} {y i : Nat}, r.Nodup → r[i]? = some x → bf y r x = if i = 0 then y else r[i - 1]?.getD 0
  | [], _, _, _, h => by simp at h
  | z :: r, y, 0, _, h => by
    have : z = x := by simpa using h
    simp [bf, this]
  | z :: r, y, i + 1, hn, h => by
    have h1 := List.nodup_cons.1 hn
    have hr : r[i]? = some x := by simpa using h
    have : z ≠ x := fun e => h1.1 (e ▸ List.mem_of_getElem? hr)
    simp only [bf, if_neg this]
    rw [bf_at h1.2 hr]
    cases i <;> simp
theorem bf_out {x : Nat} : ∀ {r : List Nat} {y : Nat}, x ∉ r → bf y r x = if r.length = 0 then y else r[r.length - 1]?.getD 0
  | [], y, _ => rfl
  | z :: r, y, hx => by
    simp only [List.mem_cons, not_or] at hx
    simp only [bf, if_neg (fun e => hx.1 (Eq.symm e))]
    rw [bf_out hx.2]
    cases r <;> simp

/-! ### whatever number is asked -/
/-- What Next answers. -/
def nxI (row : List Nat) (k : Int) : Nat := if k < 0 then 0 else nx (0 :: row) k.toNat
/-- What Prev answers. -/
def pvI (row : List Nat) (k : Int) : Nat := if k < 0 then 0 else if k.toNat = 0 ∨ k.toNat ∈ row then bf 0 row k.toNat else 0
theorem asked (row : List Nat) (k : Int) : (k = 0 ∧ nxI row k = nx (0 :: row) 0 ∧ pvI row k = bf 0 row 0) ∨ (∃ x ∈ row, k = (x : Int) ∧ nxI row k = nx (0 :: row) x ∧ pvI row k = bf 0 row x) ∨ (k ≠ 0 ∧ (∀ x ∈ row, (x : Int) ≠ k) ∧ nxI row k = 0 ∧ pvI row k = 0) := by
  by_cases h0 : k = 0
  · subst h0
    exact .inl ⟨rfl, by simp [nxI], by simp [pvI]⟩
  · by_cases hm : ∃ x ∈ row, (x : Int) = k
    · obtain ⟨x, hx, rfl⟩ := hm
      have h1 : ¬ ((x : Int) < 0) := by omega
      exact .inr (.inl ⟨x, hx, rfl, by unfold nxI; rw [if_neg h1]; rfl, by unfold pvI; rw [if_neg h1, if_pos (.inr (by simpa using hx))]; rfl⟩)
    · have hn : ∀ x ∈ row, (x : Int) ≠ k := fun x hx e => hm ⟨x, hx, e⟩
      refine .inr (.inr ⟨h0, hn, ?_, ?_⟩)
      · unfold nxI
        split
        · rfl
        · refine nx_out ?_
          simp only [List.mem_cons, not_or]
          exact ⟨by omega, fun hx => hn _ hx (by omega)⟩
      · unfold pvI
        split
        · rfl
        · rw [if_neg]
          rintro (e | hx)
          · omega
          · exact hn _ hx (by omega)
end Go.Proofs.Ytodghgeghpbdlaa
