/- Layer rule: the reference's Places: the ways to where a variable stands, as texts. -/
import Derived.Test.YtpdofapbbpihlaaDOwn
import Derived.Test.YtpdofapbbpihlaaDTurned
import Derived.Laws.IdiomStrings
namespace Go.Proofs.Ytpdofapbbpihlaa
open Go.RowKit

def sgn (i : Nat) : ByteArray := ⟨#[UInt8.ofNat (97 + i)]⟩
def Sh.ownB (s : Sh) (v : Int) : Bool := decide (s.hd.k < 3) && ownN s.hd.x0 s.hd.x1 s.hd.x2 s.hd.n0 s.hd.n1 s.hd.n2 v
mutual
/-- The ways to where a variable stands in its Subs; in these, counted from i on. -/
def Sh.plc : Sh → Int → ByteArray → List ByteArray
  | .mk _ l, v, way => plcL l 0 v way
def plcL : List Sh → Nat → Int → ByteArray → List ByteArray
  | [], _, _, _ => []
  | s :: r, i, v, way => (if s.ownB v = true then [way ++ sgn i] else []) ++ (s.plc v (way ++ sgn i) ++ plcL r (i + 1) v way)
end
theorem plc_mk (h : Hd) (l : List Sh) (v : Int) (way : ByteArray) : (Sh.mk h l).plc v way = plcL l 0 v way := by rw [Sh.plc]
theorem plcL_take_succ {v : Int} {way : ByteArray} {x : Sh} : ∀ (l : List Sh) (i j : Nat), l[j]? = some x → plcL (l.take (j + 1)) i v way = plcL (l.take j) i v way ++ ((if x.ownB v = true then [way ++ sgn (i + j)] else []) ++ x.plc v (way ++ sgn (i + j)))
  | [], _, _, h => by simp at h
  | s :: r, i, 0, h => by
    simp only [List.getElem?_cons_zero, Option.some.injEq] at h
    subst h
    rw [List.take_succ_cons, List.take_zero, List.take_zero, plcL, plcL, plcL]
    simp
  | s :: r, i, j + 1, h => by
    rw [List.take_succ_cons, List.take_succ_cons, plcL, plcL, plcL_take_succ r (i + 1) j (by simpa using h), show i + 1 + j = i + (j + 1) by omega]
    simp only [List.append_assoc]
theorem plc_len : (∀ s : Sh, ∀ v way, (s.plc v way).length ≤ countL s.subs) ∧ ∀ l : List Sh, ∀ i v way, (plcL l i v way).length ≤ countL l := by
  refine Sh.ind2 (fun hd subs ih v way => ?_) (fun i v way => by simp [plcL]) (fun a l ha hl i v way => ?_)
  · rw [plc_mk]; exact ih 0 v way
  · rw [plcL, List.length_append, List.length_append]
    have h1 := ha v (way ++ sgn i)
    have h2 := hl (i + 1) v way
    have h3 : a.count = 1 + countL a.subs := by cases a; simp [Sh.count, Sh.subs]
    simp only [countL]
    split <;> simp <;> omega
/-- A row of the call's own that holds texts. -/
def SRow (w : World) (B : Nat) (v : Value) (l : List ByteArray) : Prop := w.ownsRow B 9 1 v l.length (l.map Value.string)
theorem SRow.kept {w w' : World} {B : Nat} {v : Value} {l : List ByteArray} (h : SRow w B v l) (k : Kept Nil w w') : SRow w' B v l := Kept.row k h (fun _ _ g => g)
theorem SRow.own {w : World} {B : Nat} {v : Value} {l : List ByteArray} (h : SRow w B v l) : ∀ k, v.ownBlock = some k → B ≤ k := by
  intro k hk
  rcases h.2 with ⟨e, _⟩ | ⟨g, cap, cur, e, hb, _⟩
  · rw [e] at hk; cases hk
  · rw [e] at hk; cases hk; exact hb
theorem SRow.lt {w : World} {B : Nat} {v : Value} {l : List ByteArray} (h : SRow w B v l) : ∀ k, v.ownBlock = some k → k < w.heap.size := by
  intro k hk
  rcases h.2 with ⟨e, _⟩ | ⟨g, cap, cur, e, _, hg, _⟩
  · rw [e] at hk; cases hk
  · rw [e] at hk; cases hk; exact (Array.getElem?_eq_some_iff.1 hg).1
theorem infoS : (Try.prog.info? 9).map (fun i => (i.zero, i.size, i.bytes)) = some (some (.string ⟨#[]⟩), 1, 16) := by kernel_rfl
theorem appendS_one (w : World) {B : Nat} {v : Value} {l : List ByteArray} (h : SRow w B v l) (hB : B ≤ w.heap.size) (hl : l.length ≤ 50000) (s : ByteArray) :
    ∃ v' w', (Builtin.append_ #[35, 35] 35 #[v, .slice (some ⟨w.heap.size, 0, none⟩) 1 1]).run Try.prog (w.alloc (.cells #[.string s] 9)) = .ok v' w' ∧ SRow w' B v' (l ++ [s]) ∧ (w.alloc (.cells #[.string s] 9)).grownBy w' v.ownBlock := by
  obtain ⟨i0, hi, hz0, hz1, hz2⟩ := info_parts infoS
  obtain ⟨v', w', r, o, g', _⟩ := run_append_own (P := Try.prog) (w.alloc (.cells #[.string s] 9)) B 35 35 9 i0 (.string ⟨#[]⟩) 1 16 Try.underlying35 hi hz0 hz1 hz2 rfl (by decide) v l.length (l.map Value.string) (h.alloc _)
    ⟨w.heap.size, 0, none⟩ 1 1 [.string s] rfl (fun j u hj => by rw [Addr.add_mid, Nat.zero_add, (Blk.new w 9 #[.string s]).cell j]; simpa using hj) (fun u hu => by simp at hu; subst hu; rfl) (by unfold maxLen; omega) (by omega) (by simp; omega)
  exact ⟨v', w', r, by simpa [SRow] using o, g'⟩
theorem appendS_all (w : World) {B B2 : Nat} {v v2 : Value} {l l2 : List ByteArray} (h : SRow w B v l) (h2 : SRow w B2 v2 l2) (hB : B ≤ w.heap.size) (hl : l.length + l2.length ≤ 50000) :
    ∃ v' w', (Builtin.append_ #[35, 35] 35 #[v, v2]).run Try.prog w = .ok v' w' ∧ SRow w' B v' (l ++ l2) ∧ Kept (fun k => v.ownBlock = some k) w w' := by
  obtain ⟨i0, hi, hz0, hz1, hz2⟩ := info_parts infoS
  rcases h2.2 with ⟨e, e0⟩ | ⟨g, cap, cur, e, _⟩
  · obtain rfl := List.length_eq_zero_iff.1 e0
    subst e
    exact ⟨v, w, run_append_owned_none (P := Try.prog) (w := w) B 35 35 9 i0 1 Try.underlying35 hi v l.length _ h, by simpa using h, Kept.refl _ _⟩
  · subst e
    obtain ⟨v', w', r, o, gr, _⟩ := run_append_own (P := Try.prog) w B 35 35 9 i0 (.string ⟨#[]⟩) 1 16 Try.underlying35 hi hz0 hz1 hz2 rfl (by decide) v l.length (l.map Value.string) h
      ⟨g, 0, none⟩ l2.length cap (l2.map Value.string) (by simp) (h2.cells rfl) (fun u hu => by obtain ⟨x, _, rfl⟩ := List.mem_map.1 hu; rfl) (by unfold maxLen; omega) (by omega) hB
    exact ⟨v', w', r, by simpa [SRow] using o, ⟨gr.os, gr.tape, gr.output, gr.size, fun k hk hF => gr.block k hk (fun e => hF e.symm)⟩⟩
def PlacesEnd (out : List ByteArray) (w : World) (e : Ending) (w' : World) : Prop := ∃ v, e = .returned v ∧ SRow w' w.heap.size v out ∧ Kept Nil w w'
abbrev PlacesIH (l : List Sh) (v : Int) : Prop := ∀ hd sb, Sh.mk hd sb ∈ l → ∀ ok a cap way w, way.size + countL sb ≤ 2000 → Holds cR w ok (.slice a sb.length cap) sb →
  Calls Try.prog 14 #[.slice a sb.length cap, .int .i64 v, .string way] w (PlacesEnd (plcL sb 0 v way) w)
theorem sgn_size (i : Nat) : (sgn i).size = 1 := rfl
set_option maxHeartbeats 4000000 in
theorem refPlaces_step (l : List Sh) (len : Nat) (HL : Hid (l.length = len)) (HC : Hid (countL l ≤ 100)) (v : Int) (IH : Hid (PlacesIH l v)) (ok : Nat → Nat → Prop) (a : Option Addr) (cap : Nat) (way : ByteArray) (hway : way.size + countL l ≤ 2000) (w : World) (HH : Hid (Holds cR w ok (.slice a len cap) l)) :
    Calls Try.prog 14 #[.slice a len cap, .int .i64 v, .string way] w (PlacesEnd (plcL l 0 v way) w) := by
  have hLen : len ≤ 100 := by have := length_countL l; have := HL.out; have := HC.out; omega
  have HW := Lib.hid hway
  have hws : way.size ≤ 2000 := by omega
  clear hway
  go_enter Try.func14, Try.ntmps14
  go_wp2_with fail
  go_loopw [7, 13] (fun r i wr => ∃ j : Nat, j ≤ len ∧ i = .int .i64 j ∧ SRow wr w.heap.size r (plcL (l.take j) 0 v way) ∧ Kept Nil w wr) (fun _ i _ => len - (intOf i).toNat)
  case atStart => exact ⟨0, by omega, rfl, World.ownsRow_nil _ _ _ _, Kept.refl _ _⟩
  case round =>
    obtain ⟨j, hj, rfl, hR, hK⟩ := hrel
    have HR := Lib.hid hR
    have HK := Lib.hid hK
    clear hR hK
    by_cases hlt : j < len
    · obtain ⟨⟨⟨k', x0', x1', x2', n0', n1', n2'⟩, sb⟩, hx⟩ : ∃ x, l[j]? = some x := ⟨_, List.getElem?_eq_getElem (by have := HL.out; omega)⟩
      obtain ⟨b, o, a', cap', rfl, hok, hr0, hs⟩ := HH.out.at_ hx
      have hr := rangeAt_kept HK.out id hr0
      have hcx := count_mem (List.mem_of_getElem? hx)
      have hsz : (way ++ sgn j).size = way.size + 1 := by rw [ByteArray.size_append, sgn_size]
      have HX : Hid (∀ W, Kept Nil w W → Calls Try.prog 14 #[.slice a' sb.length cap', .int .i64 v, .string (way ++ sgn j)] W fun e w' => ∃ r, e = .returned r ∧ SRow w' W.heap.size r (plcL sb 0 v (way ++ sgn j)) ∧ Kept Nil W w') := Lib.hid fun W kW => IH.out _ _ (List.mem_of_getElem? hx) ok a' cap' (way ++ sgn j) W (by have h1 := HW.out; rw [hsz]; simp only [Sh.count] at hcx; omega) (hs.keptN kW)
      have HN : Hid (plcL (l.take (j + 1)) 0 v way = plcL (l.take j) 0 v way ++ ((if (decide (k' < 3) && ownN x0' x1' x2' n0' n1' n2' v) = true then [way ++ sgn j] else []) ++ plcL sb 0 v (way ++ sgn j))) := Lib.hid (by
        have := plcL_take_succ (v := v) (way := way) l 0 j hx
        rw [plc_mk, Nat.zero_add] at this
        exact this)
      have HBd : Hid ((plcL (l.take j) 0 v way).length + 1 + (plcL sb 0 v (way ++ sgn j)).length ≤ 50000) := Lib.hid (by
        have h1 := plc_len.2 (l.take j) 0 v way
        have h2 := countL_take_le l j
        have h3 := plc_len.2 sb 0 v (way ++ sgn j)
        have h4 := HC.out
        simp only [Sh.count] at hcx
        omega)
      have HRow := Lib.hid hr
      clear hx hr hr0 hs hok hcx
      generalize hout : plcL (l.take j) 0 v way = out at HR HN HBd
      generalize hl2 : plcL sb 0 v (way ++ sgn j) = l2 at HX HN HBd
      generalize hq : (decide (k' < 3) && ownN x0' x1' x2' n0' n1' n2' v) = q at HN
      generalize hsl : sb.length = len' at HRow HX
      have CO : Hid (∀ W, Calls Try.prog 31 #[vR ⟨k', x0', x1', x2', n0', n1', n2'⟩ (.slice a' len' cap'), .int .i64 v] W fun e w' => e = .returned (.bool q) ∧ Kept Nil W w') := Lib.hid fun W => by
        have := refOwn_any k' x0' x1' x2' n0' n1' n2' len' v a' cap' W
        rwa [hq] at this
      clear hout hl2 hq hsl
      have hu8 : IntKind.u8.wrap (97 + (j : Int)) = 97 + (j : Int) := by
        show (97 + (j : Int)) % 256 = _
        omega
      have hcv : ∀ W : World, W.cell? ⟨wr.heap.size + 1, 0, none⟩ = some (.int .u8 (97 + (j : Int))) → (convert 39 9 (.slice (some ⟨wr.heap.size + 1, 0, none⟩) 1 1)).run Try.prog W = .ok (.string (sgn j)) W := fun W hW => by
        refine run_convert_bytes_back (P := Try.prog) W 39 9 5 ⟨wr.heap.size + 1, 0, none⟩ 1 [UInt8.ofNat (97 + j)] Try.underlying39 Try.underlying5 Try.underlying9 (fun i hi => ?_)
        have hi0 : i = 0 := by simpa using hi
        subst hi0
        show W.cell? ⟨wr.heap.size + 1, 0, none⟩ = _
        rw [hW]
        have ht : (UInt8.ofNat (97 + j)).toNat = 97 + j := by rw [UInt8.toNat_ofNat']; omega
        show some (Value.int .u8 (97 + (j : Int))) = some (.int .u8 (((UInt8.ofNat (97 + j)).toNat : Nat) : Int))
        rw [ht, Int.natCast_add]
        rfl
      have hadd : ∀ W : World, (Op.stringOp .add way (sgn j)).run Try.prog W = .ok (.string (way ++ sgn j)) W := fun W => run_string_add_sum W _ _ (by rw [sgn_size]; omega)
      have BK := Lib.hid ((Blk.new wr 59 (arrR ⟨k', x0', x1', x2', n0', n1', n2'⟩ (.slice a' len' cap'))).alloc (.cells #[.int .u8 (97 + (j : Int))] 5))
      have K01 := Lib.hid (((Kept.refl Nil wr).alloc (.cells (arrR ⟨k', x0', x1', x2', n0', n1', n2'⟩ (.slice a' len' cap')) 59)).alloc (.cells #[.int .u8 (97 + (j : Int))] 5))
      have cb : ((wr.alloc (.cells (arrR ⟨k', x0', x1', x2', n0', n1', n2'⟩ (.slice a' len' cap')) 59)).alloc (.cells #[.int .u8 (97 + (j : Int))] 5)).cell? ⟨wr.heap.size + 1, 0, none⟩ = some (.int .u8 (97 + (j : Int))) := by
        simp
      have hcv2 := hcv _ cb
      clear hcv
      go_wp2_with (first
        | ((with_reducible refine wpList_load_R rfl (.tmp 16) rfl _ _ rfl ⟨k', x0', x1', x2', n0', n1', n2'⟩ (.slice a' len' cap') ?_ ?_)
           · exact HRow.out)
        | ((with_reducible refine wpList_load_R rfl (.tmp 9) rfl _ _ rfl ⟨k', x0', x1', x2', n0', n1', n2'⟩ (.slice a' len' cap') ?_ ?_)
           · exact World.rangeAt_of_block BK.out 0 8))
      refine (CO.out _).mono ?_
      rintro e w2 ⟨rfl, k2⟩
      have B2 := Lib.hid (BK.out.kept k2 id)
      have K2 := Lib.hid (K01.out.trans k2 (fun _ _ g => g))
      clear k2 BK K01 cb hcv2 hadd hu8 hsz
      cases q
      · have c7 := B2.out.cell 7
        simp at c7
        go_wp2_with fail
        refine (HX.out _ (HK.out.trans K2.out (fun _ _ g => g))).mono ?_
        rintro e w3 ⟨r3, rfl, h3, k3⟩
        have k03 : Kept Nil wr w3 := K2.out.trans k3 (fun _ _ g => g)
        obtain ⟨v', w', r1, o1, kk⟩ := appendS_all w3 (HR.out.kept k03) h3 (by have := HK.out.size; have := k03.size; omega) (by have := HBd.out; omega)
        have RR := Lib.hid r1
        have O1 := Lib.hid o1
        have HO := HR.out.own
        have K4 := Lib.hid ((HK.out.trans k03 (fun _ _ g => g)).trans kk (fun i hi e => by have := HO i e; omega))
        clear h3 k3 k03 r1 o1 kk HO c7
        go_wp2_with (at_builtin; refine wpList_append_run rfl (.tmp 32) (.tmp 37) 35 rfl _ _ rfl rfl RR.out ?_)
        go_roundw
        case rel => exact ⟨j + 1, by omega, by go_num, by rw [HN.out]; simpa using O1.out, K4.out⟩
        case measure => simp [intOf]; omega
      · obtain ⟨v1, w3, r1, o1, g1⟩ := appendS_one w2 (HR.out.kept K2.out) (by have := HK.out.size; have := K2.out.size; omega) (by have := HBd.out; omega) (way ++ sgn j)
        have RR1 := Lib.hid r1
        have O1 := Lib.hid o1
        have HO := Lib.hid HR.out.own
        have kg : Kept (fun k => u7.ownBlock = some k) w2 w3 := (((Kept.refl _ w2).alloc _).grown g1 (fun k hk => .inl hk))
        have B3 := Lib.hid (B2.out.kept kg (fun e => by have := HR.out.lt _ e; omega))
        have K3 := Lib.hid ((HK.out.trans K2.out (fun _ _ g => g)).trans kg (fun i hi e => by have := HO.out i e; omega))
        clear r1 o1 g1 kg K2 B2
        have c7 := B3.out.cell 7
        simp at c7
        go_wp2_with (at_builtin; refine wpList_append_run rfl (.tmp 28) (.tmp 30) 35 rfl _ _ rfl rfl RR1.out ?_)
        refine (HX.out _ K3.out).mono ?_
        rintro e w4 ⟨r4, rfl, h4, k4⟩
        obtain ⟨v', w', r5, o5, kk⟩ := appendS_all w4 (O1.out.kept k4) h4 (by have := K3.out.size; have := k4.size; omega) (by have := HBd.out; simp; omega)
        have RR := Lib.hid r5
        have O5 := Lib.hid o5
        have HO1 := O1.out.own
        have K5 := Lib.hid ((K3.out.trans k4 (fun _ _ g => g)).trans kk (fun i hi e => by have := HO1 i e; omega))
        clear h4 k4 r5 o5 kk HO1 c7
        go_wp2_with (at_builtin; refine wpList_append_run rfl (.tmp 32) (.tmp 37) 35 rfl _ _ rfl rfl RR.out ?_)
        go_roundw
        case rel => exact ⟨j + 1, by omega, by go_num, by rw [HN.out]; simpa using O5.out, K5.out⟩
        case measure => simp [intOf]; omega
    · obtain rfl : j = len := by omega
      have HE : Hid (l.take j = l) := Lib.hid (by rw [← HL.out]; simp)
      go_wp2_with fail
      go_ret
      exact ⟨_, rfl, by have := HR.out; rwa [HE.out] at this, HK.out⟩
theorem refPlaces_tree (v : Int) : ∀ s : Sh, s.count ≤ 101 → ∀ ok a cap way w, way.size + countL s.subs ≤ 2000 → Holds cR w ok (.slice a s.subs.length cap) s.subs →
    Calls Try.prog 14 #[.slice a s.subs.length cap, .int .i64 v, .string way] w (PlacesEnd (plcL s.subs 0 v way) w) := by
  refine Sh.ind fun hd subs ih hc ok a cap way w hw h => ?_
  have hc' : 1 + countL subs ≤ 101 := by simpa [Sh.count] using hc
  exact refPlaces_step subs _ rfl (show _ ≤ _ by omega) v (fun hd' sb hx => ih _ hx (by have := count_mem hx; omega)) ok a cap way hw w h
end Go.Proofs.Ytpdofapbbpihlaa
