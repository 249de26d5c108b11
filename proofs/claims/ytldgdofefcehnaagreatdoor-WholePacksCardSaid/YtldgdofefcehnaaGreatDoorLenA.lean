/-
  ROWS OF COINS: two cells a coin; leaves, how many of them, two rows merged. No conditions.
  THE LEAVES OF SYMBOLS THAT COME; TWO ROWS OF COINS MERGED. No conditions.
  TWO ROWS OF COINS MERGED. No conditions.
-/
import Derived.Test.YtldgdofefcehnaaGreatDoorLenM
import Derived.Test.YtldgdofefcehnaaGreatDoorBase
import Derived.OwnWalk
import Derived.WalkSmall
import Derived.Deep.AppendLies
import Derived.Deep.RegionHeld3
import Derived.Deep.QuietTactic
namespace Go.Proofs.YtldgdofefcehnaaGreatDoor
section
open Go.RowKit
set_option maxRecDepth 100000
set_option linter.unusedVariables false
theorem info_coin : (Tryz.prog.info? 175).map (fun i => (i.zero, i.size, i.bytes)) = some (some (.agg #[.int .i64 0, .bool false]), 2, 16) := by kernel_rfl
def cnC : List (Nat × Bool) → List Value
 | [] => []
 | c :: T => .int .i64 ((c.1 : Nat) : Int) :: .bool c.2 :: cnC T
theorem cnC_append (S T : List (Nat × Bool)) : cnC (S ++ T) = cnC S ++ cnC T := by
 induction S with
 | nil => rfl
 | cons c S ih => simp [cnC, ih]
theorem cnC_length (T : List (Nat × Bool)) : (cnC T).length = T.length * 2 := by
 induction T with
 | nil => rfl
 | cons c T ih => simp only [cnC, List.length_cons, ih]; omega
theorem cnC_one (T : List (Nat × Bool)) : ∀ u ∈ cnC T, u.oneCell' = true := by
 induction T with
 | nil => intro u hu; cases hu
 | cons c T ih =>
  intro u hu
  simp only [cnC, List.mem_cons] at hu
  rcases hu with rfl | rfl | hu
  ·rfl
  ·rfl
  ·exact ih u hu
def cw (T : List (Nat × Bool)) (k : Nat) : Nat := (T.getD k (0, false)).1
def cq (T : List (Nat × Bool)) (k : Nat) : Bool := (T.getD k (0, false)).2
theorem cnC_at (T : List (Nat × Bool)) : ∀ k, k < T.length → (cnC T)[k * 2]? = some (.int .i64 (cw T k : Nat)) ∧ (cnC T)[k * 2 + 1]? = some (.bool (cq T k)) := by
 induction T with
 | nil => intro k h; exact absurd h (Nat.not_lt_zero k)
 | cons c T ih =>
  intro k hk
  cases k with
  | zero => exact ⟨rfl, rfl⟩
  | succ k =>
   have h := ih k (by simpa using hk)
   rw [show (k + 1) * 2 = k * 2 + 1 + 1 by omega]
   exact h
theorem cnC_ext {L : List Value} {T : List (Nat × Bool)} (hl : L.length = T.length * 2) (h : ∀ k, k < T.length → L[k * 2]? = some (.int .i64 (cw T k : Nat)) ∧ L[k * 2 + 1]? = some (.bool (cq T k))) : L = cnC T := by
 refine List.ext_getElem? fun j => ?_
 by_cases hj : j < T.length * 2
 ·have h1 := h (j / 2) (by omega)
  have h2 := cnC_at T (j / 2) (by omega)
  rcases Nat.mod_two_eq_zero_or_one j with e | e
  ·rw [show j = j / 2 * 2 by omega, h1.1, h2.1]
  ·rw [show j = j / 2 * 2 + 1 by omega, h1.2, h2.2]
 ·rw [List.getElem?_eq_none (by omega), List.getElem?_eq_none (by rw [cnC_length]; omega)]
structure CRow (w : World) (O : Option Addr) (n : Nat) (f : Nat → Nat) (q : Nat → Bool) : Prop where
 cells : 0 < n → ∃ b off, O = some ⟨b, off, none⟩ ∧ b < w.heap.size ∧ ∀ k, k < n → w.cell? ⟨b, off + k * 2, none⟩ = some (.int .i64 (f k : Nat)) ∧ w.cell? ⟨b, off + k * 2 + 1, none⟩ = some (.bool (q k))
namespace CRow
variable {w w' : World} {O : Option Addr} {n : Nat} {f : Nat → Nat} {q : Nat → Bool}
theorem at_ (h : CRow w O n f q) {k : Nat} (hk : k < n) : ∃ b off, O = some ⟨b, off, none⟩ ∧ b < w.heap.size ∧ w.cell? ⟨b, off + k * 2, none⟩ = some (.int .i64 (f k : Nat)) ∧ w.cell? ⟨b, off + k * 2 + 1, none⟩ = some (.bool (q k)) := by
 obtain ⟨b, off, e, hb, hc⟩ := h.cells (by omega)
 exact ⟨b, off, e, hb, (hc k hk).1, (hc k hk).2⟩
theorem below (h : CRow w O n f q) (hb : Below w.heap.size w w') : CRow w' O n f q := ⟨fun hn => by
 obtain ⟨b, off, e, hl, hc⟩ := h.cells hn
 exact ⟨b, off, e, by have := hb.size; omega, fun k hk => ⟨(hb.cell (p := ⟨b, off + k * 2, none⟩) hl).trans (hc k hk).1, (hb.cell (p := ⟨b, off + k * 2 + 1, none⟩) hl).trans (hc k hk).2⟩⟩⟩
theorem nil_ (w : World) (O : Option Addr) (f : Nat → Nat) (q : Nat → Bool) : CRow w O 0 f q := ⟨fun h => absurd h (by omega)⟩
theorem few (h : CRow w O n f q) {m : Nat} (hm : m ≤ n) : CRow w O m f q := ⟨fun h0 => by
 obtain ⟨b, off, e, hl, hc⟩ := h.cells (by omega)
 exact ⟨b, off, e, hl, fun k hk => hc k (by omega)⟩⟩
theorem ofOwn {base g c : Nat} {T : List (Nat × Bool)} (h : w.ownsRow base 175 2 (.slice (some ⟨g, 0, none⟩) n c) n (cnC T)) : CRow w (some ⟨g, 0, none⟩) n (cw T) (cq T) := ⟨fun hn => by
 have hl := h.1
 rw [cnC_length] at hl
 obtain ⟨g', cap, hv, _, hlt⟩ := h.form hn
 injection hv with hv1 _ _
 injection hv1 with hv1
 injection hv1 with hv1
 subst hv1
 refine ⟨g, 0, rfl, hlt, fun k hk => ?_⟩
 have h1 := cnC_at T k (by omega)
 rw [Nat.zero_add]
 exact ⟨(h.cellAt (k * 2) (by omega)).trans h1.1, (h.cellAt (k * 2 + 1) (by omega)).trans h1.2⟩⟩
end CRow
theorem some_atV {L : List Value} {j : Nat} (h : j < L.length) : ∃ v, L[j]? = some v := ⟨L[j], List.getElem?_eq_getElem h⟩
theorem lcn_take_succ (T : List (Nat × Bool)) (k : Nat) (h : k < T.length) : lcn (T.take (k + 1)) = lcn (T.take k) + if cq T k then 1 else 0 := by
 unfold lcn cq
 rw [List.take_succ_eq_append_getElem h, List.countP_append, List.getD_eq_getElem?_getD, List.getElem?_eq_getElem h]
 simp [List.countP_cons]
set_option maxHeartbeats 1000000 in
theorem countLeaves_c (O : Option Addr) (n c : Nat) (T : List (Nat × Bool)) (w : World) (h : CRow w O n (cw T) (cq T)) (hn : n ≤ T.length) (hmax : n ≤ 100000) :
  Calls Tryz.prog 123 #[.slice O n c] w fun e w' => e = .returned (.int .i64 (lcn (T.take n) : Nat)) ∧ Below w.heap.size w w' := by
 go_enter Tryz.func123, Tryz.ntmps123
 go_wp2
 go_loopw [3, 8] (fun cc i wr => ∃ k x : Nat, k ≤ n ∧ x ≤ k ∧ i = .int .i64 k ∧ cc = .int .i64 x ∧ Hid (x = lcn (T.take k)) ∧ Below w.heap.size w wr) (fun _ i _ => n - (intOf i).toNat)
 case atStart => exact ⟨0, 0, by omega, by omega, rfl, rfl, rfl, Below.refl _ _⟩
 case round =>
  obtain ⟨k, x, hk, hx, rfl, rfl, hl, hbel⟩ := hrel
  by_cases hlt : k < n
  ·have hkn : (k : Int) < n := by omega
   obtain ⟨b, off, rfl, hb, h1, h2⟩ := (h.below hbel).at_ hlt
   have HS := Lib.hid (lcn_take_succ T k (by omega))
   cases hq : cq T k with
   | true =>
    rw [hq] at h2 HS
    have HQ := Lib.hid hq
    clear hq
    go_wp2
    go_roundw
    case rel => exact ⟨k + 1, x + 1, by omega, by omega, by go_num, by go_num, by unfold Hid; rw [HS.out, hl.out]; rfl, hbel.alloc hbel.size _⟩
    case measure => simp [intOf]; omega
   | false =>
    rw [hq] at h2 HS
    have HQ := Lib.hid hq
    clear hq
    go_wp2
    go_roundw
    case rel => exact ⟨k + 1, x, by omega, by omega, by go_num, rfl, by unfold Hid; rw [HS.out, hl.out]; rfl, hbel.alloc hbel.size _⟩
    case measure => simp [intOf]; omega
  ·obtain rfl : k = n := by omega
   have hkn : ¬ (k : Int) < (k : Int) := by omega
   go_wp2
   go_ret
   rw [hl.out]
   exact ⟨rfl, hbel⟩
end
section
open Go.RowKit
set_option maxRecDepth 100000
set_option linter.unusedVariables false
def wtsL (fr l : List Int) : Nat → List Nat
 | 0 => []
 | k + 1 => wtsL fr l k ++ [(gi fr (gi l k).toNat).toNat]
theorem wtsL_length (fr l : List Int) (k : Nat) : (wtsL fr l k).length = k := by
 induction k with
 | zero => rfl
 | succ k ih => simp [wtsL, ih]
theorem wtsL_at (fr l : List Int) {i k : Nat} (h : i < k) : (wtsL fr l k).getD i 0 = (gi fr (gi l i).toNat).toNat := by
 induction k with
 | zero => omega
 | succ k ih =>
  have hl := wtsL_length fr l k
  unfold wtsL
  rw [List.getD_eq_getElem?_getD]
  by_cases hi : i < k
  ·rw [List.getElem?_append_left (by omega), ← List.getD_eq_getElem?_getD]
   exact ih hi
  ·obtain rfl : i = k := by omega
   rw [List.getElem?_append_right (by omega), hl, Nat.sub_self]
   rfl
def lvs (W : List Nat) : List (Nat × Bool) := W.map (·, true)
def pks (P : List Nat) : List (Nat × Bool) := P.map (·, false)
def wt (W : List Nat) (k : Nat) : Nat := W.getD k 0
theorem lvs_length (W : List Nat) : (lvs W).length = W.length := by simp [lvs]
theorem lvs_at (W : List Nat) {k : Nat} (h : k < W.length) : cw (lvs W) k = wt W k ∧ cq (lvs W) k = true := by
 unfold cw cq lvs wt
 simp [List.getD_eq_getElem?_getD, h]
theorem pks_at (W : List Nat) {k : Nat} (h : k < W.length) : cw (pks W) k = wt W k ∧ cq (pks W) k = false := by
 unfold cw cq pks wt
 simp [List.getD_eq_getElem?_getD, h]
theorem CRow.lvs {w : World} {O : Option Addr} {n : Nat} {W : List Nat} (h : CRow w O n (cw (lvs W)) (cq (lvs W))) (hn : n ≤ W.length) : CRow w O n (wt W) (fun _ => true) := ⟨fun h0 => by
 obtain ⟨b, off, e, hl, hc⟩ := h.cells h0
 refine ⟨b, off, e, hl, fun k hk => ?_⟩
 have h1 := hc k hk
 have h2 := lvs_at W (k := k) (by omega)
 rw [h2.1, h2.2] at h1
 exact h1⟩
theorem CRow.pks {w : World} {O : Option Addr} {n : Nat} {W : List Nat} (h : CRow w O n (cw (pks W)) (cq (pks W))) (hn : n ≤ W.length) : CRow w O n (wt W) (fun _ => false) := ⟨fun h0 => by
 obtain ⟨b, off, e, hl, hc⟩ := h.cells h0
 refine ⟨b, off, e, hl, fun k hk => ?_⟩
 have h1 := hc k hk
 have h2 := pks_at W (k := k) (by omega)
 rw [h2.1, h2.2] at h1
 exact h1⟩
set_option maxHeartbeats 2000000 in
theorem leavesOf_c (FA : Option Addr) (n cf : Nat) (fr : List Int) (O : Option Addr) (m co : Nat) (l : List Int) (w : World) (hf : IRow w FA n .i64 fr) (hl : IRow w O m .i64 l) (hm : m ≤ 400) (hin : ∀ i, i < m → 0 ≤ gi l i ∧ gi l i < n) (hpos : ∀ i, i < n → 0 ≤ gi fr i) :
  Calls Tryz.prog 75 #[.slice FA n cf, .slice O m co] w fun e w' => e = .returned (.slice (some ⟨w.heap.size, 0, none⟩) m m) ∧ w'.ownsRow w.heap.size 175 2 (.slice (some ⟨w.heap.size, 0, none⟩) m m) m (cnC (lvs (wtsL fr l m))) ∧ Below w.heap.size w w' := by
 obtain ⟨i0, hi, hz0, hz1, hz2⟩ := info_parts info_coin
 have HIN := Lib.hid hin
 have HPOS := Lib.hid hpos
 clear hin hpos
 have hn0 := hf.max'
 go_enter Tryz.func75, Tryz.ntmps75
 go_wp2_with (at_make; refine wpList_make_full _ rfl _ _ 117 rfl w.heap.size 175 i0 (.agg #[.int .i64 0, .bool false]) 2 Tryz.underlying117 hi hz0 hz1 _ _ _ _ m rfl rfl rfl rfl (by rw [hz2]; omega) (by unfold maxLen; omega) (Nat.le_refl _) ?_; intro w0 hown0 hgrow0)
 go_wp2
 obtain ⟨L0, hL0⟩ : ∃ L0, L0 = (madeCells (Value.agg #[.int .i64 0, .bool false]).cells (m * 2)).toList := ⟨_, rfl⟩
 rw [← hL0] at hown0
 clear hL0
 go_loopw [13] (fun i wr => ∃ (k : Nat) (L : List Value), k ≤ m ∧ i = .int .i64 k ∧ wr.ownsRow w.heap.size 175 2 (.slice (some ⟨w.heap.size, 0, none⟩) m m) m L ∧
  Hid (∀ j, j < k → L[j * 2]? = some (.int .i64 ((gi fr (gi l j).toNat).toNat : Nat)) ∧ L[j * 2 + 1]? = some (.bool true)) ∧ Below w.heap.size w wr) (fun i _ => m - (intOf i).toNat)
 case atStart => exact ⟨0, L0, by omega, rfl, hown0, fun j hj => by omega, (Below.refl _ _).grown hgrow0 (Nat.le_refl _) (fun k h => by cases h)⟩
 case round =>
  obtain ⟨k, L, hk, rfl, hown, hC, hbel⟩ := hrel
  by_cases hlt : k < m
  ·have hkn : (k : Int) < m := by omega
   obtain ⟨b1, o1, rfl, l1, h1⟩ := (hl.below hbel).at_ hlt
   obtain ⟨s, hs⟩ : ∃ s : Nat, gi l k = (s : Int) := ⟨(gi l k).toNat, by have := (HIN.out k hlt).1; omega⟩
   have hsn : s < n := by have := (HIN.out k hlt).2; omega
   obtain ⟨b2, o2, rfl, l2, h2⟩ := (hf.below hbel).at_ hsn
   obtain ⟨x, hx⟩ : ∃ x : Nat, gi fr s = (x : Int) := ⟨(gi fr s).toNat, by have := HPOS.out s hsn; omega⟩
   have hxx : (gi fr (gi l k).toNat).toNat = x := by rw [hs]; simp only [Int.toNat_natCast]; rw [hx]; simp
   rw [hs] at h1
   rw [hx] at h2
   have HX := Lib.hid hxx
   have hsi : (s : Int) < n := by omega
   have hLl : L.length = m * 2 := hown.1
   obtain ⟨v0, hv0⟩ := some_atV (L := L) (j := k * 2) (by omega)
   obtain ⟨v1, hv1⟩ := some_atV (L := L) (j := k * 2 + 1) (by omega)
   have c0 := (hown.cellAt (k * 2) (by omega)).trans hv0
   have c1 := (hown.cellAt (k * 2 + 1) (by omega)).trans hv1
   have f0 := hown.frozenAt (k * 2)
   have f1 := hown.frozenAt (k * 2 + 1)
   have s0 := (hown.stored (k * 2) (.int .i64 (x : Nat))).1
   have s1 := Lib.hid (s0.stored (k * 2 + 1) (.bool true)).1
   have HC2 : Hid (∀ j, j < k + 1 → ((L.set (k * 2) (.int .i64 (x : Nat))).set (k * 2 + 1) (.bool true))[j * 2]? = some (.int .i64 ((gi fr (gi l j).toNat).toNat : Nat)) ∧ ((L.set (k * 2) (.int .i64 (x : Nat))).set (k * 2 + 1) (.bool true))[j * 2 + 1]? = some (.bool true)) := by
    intro j hj
    simp only [List.getElem?_set]
    rcases Nat.lt_or_ge j k with h3 | h3
    ·obtain ⟨d0, d1⟩ := hC.out j h3
     simp only [show ¬ (k * 2 + 1 = j * 2) by omega, show ¬ (k * 2 = j * 2) by omega, show ¬ (k * 2 + 1 = j * 2 + 1) by omega, show ¬ (k * 2 = j * 2 + 1) by omega, if_false]
     exact ⟨d0, d1⟩
    ·obtain rfl : j = k := by omega
     rw [HX.out]
     simp only [List.length_set, show ¬ (j * 2 + 1 = j * 2) by omega, show ¬ (j * 2 = j * 2 + 1) by omega, if_false, if_true, show j * 2 < L.length by omega, show j * 2 + 1 < L.length by omega]
     exact ⟨trivial, trivial⟩
   have HB3 : Hid (Below w.heap.size w ((wr.setCell ⟨w.heap.size, k * 2, none⟩ (.int .i64 (x : Nat))).setCell ⟨w.heap.size, k * 2 + 1, none⟩ (.bool true))) :=
    Below.setCell (hbel.setCell (Nat.le_refl _) _) (Nat.le_refl _) _
   clear hv0 hv1 s0 hLl hC hs hx hxx
   go_wp2
   go_roundw
   case rel => exact ⟨k + 1, _, by omega, by go_num, s1.out, HC2, HB3.out⟩
   case measure => simp [intOf]; omega
  ·obtain rfl : k = m := by omega
   have hkn : ¬ (k : Int) < (k : Int) := by omega
   have hfin : Hid (L = cnC (lvs (wtsL fr l k))) := by
    have hwl := wtsL_length fr l k
    refine cnC_ext (by rw [hown.1, lvs_length, hwl]) fun j hj => ?_
    rw [lvs_length, hwl] at hj
    obtain ⟨e1, e2⟩ := lvs_at (wtsL fr l k) (k := j) (by omega)
    rw [e1, e2]
    unfold wt
    rw [wtsL_at fr l hj]
    exact hC.out j hj
   go_wp2
   go_ret
   rw [hfin.out] at hown
   exact ⟨rfl, hown, hbel⟩
end
section
open Go.RowKit
set_option maxRecDepth 100000
set_option linter.unusedVariables false
theorem merge_leaf {W P : List Nat} {R : List (Nat × Bool)} {i k : Nat} (hi : i < W.length) (hle : k < P.length → wt W i ≤ wt P k) (h : R ++ mergeC (W.drop i) (P.drop k) = mergeC W P) : (R ++ [(wt W i, true)]) ++ mergeC (W.drop (i + 1)) (P.drop k) = mergeC W P := by
 rw [← h, List.append_assoc]
 congr 1
 have e1 : W.drop i = wt W i :: W.drop (i + 1) := by
  rw [List.drop_eq_getElem_cons hi]
  congr 1
  unfold wt
  simp [List.getD_eq_getElem?_getD, hi]
 rw [e1]
 by_cases hk : k < P.length
 ·have e2 : P.drop k = wt P k :: P.drop (k + 1) := by
   rw [List.drop_eq_getElem_cons hk]
   congr 1
   unfold wt
   simp [List.getD_eq_getElem?_getD, hk]
  rw [e2, mergeC_cons, if_pos (hle hk)]
  rfl
 ·rw [List.drop_of_length_le (show P.length ≤ k by omega), mergeC_nil2, mergeC_nil2]
  rfl
theorem merge_pack {W P : List Nat} {R : List (Nat × Bool)} {i k : Nat} (hk : k < P.length) (hgt : i < W.length → ¬ wt W i ≤ wt P k) (h : R ++ mergeC (W.drop i) (P.drop k) = mergeC W P) : (R ++ [(wt P k, false)]) ++ mergeC (W.drop i) (P.drop (k + 1)) = mergeC W P := by
 rw [← h, List.append_assoc]
 congr 1
 have e2 : P.drop k = wt P k :: P.drop (k + 1) := by
  rw [List.drop_eq_getElem_cons hk]
  congr 1
  unfold wt
  simp [List.getD_eq_getElem?_getD, hk]
 rw [e2]
 by_cases hi : i < W.length
 ·have e1 : W.drop i = wt W i :: W.drop (i + 1) := by
   rw [List.drop_eq_getElem_cons hi]
   congr 1
   unfold wt
   simp [List.getD_eq_getElem?_getD, hi]
  rw [e1, mergeC_cons, if_neg (hgt hi)]
  rfl
 ·rw [List.drop_of_length_le (show W.length ≤ i by omega), mergeC_nil, mergeC_nil]
  rfl
theorem merge_rest {W P : List Nat} {R : List (Nat × Bool)} {i : Nat} (h : R ++ mergeC (W.drop i) (P.drop P.length) = mergeC W P) : R ++ lvs (W.drop i) = mergeC W P := by
 rw [List.drop_length, mergeC_nil2] at h
 exact h
theorem two_cells (w : World) (x : Nat) (q : Bool) : ∀ j u, (cnC [(x, q)])[j]? = some u → (w.alloc (.cells #[.int .i64 (x : Nat), .bool q] 175)).cell? ((⟨w.heap.size, 0, none⟩ : Addr).add j) = some u := by
 have h := World.news_of_block (cs := #[.int .i64 (x : Nat), .bool q]) (t := 175) (fr := (0, 0)) (heap_alloc_new w (.cells #[.int .i64 (x : Nat), .bool q] 175))
 exact h
theorem gg_ne {g gg p H c t : Nat} (hat : (Value.slice (some ⟨g, 0, none⟩) t c).ownBlock = some gg ∨ gg = H) (h1 : g ≠ p) (h2 : p < H) : gg ≠ p := by
 rcases hat with h | h
 ·have h3 : g = gg := by simpa [Value.ownBlock] using h
  omega
 ·omega
set_option maxHeartbeats 8000000 in
theorem merged_c (b off n : Nat) (W : List Nat) (B : Option Addr) (m cb : Nat) (P : List Nat) (w : World) (hA : CRow w (some ⟨b, off, none⟩) n (wt W) (fun _ => true)) (hb : b < w.heap.size) (hB : CRow w B m (wt P) (fun _ => false))
  (hWn : n = W.length) (hPm : m = P.length) (hn : n ≤ 400) (hm : m ≤ 800) :
  Calls Tryz.prog 158 #[.slice (some ⟨b, off, none⟩) n n, .slice B m cb] w fun e w' => ∃ g c, e = .returned (.slice (some ⟨g, 0, none⟩) (n + m) c) ∧ w'.ownsRow w.heap.size 175 2 (.slice (some ⟨g, 0, none⟩) (n + m) c) (n + m) (cnC (mergeC W P)) ∧ Below w.heap.size w w' := by
 obtain ⟨i0, hi, hz0, hz1, hz2⟩ := info_parts info_coin
 have HWN := Lib.hid hWn
 have HPM := Lib.hid hPm
 clear hWn hPm
 obtain ⟨N, hN⟩ : ∃ N, N = n + m := ⟨_, rfl⟩
 rw [← hN]
 have HNI : Hid ((n : Int) + (m : Int) = (N : Int)) := by unfold Hid; omega
 have HN := Lib.hid hN
 have hN9 : N ≤ 1200 := by omega
 clear hN
 go_enter Tryz.func158, Tryz.ntmps158
 go_wp2_with (at_make; refine wpList_make_own _ rfl _ _ 117 rfl w.heap.size 175 i0 (.agg #[.int .i64 0, .bool false]) 2 Tryz.underlying117 hi hz0 hz1 _ _ _ N rfl rfl HNI.out (by rw [hz2]; omega) (by unfold maxLen; omega) (Nat.le_refl _) ?_; intro w0 hown0 hgrow0)
 go_wp2
 go_loopw [0, 5, 16] (fun va vr vk wr => ∃ (k i r o g c t : Nat) (R : List (Nat × Bool)), k ≤ m ∧ Hid (i + r = n) ∧ r ≤ n ∧ va = .slice (some ⟨b, o, none⟩) r r ∧ Hid (0 < r → o = off + i * 2) ∧
   vr = .slice (some ⟨g, 0, none⟩) t c ∧ Hid (t = i + k) ∧ t ≤ N ∧ vk = .int .i64 k ∧ wr.ownsRow w.heap.size 175 2 (.slice (some ⟨g, 0, none⟩) t c) t (cnC R) ∧ Hid (R ++ mergeC (W.drop i) (P.drop k) = mergeC W P) ∧ Below w.heap.size w wr)
  (fun _ _ vk _ => m - (intOf vk).toNat)
 case atStart => exact ⟨0, 0, n, off, w.heap.size, N, 0, [], by omega, by unfold Hid; omega, Nat.le_refl _, rfl, fun _ => by omega, rfl, rfl, by omega, rfl, hown0, rfl, (Below.refl _ _).grown hgrow0 (Nat.le_refl _) (fun k h => by cases h)⟩
 case round =>
  obtain ⟨k, i, r, o, g, c, t, R, hk, hir, hrn, rfl, ho, rfl, ht, htN, rfl, hown, hR, hbel⟩ := hrel
  by_cases hlt : k < m
  ·have hkn : (k : Int) < m := by omega
   obtain ⟨b1, o1, rfl, l1, h1, h2⟩ := (hB.below hbel).at_ hlt
   obtain ⟨y, hy⟩ : ∃ y, y = wt P k := ⟨_, rfl⟩
   rw [← hy] at h1
   have HY := Lib.hid hy
   clear hy
   go_wp2
   obtain ⟨wp, hwp⟩ : ∃ wp, wp = wr.alloc (.cells #[.int .i64 (y : Nat), .bool false] 175) := ⟨_, rfl⟩
   obtain ⟨p, hp⟩ : ∃ p, p = wr.heap.size := ⟨_, rfl⟩
   have hblk0 : Blk wp p 175 #[.int .i64 (y : Nat), .bool false] := by rw [hwp, hp]; exact Blk.new _ _ _
   have hbelp : Below w.heap.size w wp := by rw [hwp]; exact hbel.alloc hbel.size _
   have hownp : wp.ownsRow w.heap.size 175 2 (.slice (some ⟨g, 0, none⟩) t c) t (cnC R) := by rw [hwp]; exact hown.alloc _
   have hgp : g < p := by
    have := hown.lt g rfl
    omega
   have hpw : p < wp.heap.size := by rw [hwp, hp]; simp
   have hwp0 : w.heap.size ≤ p := by rw [hp]; exact hbel.size
   rw [← hwp, ← hp]
   clear hwp hp
   go_loopw [0, 5] (fun va vr wr => ∃ (i r o g c t : Nat) (R : List (Nat × Bool)), Hid (i + r = n) ∧ r ≤ n ∧ va = .slice (some ⟨b, o, none⟩) r r ∧ Hid (0 < r → o = off + i * 2) ∧
     vr = .slice (some ⟨g, 0, none⟩) t c ∧ Hid (t = i + k) ∧ t ≤ N ∧ g ≠ p ∧ wr.ownsRow w.heap.size 175 2 (.slice (some ⟨g, 0, none⟩) t c) t (cnC R) ∧ Hid (R ++ mergeC (W.drop i) (P.drop k) = mergeC W P) ∧ Below w.heap.size w wr ∧
     Blk wr p 175 #[.int .i64 (y : Nat), .bool false] ∧ p < wr.heap.size)
    (fun va _ _ => match va with | .slice _ r _ => r | _ => 0)
   case atStart => exact ⟨i, r, o, g, c, t, R, hir, hrn, rfl, ho, rfl, ht, htN, by omega, hownp, hR, hbelp, hblk0, hpw⟩
   case round =>
    clear hown hbel h1 h2 hownp hbelp hblk0 hgp hpw hir hrn ho ht htN hR
    obtain ⟨i, r, o, g, c, t, R, hir, hrn, rfl, ho, rfl, ht, htN, hgp, hown, hR, hbel, hblk, hpw⟩ := hrel
    have d0 := hblk.cell 0
    have d1 := hblk.cell 1
    simp at d0 d1
    by_cases hr0 : 0 < r
    ·have hri : (0 : Int) < (r : Int) := by omega
     have hiW : i < W.length := by have := hir.out; have := HWN.out; omega
     obtain ⟨b', off', e1, _, h3, h4⟩ := (hA.below hbel).at_ (k := i) (by have := hir.out; omega)
     injection e1 with e1
     injection e1 with e1 e2
     subst e1 e2
     rw [← ho.out hr0] at h3 h4
     obtain ⟨x, hx⟩ : ∃ x, x = wt W i := ⟨_, rfl⟩
     rw [← hx] at h3
     by_cases hxy : x ≤ y
     ·have hxi : (x : Int) ≤ (y : Int) := by omega
      have hRn := Lib.hid (merge_leaf hiW (fun _ => by rw [← hx, ← HY.out]; exact hxy) hR.out)
      rw [← hx] at hRn
      clear hx
      obtain ⟨r', hr'⟩ : ∃ r', r = r' + 1 := ⟨r - 1, by omega⟩
      have hsub : (r : Int) - 1 = (r' : Int) := by omega
      have hrr : r - 1 = r' := by omega
      have hr1 : 1 ≤ r := by omega
      have hr1i : (1 : Int) ≤ (r : Int) := by omega
      have HRR := Lib.hid hr'
      clear hr'
      have hbw : b < w.heap.size := hb
      go_wp2
      go_quiet (fail)
      go_wp2
      have ag1 : some b ≠ (Value.slice (some ⟨g, 0, none⟩) t c).ownBlock := fun e => by have := (hown.lt b e.symm).1; omega
      have ag2 : some p ≠ (Value.slice (some ⟨g, 0, none⟩) t c).ownBlock := fun e => by injection e with e; exact hgp e.symm
      have hown' : (wr.drewN nq).ownsRow w.heap.size 175 2 (.slice (some ⟨g, 0, none⟩) t c) t (cnC R) := hown
      have hbel' := below_drewN hbel nq
      have hblk' : Blk (wr.drewN nq) p 175 #[.int .i64 (y : Nat), .bool false] := hblk
      have hpw' : p < (wr.drewN nq).heap.size := hpw
      have h3' : (wr.drewN nq).cell? ⟨b, o, none⟩ = some (.int .i64 (x : Nat)) := h3
      have h4' : (wr.drewN nq).cell? ⟨b, o + 1, none⟩ = some (.bool true) := h4
      have lW : w.heap.size ≤ (wr.drewN nq).heap.size := hbel'.size
      clear hown hbel hblk hpw h3 h4 d0 d1
      generalize wr.drewN nq = V at *
      have HT : Hid (t + 1 = i + 1 + k) := by have := ht.out; unfold Hid; omega
      have HI : Hid (i + 1 + r' = n) := by have := hir.out; have := HRR.out; unfold Hid; omega
      have HO : Hid (o + 2 = off + (i + 1) * 2) := by have := ho.out hr0; unfold Hid; omega
      have htN' : t + 1 ≤ N := by have := HT.out; have := HN.out; have := HI.out; omega
      by_cases hz : r' = 0
      ·have HZ := Lib.hid hz
       have hz1 : r - 1 = 0 := by omega
       obtain rfl : r = 1 := by have := HRR.out; omega
       clear hz hrr hr0 hri hr1 hr1i hrn hsub hz1
       go_region_held3 (fun w' => w'.cell? ⟨b, o, none⟩ = some (.int .i64 (x : Nat)) ∧ w'.cell? ⟨b, o + 1, none⟩ = some (.bool true))
        (first
         | go_keep
         | (go_split_ands
            refine ⟨?_, ?_⟩
            ·(rw [hgrow.cell_far _ (by simp; omega) ag1]; assumption)
            ·(rw [hgrow.cell_far _ (by simp; omega) ag1]; assumption)))
        ((refine step_append_lies _ (by rfl) _ _ _ (by rfl) w.heap.size 175 i0 _ 2 16 Tryz.underlying117 hi hz0 hz1 hz2 rfl (by decide) (.slice (some ⟨g, 0, none⟩) t c) t (cnC R) (by rfl) ((hown'.alloc _).drew)
            ⟨V.heap.size, 0, none⟩ 1 1 (cnC [(x, true)]) (by rfl) (by rfl) (two_cells V x true) (cnC_one _)
            (by omega) (by unfold maxLen; omega) (by omega) (by simp; omega) (V.heap.size + 1) (by simp) ?_; intro gg cap w5 hown5 hgrow hat hlt5))
       go_wp2
       go_roundw
       case rel => exact ⟨i + 1, 0, _, gg, cap, t + 1, R ++ [(x, true)], by have := HI.out; have := HZ.out; unfold Hid; omega, Nat.zero_le _, rfl, fun h => absurd h (by omega), by go_num, HT, htN', gg_ne hat hgp (by omega), by rw [cnC_append]; exact hown5, hRn, ((hbel'.alloc lW _).drew).grown hgrow (by simp; omega) (fun k hk => by cases hk; exact (hown'.lt _ rfl).1), Blk.kept ((hblk'.below hpw' ((Below.refl _ V).alloc (Nat.le_refl _) _)).drew) hgrow ⟨by simp; omega, fun e => by injection e with e; exact hgp e⟩, by have := hgrow.size; simp at this; omega⟩
       case measure => exact Nat.zero_lt_one
      ·have hzz : ¬ (r - 1 = 0) := by have := HRR.out; omega
       have hzz1 : ¬ (r = 1) := by omega
       go_region_held3 (fun w' => w'.cell? ⟨b, o, none⟩ = some (.int .i64 (x : Nat)) ∧ w'.cell? ⟨b, o + 1, none⟩ = some (.bool true))
        (first
         | go_keep
         | (go_split_ands
            refine ⟨?_, ?_⟩
            ·(rw [hgrow.cell_far _ (by simp; omega) ag1]; assumption)
            ·(rw [hgrow.cell_far _ (by simp; omega) ag1]; assumption)))
        ((refine step_append_lies _ (by rfl) _ _ _ (by rfl) w.heap.size 175 i0 _ 2 16 Tryz.underlying117 hi hz0 hz1 hz2 rfl (by decide) (.slice (some ⟨g, 0, none⟩) t c) t (cnC R) (by rfl) ((hown'.alloc _).drew)
            ⟨V.heap.size, 0, none⟩ 1 1 (cnC [(x, true)]) (by rfl) (by rfl) (two_cells V x true) (cnC_one _)
            (by omega) (by unfold maxLen; omega) (by omega) (by simp; omega) (V.heap.size + 1) (by simp) ?_; intro gg cap w5 hown5 hgrow hat hlt5))
       go_wp2
       go_roundw
       case rel => exact ⟨i + 1, r', o + 2, gg, cap, t + 1, R ++ [(x, true)], HI, by have := HRR.out; omega, by go_num, fun _ => HO.out, by go_num, HT, htN', gg_ne hat hgp (by omega), by rw [cnC_append]; exact hown5, hRn, ((hbel'.alloc lW _).drew).grown hgrow (by simp; omega) (fun k hk => by cases hk; exact (hown'.lt _ rfl).1), Blk.kept ((hblk'.below hpw' ((Below.refl _ V).alloc (Nat.le_refl _) _)).drew) hgrow ⟨by simp; omega, fun e => by injection e with e; exact hgp e⟩, by have := hgrow.size; simp at this; omega⟩
       case measure => have := HRR.out; show r' < r; omega
     ·have hxi : ¬ (x : Int) ≤ (y : Int) := by omega
      have hRn := Lib.hid (merge_pack (k := k) (by have := HPM.out; omega) (fun _ => by rw [← hx, ← HY.out]; exact hxy) hR.out)
      rw [← HY.out] at hRn
      clear hx
      go_wp2
      go_quiet (fail)
      have hown' : (wr.drewN nq).ownsRow w.heap.size 175 2 (.slice (some ⟨g, 0, none⟩) t c) t (cnC R) := hown
      have hbel' := below_drewN hbel nq
      have d0' : (wr.drewN nq).cell? ⟨p, 0, none⟩ = some (.int .i64 (y : Nat)) := d0
      have d1' : (wr.drewN nq).cell? ⟨p, 1, none⟩ = some (.bool false) := d1
      have lW : w.heap.size ≤ (wr.drewN nq).heap.size := hbel'.size
      have HT : Hid (t + 1 = i + (k + 1)) := by have := ht.out; unfold Hid; omega
      have htN' : t + 1 ≤ N := by have := HT.out; have := HN.out; have := hir.out; omega
      clear hown hbel d0 d1
      generalize wr.drewN nq = V at *
      go_wp2_with (at_builtin; refine wpList_append_lies _ rfl _ _ 117 rfl w.heap.size 175 i0 (.agg #[.int .i64 0, .bool false]) 2 16 Tryz.underlying117 hi hz0 hz1 hz2 rfl (by decide) _ t (cnC R) rfl (hown'.alloc _) ⟨V.heap.size, 0, none⟩ 1 1 (cnC [(y, false)]) rfl rfl (two_cells V y false) (cnC_one _) (by omega) (by unfold maxLen; omega) (by omega) (by simp; omega) _ rfl ?_; intro gg cap w5 hown5 hgrow hat hlt5)
      go_wp2
      go_roundw
      case rel => exact ⟨k + 1, i, r, o, gg, cap, t + 1, R ++ [(y, false)], by omega, hir, hrn, rfl, ho, rfl, HT, htN', by go_num, by rw [cnC_append]; exact hown5, hRn, (hbel'.alloc lW _).grown hgrow (by simp; omega) (fun k hk => by cases hk; exact (hown'.lt _ rfl).1)⟩
      case measure => simp [intOf]; omega
    ·have hri : ¬ (0 : Int) < (r : Int) := by omega
     have hRn := Lib.hid (merge_pack (k := k) (by have := HPM.out; omega) (fun h => by have := hir.out; have := HWN.out; omega) hR.out)
     rw [← HY.out] at hRn
     go_wp2
     go_quiet (fail)
     have hown' : (wr.drewN nq).ownsRow w.heap.size 175 2 (.slice (some ⟨g, 0, none⟩) t c) t (cnC R) := hown
     have hbel' := below_drewN hbel nq
     have d0' : (wr.drewN nq).cell? ⟨p, 0, none⟩ = some (.int .i64 (y : Nat)) := d0
     have d1' : (wr.drewN nq).cell? ⟨p, 1, none⟩ = some (.bool false) := d1
     have lW : w.heap.size ≤ (wr.drewN nq).heap.size := hbel'.size
     have HT : Hid (t + 1 = i + (k + 1)) := by have := ht.out; unfold Hid; omega
     have htN' : t + 1 ≤ N := by have := HT.out; have := HN.out; have := hir.out; omega
     clear hown hbel d0 d1
     generalize wr.drewN nq = V at *
     go_wp2_with (at_builtin; refine wpList_append_lies _ rfl _ _ 117 rfl w.heap.size 175 i0 (.agg #[.int .i64 0, .bool false]) 2 16 Tryz.underlying117 hi hz0 hz1 hz2 rfl (by decide) _ t (cnC R) rfl (hown'.alloc _) ⟨V.heap.size, 0, none⟩ 1 1 (cnC [(y, false)]) rfl rfl (two_cells V y false) (cnC_one _) (by omega) (by unfold maxLen; omega) (by omega) (by simp; omega) _ rfl ?_; intro gg cap w5 hown5 hgrow hat hlt5)
     go_wp2
     go_roundw
     case rel => exact ⟨k + 1, i, r, o, gg, cap, t + 1, R ++ [(y, false)], by omega, hir, hrn, rfl, ho, rfl, HT, htN', by go_num, by rw [cnC_append]; exact hown5, hRn, (hbel'.alloc lW _).grown hgrow (by simp; omega) (fun k hk => by cases hk; exact (hown'.lt _ rfl).1)⟩
     case measure => simp [intOf]; omega
  ·obtain rfl : k = m := by omega
   have hkn : ¬ (k : Int) < (k : Int) := by omega
   have hrest := Lib.hid (merge_rest (by rw [← HPM.out]; exact hR.out))
   have hlen : Hid (t + r = N) := by have := ht.out; have := hir.out; have := HN.out; unfold Hid; omega
   have hdl : (cnC (lvs (W.drop i))).length = r * 2 := by rw [cnC_length, lvs_length, List.length_drop]; have := hir.out; have := HWN.out; omega
   have hnews : ∀ j u, (cnC (lvs (W.drop i)))[j]? = some u → wr.cell? ((⟨b, o, none⟩ : Addr).add j) = some u := by
    intro j u hu
    have hj : j < r * 2 := by rw [← hdl]; exact (List.getElem?_eq_some_iff.1 hu).1
    have hir' := hir.out
    have hWn' := HWN.out
    obtain ⟨b', off', e1, _, h3, h4⟩ := (hA.below hbel).at_ (k := i + j / 2) (by omega)
    injection e1 with e1
    injection e1 with e1 e2
    subst e1 e2
    have ho' := ho.out (by omega)
    have hdd : (lvs (W.drop i)).length = r := by rw [lvs_length, List.length_drop]; omega
    obtain ⟨q1, q2⟩ := cnC_at (lvs (W.drop i)) (j / 2) (by omega)
    obtain ⟨q3, q4⟩ := lvs_at (W.drop i) (k := j / 2) (by rw [List.length_drop]; omega)
    have q5 : wt (W.drop i) (j / 2) = wt W (i + j / 2) := by
     unfold wt
     simp [List.getD_eq_getElem?_getD, List.getElem?_drop]
    have e3 : (⟨b, o, none⟩ : Addr).add j = ⟨b, o + j, none⟩ := by unfold Addr.add; split <;> simp_all
    rw [e3]
    rcases Nat.mod_two_eq_zero_or_one j with e | e
    ·rw [show j = j / 2 * 2 by omega] at hu
     rw [q1, q3, q5] at hu
     rw [show o + j = off + (i + j / 2) * 2 by omega, h3]
     exact hu
    ·rw [show j = j / 2 * 2 + 1 by omega] at hu
     rw [q2, q4] at hu
     rw [show o + j = off + (i + j / 2) * 2 + 1 by omega, h4]
     exact hu
   have HNEWS := Lib.hid hnews
   have HDL := Lib.hid hdl
   clear hnews hdl
   go_wp2_with (at_builtin; refine wpList_append_own _ rfl _ _ 117 rfl w.heap.size 175 i0 (.agg #[.int .i64 0, .bool false]) 2 16 Tryz.underlying117 hi hz0 hz1 hz2 rfl (by decide) _ t (cnC R) rfl hown ⟨b, o, none⟩ r r (cnC (lvs (W.drop i))) rfl HDL.out HNEWS.out (cnC_one _) (by unfold maxLen; omega) (by omega) hbel.size ?_; intro v' w1 hown1 hgrow hnil)
   obtain ⟨g1, c1, hv⟩ : ∃ g1 c1, v' = .slice (some ⟨g1, 0, none⟩) (t + r) c1 := by
    rcases hown1.2 with ⟨hv, _⟩ | ⟨g', cap', cur, hv, _⟩
    ·exact absurd (hnil.1 hv).1 (by intro h; cases h)
    ·exact ⟨g', cap', hv⟩
   subst hv
   go_wp2
   go_ret
   rw [hlen.out, ← cnC_append, hrest.out] at hown1
   rw [hlen.out]
   exact ⟨g1, c1, rfl, hown1, hbel.grown hgrow hbel.size (fun k hk => by cases hk; exact (hown.lt _ rfl).1)⟩
end
end Go.Proofs.YtldgdofefcehnaaGreatDoor
