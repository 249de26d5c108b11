/-
  ROWS OF COINS: two cells a coin; leaves, how many of them, two rows merged. No conditions.
-/
import Derived.Test.YtfnjjeopojdnjaaLenM
import Derived.Test.YtfnjjeopojdnjaaNum
import Derived.Test.YtfnjjeopojdnjaaRowOut
import Derived.OwnWalk
import Derived.WalkSmall
import Derived.Deep.AppendLies
namespace Go.Proofs.Ytfnjjeopojdnjaa
open Go.RowKit
set_option maxRecDepth 100000
set_option linter.unusedVariables false

theorem info_coin : (Try.prog.info? 51).map (fun i => (i.zero, i.size, i.bytes)) = some (some (.agg #[.int .i64 0, .bool false]), 2, 16) := by kernel_rfl
/-- coins' cells -/
def cnC : List (Nat × Bool) → List Value
  | [] => []
  | c :: T => .int .i64 ((c.1 : Nat) : Int) :: .bool c.2 :: cnC T
theorem cnC_append (S T : List (Nat × Bool)) : cnC (S ++ T) = cnC S ++ cnC T := by
  induction S with
  | nil => rfl
  | cons c S ih => simp [cnC, ih]
theorem cnC_length (T : List (Nat × Bool)) : (cnC T).length = T.length * 2 := by
  induction T with
  | nil => rfl
  | cons c T ih => simp only [cnC, List.length_cons, ih]; omega
theorem cnC_one (T : List (Nat × Bool)) : ∀ u ∈ cnC T, u.oneCell' = true := by
  induction T with
  | nil => intro u hu; cases hu
  | cons c T ih =>
    intro u hu
    simp only [cnC, List.mem_cons] at hu
    rcases hu with rfl | rfl | hu
    · rfl
    · rfl
    · exact ih u hu
def cw (T : List (Nat × Bool)) (k : Nat) : Nat := (T.getD k (0, false)).1
def cq (T : List (Nat × Bool)) (k : Nat) : Bool := (T.getD k (0, false)).2
theorem cnC_at (T : List (Nat × Bool)) : ∀ k, k < T.length → (cnC T)[k * 2]? = some (.int .i64 (cw T k : Nat)) ∧ (cnC T)[k * 2 + 1]? = some (.bool (cq T k)) := by
  induction T with
  | nil => intro k h; exact absurd h (Nat.not_lt_zero k)
  | cons c T ih =>
    intro k hk
    cases k with
    | zero => exact ⟨rfl, rfl⟩
    | succ k =>
      have h := ih k (by simpa using hk)
      rw [show (k + 1) * 2 = k * 2 + 1 + 1 by omega]
      exact h
theorem cnC_ext {L : List Value} {T : List (Nat × Bool)} (hl : L.length = T.length * 2) (h : ∀ k, k < T.length → L[k * 2]? = some (.int .i64 (cw T k : Nat)) ∧ L[k * 2 + 1]? = some (.bool (cq T k))) : L = cnC T := by
  refine List.ext_getElem? fun j => ?_
  by_cases hj : j < T.length * 2
  · have h1 := h (j / 2) (by omega)
    have h2 := cnC_at T (j / 2) (by omega)
    rcases Nat.mod_two_eq_zero_or_one j with e | e
    · rw [show j = j / 2 * 2 by omega, h1.1, h2.1]
    · rw [show j = j / 2 * 2 + 1 by omega, h1.2, h2.2]
  · rw [List.getElem?_eq_none (by omega), List.getElem?_eq_none (by rw [cnC_length]; omega)]
/-- a row of coins that may be read -/
structure CRow (w : World) (O : Option Addr) (n : Nat) (f : Nat → Nat) (q : Nat → Bool) : Prop where
  cells : 0 < n → ∃ b off, O = some ⟨b, off, none⟩ ∧ b < w.heap.size ∧ ∀ k, k < n → w.cell? ⟨b, off + k * 2, none⟩ = some (.int .i64 (f k : Nat)) ∧ w.cell? ⟨b, off + k * 2 + 1, none⟩ = some (.bool (q k))
namespace CRow
variable {w w' : World} {O : Option Addr} {n : Nat} {f : Nat → Nat} {q : Nat → Bool}
theorem at_ (h : CRow w O n f q) {k : Nat} (hk : k < n) : ∃ b off, O = some ⟨b, off, none⟩ ∧ b < w.heap.size ∧ w.cell? ⟨b, off + k * 2, none⟩ = some (.int .i64 (f k : Nat)) ∧ w.cell? ⟨b, off + k * 2 + 1, none⟩ = some (.bool (q k)) := by
  obtain ⟨b, off, e, hb, hc⟩ := h.cells (by omega)
  exact ⟨b, off, e, hb, (hc k hk).1, (hc k hk).2⟩
theorem below (h : CRow w O n f q) (hb : Below w.heap.size w w') : CRow w' O n f q := ⟨fun hn => by
  obtain ⟨b, off, e, hl, hc⟩ := h.cells hn
  exact ⟨b, off, e, by have := hb.size; omega, fun k hk => ⟨(hb.cell (p := ⟨b, off + k * 2, none⟩) hl).trans (hc k hk).1, (hb.cell (p := ⟨b, off + k * 2 + 1, none⟩) hl).trans (hc k hk).2⟩⟩⟩
theorem drewN (h : CRow w O n f q) (r : Nat) : CRow (w.drewN r) O n f q := ⟨h.cells⟩
theorem nil_ (w : World) (O : Option Addr) (f : Nat → Nat) (q : Nat → Bool) : CRow w O 0 f q := ⟨fun h => absurd h (by omega)⟩
theorem few (h : CRow w O n f q) {m : Nat} (hm : m ≤ n) : CRow w O m f q := ⟨fun h0 => by
  obtain ⟨b, off, e, hl, hc⟩ := h.cells (by omega)
  exact ⟨b, off, e, hl, fun k hk => hc k (by omega)⟩⟩
theorem ofOwn {base g c : Nat} {T : List (Nat × Bool)} (h : w.ownsRow base 51 2 (.slice (some ⟨g, 0, none⟩) n c) n (cnC T)) : CRow w (some ⟨g, 0, none⟩) n (cw T) (cq T) := ⟨fun hn => by
  have hl := h.1
  rw [cnC_length] at hl
  obtain ⟨g', cap, hv, _, hlt⟩ := h.form hn
  injection hv with hv1 _ _
  injection hv1 with hv1
  injection hv1 with hv1
  subst hv1
  refine ⟨g, 0, rfl, hlt, fun k hk => ?_⟩
  have h1 := cnC_at T k (by omega)
  rw [Nat.zero_add]
  exact ⟨(h.cellAt (k * 2) (by omega)).trans h1.1, (h.cellAt (k * 2 + 1) (by omega)).trans h1.2⟩⟩
theorem ofOwn' {base c : Nat} {T : List (Nat × Bool)} (h : w.ownsRow base 51 2 (.slice O n c) n (cnC T)) : CRow w O n (cw T) (cq T) := by
  by_cases hn : 0 < n
  · obtain ⟨g, cap, hv, _, _⟩ := h.form hn
    injection hv with hv1 _ hv3
    subst hv1 hv3
    exact ofOwn h
  · obtain rfl : n = 0 := by omega
    exact nil_ _ _ _ _
end CRow
theorem some_atV {L : List Value} {j : Nat} (h : j < L.length) : ∃ v, L[j]? = some v := ⟨L[j], List.getElem?_eq_getElem h⟩

/-! ### How many coins are leaves -/
theorem lcn_take_succ (T : List (Nat × Bool)) (k : Nat) (h : k < T.length) : lcn (T.take (k + 1)) = lcn (T.take k) + if cq T k then 1 else 0 := by
  unfold lcn cq
  rw [List.take_succ_eq_append_getElem h, List.countP_append, List.getD_eq_getElem?_getD, List.getElem?_eq_getElem h]
  simp [List.countP_cons]
theorem lcn_le (T : List (Nat × Bool)) : lcn T ≤ T.length := List.countP_le_length
set_option maxHeartbeats 1000000 in
theorem countLeaves_c (O : Option Addr) (n c : Nat) (T : List (Nat × Bool)) (w : World) (h : CRow w O n (cw T) (cq T)) (hn : n ≤ T.length) (hmax : n ≤ 100000) :
    Calls Try.prog 32 #[.slice O n c] w fun e w' => e = .returned (.int .i64 (lcn (T.take n) : Nat)) ∧ Below w.heap.size w w' := by
  go_enter Try.func32, Try.ntmps32
  go_wp2
  go_loopw [3, 8] (fun cc i wr => ∃ k x : Nat, k ≤ n ∧ x ≤ k ∧ i = .int .i64 k ∧ cc = .int .i64 x ∧ Hid (x = lcn (T.take k)) ∧ Below w.heap.size w wr) (fun _ i _ => n - (intOf i).toNat)
  case atStart => exact ⟨0, 0, by omega, by omega, rfl, rfl, rfl, Below.refl _ _⟩
  case round =>
    obtain ⟨k, x, hk, hx, rfl, rfl, hl, hbel⟩ := hrel
    by_cases hlt : k < n
    · have hkn : (k : Int) < n := by omega
      obtain ⟨b, off, rfl, hb, h1, h2⟩ := (h.below hbel).at_ hlt
      have HS := Lib.hid (lcn_take_succ T k (by omega))
      cases hq : cq T k with
      | true =>
        rw [hq] at h2 HS
        have HQ := Lib.hid hq
        clear hq
        go_wp2
        go_roundw
        case rel => exact ⟨k + 1, x + 1, by omega, by omega, by go_num, by go_num, by unfold Hid; rw [HS.out, hl.out]; rfl, hbel.alloc hbel.size _⟩
        case measure => simp [intOf]; omega
      | false =>
        rw [hq] at h2 HS
        have HQ := Lib.hid hq
        clear hq
        go_wp2
        go_roundw
        case rel => exact ⟨k + 1, x, by omega, by omega, by go_num, rfl, by unfold Hid; rw [HS.out, hl.out]; rfl, hbel.alloc hbel.size _⟩
        case measure => simp [intOf]; omega
    · obtain rfl : k = n := by omega
      have hkn : ¬ (k : Int) < (k : Int) := by omega
      go_wp2
      go_ret
      rw [hl.out]
      exact ⟨rfl, hbel⟩
end Go.Proofs.Ytfnjjeopojdnjaa
