/-
  THE CONTRACTS OF bits' WRITER, as it is used: Put, Code, Bytes.
-/
import Derived.Test.YtanhgjaokgnlhaaBitA
namespace Go.Proofs.Ytanhgjaokgnlhaa
open Go.RowKit
set_option maxRecDepth 100000
set_option linter.unusedVariables false

theorem putB_succ (v j : Nat) : putB v (j + 1) = putB v j ++ [v.testBit j] := range_map_succ _ _
/-- the first j of a number's k lowest bits, the highest one first -/
def codeP (v k j : Nat) : List Bool := (List.range j).map fun i => v.testBit (k - 1 - i)
theorem codeP_succ (v k j : Nat) : codeP v k (j + 1) = codeP v k j ++ [v.testBit (k - 1 - j)] := range_map_succ _ _
theorem testBit_shift (v j : Nat) : (v / 2 ^ j).testBit 0 = v.testBit j := by
  rw [Nat.testBit_eq_decide_div_mod_eq, Nat.testBit_eq_decide_div_mod_eq, Nat.pow_zero, Nat.div_one]
section
variable {w : World} {p : Nat} {A : Option Addr} {len cap n : Nat} {X : List Bool}
set_option maxHeartbeats 1000000 in
theorem CodeB_c (h : Wr w p A len cap n X) (v : Nat) (hv : v < 4294967296) (s : Int) (hroom : n + 32 ≤ 1000000) :
    Calls Try.prog 18 #[.pointer (some ⟨p, 0, none⟩), .int .u32 v, .int .i64 s] w fun e w' => e = .returned (.tuple #[]) ∧ ∃ A' len' cap', Wr w' p A' len' cap' (n + heldN s 32) (X ++ codeB v (heldN s 32)) ∧ WOut p (Value.slice A len cap).ownBlock (Value.slice A' len' cap').ownBlock w w' := by
  have hk := heldN_le s 32
  have hheld := heldB_c s
  generalize heldN s 32 = k at *
  have HH := Lib.hid hheld
  have H := Lib.hid h
  clear hheld h
  go_enter Try.func18, Try.ntmps18
  go_wp2_with (go_at_call 29; refine (HH.out _).mono ?_; rintro e w' ⟨rfl, rfl⟩)
  go_loopw [10] (fun i wr => ∃ (j len' cap' : Nat) (A' : Option Addr), j ≤ k ∧ i = .int .i64 j ∧ Wr wr p A' len' cap' (n + j) (X ++ codeP v k j) ∧ WOut p (Value.slice A len cap).ownBlock (Value.slice A' len' cap').ownBlock w wr) (fun i _ => k - (intOf i).toNat)
  case atStart => exact ⟨0, len, cap, A, by omega, rfl, by rw [show codeP v k 0 = [] from rfl, List.append_nil]; exact H.out, WOut.refl _ _ _⟩
  case round =>
    obtain ⟨j, len', cap', A', hj, rfl, hW, hO⟩ := hrel
    by_cases hlt : j < k
    · have hjk : (j : Int) < k := by omega
      have hj32 : j < 32 := by omega
      have hbit := bit_c hW (v / 2 ^ (k - 1 - j)) (Nat.lt_of_le_of_lt (Nat.div_le_self _ _) hv) (by omega)
      rw [show ((v / 2 ^ (k - 1 - j) : Nat) : Int) = (v : Int) / 2 ^ (k - 1 - j) by simp, testBit_shift, List.append_assoc, ← codeP_succ] at hbit
      have HB := Lib.hid hbit
      clear hbit
      go_wp2_with (go_at_call 30; refine HB.out.mono ?_; rintro e w2 ⟨rfl, A2, len2, cap2, hW2, hO2⟩)
      go_roundw
      case rel => exact ⟨j + 1, len2, cap2, A2, by omega, by go_num, hW2, hO.trans hO2⟩
      case measure => simp [intOf]; omega
    · obtain rfl : j = k := by omega
      go_wp2
      go_end0
      exact ⟨rfl, A', len', cap', hW, hO⟩
end
end Go.Proofs.Ytanhgjaokgnlhaa
