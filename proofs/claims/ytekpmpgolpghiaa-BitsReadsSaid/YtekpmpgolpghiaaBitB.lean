/-
  THE CONTRACTS OF bits' WRITER, as it is used: Put, Code, Bytes.
-/
import Derived.Test.YtekpmpgolpghiaaBitA
namespace Go.Proofs.Ytekpmpgolpghiaa
open Go.RowKit
set_option maxRecDepth 100000
set_option linter.unusedVariables false

theorem putB_succ (v j : Nat) : putB v (j + 1) = putB v j ++ [v.testBit j] := range_map_succ _ _
/-- the first j of a number's k lowest bits, the highest one first -/
def codeP (v k j : Nat) : List Bool := (List.range j).map fun i => v.testBit (k - 1 - i)
theorem codeP_succ (v k j : Nat) : codeP v k (j + 1) = codeP v k j ++ [v.testBit (k - 1 - j)] := range_map_succ _ _
theorem testBit_shift (v j : Nat) : (v / 2 ^ j).testBit 0 = v.testBit j := by
  rw [Nat.testBit_eq_decide_div_mod_eq, Nat.testBit_eq_decide_div_mod_eq, Nat.pow_zero, Nat.div_one]
section
variable {w : World} {p : Nat} {A : Option Addr} {len cap n : Nat} {X : List Bool}
set_option maxHeartbeats 1000000 in
theorem PutB_c (h : Wr w p A len cap n X) (v : Nat) (hv : v < 4294967296) (s : Int) (hroom : n + 32 ≤ 1000000) :
    Calls Try.prog 28 #[.pointer (some ⟨p, 0, none⟩), .int .u32 v, .int .i64 s] w fun e w' => e = .returned (.tuple #[]) ∧ ∃ A' len' cap', Wr w' p A' len' cap' (n + heldN s 32) (X ++ putB v (heldN s 32)) ∧ WOut p (Value.slice A len cap).ownBlock (Value.slice A' len' cap').ownBlock w w' := by
  have hk := heldN_le s 32
  have hheld := heldB_c s
  generalize heldN s 32 = k at *
  have HH := Lib.hid hheld
  have H := Lib.hid h
  clear hheld h
  go_enter Try.func28, Try.ntmps28
  go_wp2_with (go_at_call 49; refine (HH.out _).mono ?_; rintro e w' ⟨rfl, rfl⟩)
  go_loopw [9] (fun i wr => ∃ (j len' cap' : Nat) (A' : Option Addr), j ≤ k ∧ i = .int .i64 j ∧ Wr wr p A' len' cap' (n + j) (X ++ putB v j) ∧ WOut p (Value.slice A len cap).ownBlock (Value.slice A' len' cap').ownBlock w wr) (fun i _ => k - (intOf i).toNat)
  case atStart => exact ⟨0, len, cap, A, by omega, rfl, by rw [show putB v 0 = [] from rfl, List.append_nil]; exact H.out, WOut.refl _ _ _⟩
  case round =>
    obtain ⟨j, len', cap', A', hj, rfl, hW, hO⟩ := hrel
    by_cases hlt : j < k
    · have hjk : (j : Int) < k := by omega
      have hj32 : j < 32 := by omega
      have hbit := bit_c hW (v / 2 ^ j) (Nat.lt_of_le_of_lt (Nat.div_le_self _ _) hv) (by omega)
      rw [show ((v / 2 ^ j : Nat) : Int) = (v : Int) / 2 ^ j by simp, testBit_shift, List.append_assoc, ← putB_succ] at hbit
      have HB := Lib.hid hbit
      clear hbit
      go_wp2_with (go_at_call 50; refine HB.out.mono ?_; rintro e w2 ⟨rfl, A2, len2, cap2, hW2, hO2⟩)
      go_roundw
      case rel => exact ⟨j + 1, len2, cap2, A2, by omega, by go_num, hW2, hO.trans hO2⟩
      case measure => simp [intOf]; omega
    · obtain rfl : j = k := by omega
      go_wp2
      go_end0
      exact ⟨rfl, A', len', cap', hW, hO⟩
set_option maxHeartbeats 1000000 in
theorem CodeB_c (h : Wr w p A len cap n X) (v : Nat) (hv : v < 4294967296) (s : Int) (hroom : n + 32 ≤ 1000000) :
    Calls Try.prog 30 #[.pointer (some ⟨p, 0, none⟩), .int .u32 v, .int .i64 s] w fun e w' => e = .returned (.tuple #[]) ∧ ∃ A' len' cap', Wr w' p A' len' cap' (n + heldN s 32) (X ++ codeB v (heldN s 32)) ∧ WOut p (Value.slice A len cap).ownBlock (Value.slice A' len' cap').ownBlock w w' := by
  have hk := heldN_le s 32
  have hheld := heldB_c s
  generalize heldN s 32 = k at *
  have HH := Lib.hid hheld
  have H := Lib.hid h
  clear hheld h
  go_enter Try.func30, Try.ntmps30
  go_wp2_with (go_at_call 49; refine (HH.out _).mono ?_; rintro e w' ⟨rfl, rfl⟩)
  go_loopw [10] (fun i wr => ∃ (j len' cap' : Nat) (A' : Option Addr), j ≤ k ∧ i = .int .i64 j ∧ Wr wr p A' len' cap' (n + j) (X ++ codeP v k j) ∧ WOut p (Value.slice A len cap).ownBlock (Value.slice A' len' cap').ownBlock w wr) (fun i _ => k - (intOf i).toNat)
  case atStart => exact ⟨0, len, cap, A, by omega, rfl, by rw [show codeP v k 0 = [] from rfl, List.append_nil]; exact H.out, WOut.refl _ _ _⟩
  case round =>
    obtain ⟨j, len', cap', A', hj, rfl, hW, hO⟩ := hrel
    by_cases hlt : j < k
    · have hjk : (j : Int) < k := by omega
      have hj32 : j < 32 := by omega
      have hbit := bit_c hW (v / 2 ^ (k - 1 - j)) (Nat.lt_of_le_of_lt (Nat.div_le_self _ _) hv) (by omega)
      rw [show ((v / 2 ^ (k - 1 - j) : Nat) : Int) = (v : Int) / 2 ^ (k - 1 - j) by simp, testBit_shift, List.append_assoc, ← codeP_succ] at hbit
      have HB := Lib.hid hbit
      clear hbit
      go_wp2_with (go_at_call 50; refine HB.out.mono ?_; rintro e w2 ⟨rfl, A2, len2, cap2, hW2, hO2⟩)
      go_roundw
      case rel => exact ⟨j + 1, len2, cap2, A2, by omega, by go_num, hW2, hO.trans hO2⟩
      case measure => simp [intOf]; omega
    · obtain rfl : j = k := by omega
      go_wp2
      go_end0
      exact ⟨rfl, A', len', cap', hW, hO⟩
set_option maxHeartbeats 1000000 in
theorem BytesB_none (h : Wr w p A len cap n X) (B : Option Addr) (cb : Nat) :
    Calls Try.prog 34 #[.pointer (some ⟨p, 0, none⟩), .slice B 0 cb] w fun e w' => e = .returned (.tuple #[]) ∧ ∃ A' len' cap', Wr w' p A' len' cap' (8 * len) (alB X) ∧ WOut p (Value.slice A len cap).ownBlock (Value.slice A' len' cap').ownBlock w w' := by
  have c0 := h.blk.cell 0
  have f0 := h.blk.frozen 0
  simp at c0
  have hcap := own_cap h.own
  have hb2 := h.blk.set_ 0 (.slice A len cap)
  have hW : Wr (w.setCell ⟨p, 0, none⟩ (.slice A len cap)) p A len cap n X := ⟨hb2, own_set_other h.own (by simp) _, h.hl, h.hn, h.few⟩
  have hO : WOut p (Value.slice A len cap).ownBlock (Value.slice A len cap).ownBlock w (w.setCell ⟨p, 0, none⟩ (.slice A len cap)) := (WOut.refl _ _ _).setP 0 _
  have HA := Lib.hid (AlignB_c hW)
  have HO := Lib.hid hO
  clear hb2 hW hO h
  have hs0 : ∀ (a : Addr) (V : Value) (w : World), Sem.run Try.prog ((fun _ => V) <$> storeCells (a.add len) ([] : List Value)) w = .ok V w := fun a V w => rfl
  cases A with
  | none =>
    cases B with
    | none =>
      go_enter Try.func34, Try.ntmps34
      go_wp2_with (go_at_call 32; refine HA.out.mono ?_; rintro e w' ⟨rfl, hW2, hO2⟩)
      go_end0
      exact ⟨rfl, none, len, cap, hW2, HO.out.trans hO2⟩
    | some b =>
      go_enter Try.func34, Try.ntmps34
      go_wp2_with (go_at_call 32; refine HA.out.mono ?_; rintro e w' ⟨rfl, hW2, hO2⟩)
      go_end0
      exact ⟨rfl, none, len, cap, hW2, HO.out.trans hO2⟩
  | some a =>
    cases B with
    | none =>
      go_enter Try.func34, Try.ntmps34
      go_wp2_with (go_at_call 32; refine HA.out.mono ?_; rintro e w' ⟨rfl, hW2, hO2⟩)
      go_end0
      exact ⟨rfl, some a, len, cap, hW2, HO.out.trans hO2⟩
    | some b =>
      go_enter Try.func34, Try.ntmps34
      go_wp2_with (go_at_call 32; refine HA.out.mono ?_; rintro e w' ⟨rfl, hW2, hO2⟩)
      go_end0
      exact ⟨rfl, some a, len, cap, hW2, HO.out.trans hO2⟩
set_option maxHeartbeats 1000000 in
theorem BytesB_some (h : Wr w p A len cap n X) (B : Addr) (m cb : Nat) (l : List F) (hB : Row w (some B) m l) (hm : 0 < m) (hroom : n + 8 * m ≤ 1000000) :
    Calls Try.prog 34 #[.pointer (some ⟨p, 0, none⟩), .slice (some B) m cb] w fun e w' => e = .returned (.tuple #[]) ∧ ∃ A' len' cap', Wr w' p A' len' cap' (8 * len + 8 * m) (alB X ++ bitsOf l) ∧ WOut p (Value.slice A len cap).ownBlock (Value.slice A' len' cap').ownBlock w w' := by
  obtain ⟨i0, hi, hz0, hz1, hz2⟩ := info_parts info_u8
  have c0 := h.blk.cell 0
  have f0 := h.blk.frozen 0
  simp at c0
  have h8 := h.at8
  have hpl := h.lt
  have HL := Lib.hid hB.len
  have HC := Lib.hid hB.cells
  have H := Lib.hid h
  clear h hB
  go_enter Try.func34, Try.ntmps34
  go_wp2_with (at_builtin; refine wpList_append_lies _ rfl (.tmp 8) (.tmp 9) 23 rfl (p + 1) 5 i0 (.int .u8 0) 1 1 Try.underlying23 hi hz0 hz1 hz2 rfl (by decide) (.slice A len cap) len (cs (pack X)) rfl H.out.own B m cb (cs l) rfl (by rw [cs_length, HL.out, Nat.mul_one]) HC.out (cs_one _) hm (by unfold maxLen; omega) (by omega) (by omega) w.heap.size rfl ?_; intro g cap' w1 hown1 hg1 hat1 hlt1; have hblk1 := Blk.kept H.out.blk hg1 ⟨hpl, fun e => by have := (H.out.own.lt p e).1; omega⟩; have d0 := hblk1.cell 0; have g0 := hblk1.frozen 0; simp at d0)
  have hb2 := hblk1.set_ 0 (.slice (some ⟨g, 0, none⟩) (len + m) cap')
  have hown2 : (w1.setCell ⟨p, 0, none⟩ (.slice (some ⟨g, 0, none⟩) (len + m) cap')).ownsRow (p + 1) 5 1 (.slice (some ⟨g, 0, none⟩) (len + m) cap') (len + m) (cs (pack X) ++ cs l) := own_set_other hown1 (by simp) _
  have hO : WOut p (Value.slice A len cap).ownBlock (some g) w (w1.setCell ⟨p, 0, none⟩ (.slice (some ⟨g, 0, none⟩) (len + m) cap')) := by
    refine WOut.setP ⟨hg1.os, hg1.tape, hg1.output, hg1.size, fun k hk hp ha => hg1.block k hk (fun e => ha e.symm), ?_⟩ 0 _
    rcases hat1 with h1 | h1
    · exact .inl h1.symm
    · exact .inr fun x hx => by cases hx; omega
  clear hown1 hg1 hat1 hlt1 hblk1 g0 d0
  have hal := Lib.hid (AlignB_g (A := some ⟨g, 0, none⟩) (len := len + m) (cap := cap') (n := n) hb2 (by omega))
  go_wp2_with (go_at_call 32; refine hal.out.mono ?_; rintro e w' ⟨rfl, rfl⟩)
  go_end0
  refine ⟨rfl, some ⟨g, 0, none⟩, len + m, cap', ⟨?_, own_set_other ?_ (by simp) _, ?_, ?_, by omega⟩, hO.setP 1 _⟩
  · rw [show 8 * len + 8 * m = 8 * (len + m) by omega]
    exact hb2.set_ 1 _
  · rw [pack_append (by rw [alB_length]; omega), pack_alB, cs_append]
    exact hown2
  · unfold Hid; rw [List.length_append, alB_length, bitsOf_length, HL.out, H.out.hl.out]; omega
  · unfold Hid; rw [List.length_append, alB_length, bitsOf_length, HL.out, H.out.hl.out]
theorem BytesB_c (h : Wr w p A len cap n X) (B : Option Addr) (m cb : Nat) (l : List F) (hB : Row w B m l) (hroom : n + 8 * m ≤ 1000000) :
    Calls Try.prog 34 #[.pointer (some ⟨p, 0, none⟩), .slice B m cb] w fun e w' => e = .returned (.tuple #[]) ∧ ∃ A' len' cap', Wr w' p A' len' cap' (8 * len + 8 * m) (alB X ++ bitsOf l) ∧ WOut p (Value.slice A len cap).ownBlock (Value.slice A' len' cap').ownBlock w w' := by
  rcases Nat.eq_zero_or_pos m with rfl | hm
  · obtain rfl : l = [] := List.eq_nil_of_length_eq_zero hB.len
    rw [show bitsOf [] = [] from rfl, List.append_nil]
    exact BytesB_none h B cb
  · obtain ⟨b, o, rfl, _⟩ := hB.at_ hm
    exact BytesB_some h _ m cb l hB hm hroom
end
end Go.Proofs.Ytekpmpgolpghiaa
