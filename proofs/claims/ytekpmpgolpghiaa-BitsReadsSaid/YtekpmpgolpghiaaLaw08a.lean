/-
  LAW 08's WALK: BitsBytes: it returns true, and writes nothing that was there. No conditions.
-/
import Derived.Test.YtekpmpgolpghiaaLaw08
namespace Go.Proofs.Ytekpmpgolpghiaa
open Go.RowKit
set_option maxRecDepth 100000
set_option linter.unusedVariables false

theorem heldN_nat (N m : Nat) (h : N ≤ m) : heldN (N : Int) m = N := by unfold heldN; omega
/-- a number's lowest bits -/
theorem and32 (v N : Nat) (hv : v < 4294967296) (hN : N ≤ 31) : bits BinOp.and IntKind.u32 (v : Int) ((2 ^ N - 1) % 4294967296) = ((v % 2 ^ N : Nat) : Int) := by
  have hp : 2 ^ N ≤ 2 ^ 31 := Nat.pow_le_pow_right (by decide) hN
  have hp0 : 0 < 2 ^ N := Nat.pow_pos (by decide)
  have e31 : (2 : Nat) ^ 31 = 2147483648 := rfl
  have e1 : ((2 : Int) ^ N) = ((2 ^ N : Nat) : Int) := by simp
  rw [e1, show (((2 ^ N : Nat) : Int) - 1) % 4294967296 = ((2 ^ N - 1 : Nat) : Int) by omega, u32_and_nat _ _ hv (by omega), Nat.and_two_pow_sub_one_eq_mod]
set_option maxHeartbeats 2000000 in
theorem walk_BitsBytes (w : World) (v : Nat) (hv : v < 4294967296) (nn : Int) (hnn : (Lit.int .i64 nn).wf = true) (B : Option Addr) (m cb : Nat) (l : List F) (h : RowIn w B m cb l) (u : Nat) (hu : u < 4294967296) :
    Calls Try.prog 9 #[.int .u32 v, .int .i64 nn, .slice B m cb, .int .u32 u] w fun e w' => e = .returned (.bool true) ∧ Below w.heap.size w w' := by
  have hnm := h.row.max
  by_cases hn : (100 : Int) < m
  · go_enter Try.func9, Try.ntmps9
    go_wp2_with (go_at_call 26; refine (alive08_c _).mono ?_; rintro e w1 ⟨rfl, hb1⟩)
    go_ret
    exact ⟨rfl, hb1⟩
  · obtain ⟨N, hN, eN⟩ := and31n nn
    have hm100 : m ≤ 100 := by omega
    go_enter Try.func9, Try.ntmps9
    go_wp2_with (go_at_call 26; refine (alive08_c _).mono ?_; rintro e w1 ⟨rfl, hb1⟩)
    have hW0 := Wr.zero w1 _ rfl
    have h0 := h.below hb1
    have hC0 : Below w1.heap.size w1 (w1.alloc (.cells #[.slice none 0 0, .int .i64 0] 47)) := (Below.refl _ w1).alloc (Nat.le_refl _) _
    obtain ⟨p, hp⟩ : ∃ p, p = w1.heap.size := ⟨_, rfl⟩
    have hpw : w1.heap.size ≤ p := by omega
    rw [← hp] at hW0 ⊢
    have HP := Lib.hid hpw
    clear hp hpw h
    have hput := PutB_c hW0 v hv (N : Int) (by omega)
    rw [heldN_nat N 32 (by omega), Nat.zero_add, List.nil_append] at hput
    refine hput.mono ?_
    clear hput
    rintro e w2 ⟨rfl, A2, len2, cap2, hW2, hO2⟩
    have hC2 := hC0.trans (hO2.low HP.out hW0.lt hW0.alo)
    have h2 := h0.below hC2
    clear hO2 hW0 hC0
    go_wp2_with fail
    refine (BytesB_c hW2 B m cb l h2.row (by omega)).mono ?_
    rintro e w3 ⟨rfl, A3, len3, cap3, hW3, hO3⟩
    have hC3 := hC2.trans (hO3.low HP.out hW2.lt hW2.alo)
    have hl2 := Lib.hid hW2.hl.out
    have h82 := hW2.at8
    clear hO3 hW2 hC2 h2
    go_wp2_with fail
    refine (PutB_c hW3 u hu 32 (by omega)).mono ?_
    rw [show heldN 32 32 = 32 by decide]
    rintro e w4 ⟨rfl, A4, len4, cap4, hW4, hO4⟩
    have hC4 := hC3.trans (hO4.low HP.out hW3.lt hW3.alo)
    clear hO4 hW3 hC3
    obtain ⟨X, hX⟩ : ∃ X, X = alB (putB v N) ++ bitsOf l ++ putB u 32 := ⟨_, rfl⟩
    rw [← hX] at hW4
    have HX := Lib.hid hX
    have hl4 := Lib.hid hW4.hl.out
    have hn4 := Lib.hid hW4.hn.out
    have hLen : Hid (len2 = (N + 7) / 8) := by unfold Hid; rw [hl2.out, putB_length]
    have hL4 : Hid (len4 = len2 + m + 4) := by unfold Hid; rw [hl4.out, ← hn4.out]; omega
    clear hX hl4
    have eq1 : ((8 * (len2 : Int) + 8 * (m : Int) + 32) != ((N : Int) + 7) / 8 * 8 + 8 * (m : Int) + 32) = false := by
      rw [bne_eq_false_iff_eq]
      have := hLen.out
      omega
    have eq2 : ((len4 : Int) != (8 * (len2 : Int) + 8 * (m : Int) + 32) / 8) = false := by
      rw [bne_eq_false_iff_eq]
      have := hL4.out
      omega
    have hb2 : len2 ≤ 5 := by have := hLen.out; omega
    go_wp2_with (first
      | (go_at_call 36; refine (LenB_c hW4).mono ?_; rintro e _ ⟨rfl, rfl⟩)
      | (go_at_call 37; refine (DoneB_c hW4).mono ?_; rintro e w5 ⟨A5, c5, rfl, hown5, hb5⟩; have hW5 := hW4.below hb5)
      | (go_at_call 36; refine (LenB_c hW5).mono ?_; rintro e _ ⟨rfl, rfl⟩))
    refine (DoneB_c hW5).mono ?_
    rintro e w6 ⟨A6, c6, rfl, hown6, hb6⟩
    have hC6 := (hC4.trans (hb5.mono hC4.size)).trans (hb6.mono (by have := hC4.size; have := hb5.size; omega))
    have hl4b : len4 ≤ 200 := by have := hL4.out; omega
    clear hW4 hW5 hown5 hb5 hb6 hC4 hnn
    go_wp2_with (go_at_call 39; refine (ReadB_c A6 len4 c6 _ _ (own_in hown6).row (by omega)).mono ?_; rintro e w7 ⟨q, A7, c7, rfl, hR7, hq7, hb7⟩)
    have hC7 := hC6.trans (hb7.mono hC6.size)
    have hqw : w1.heap.size ≤ q := Nat.le_trans hC6.size hq7
    have hget := GetB_ok hR7 (N : Int) (by rw [heldN_nat N 32 (by omega), hL4.out]; omega)
    have hx1 : numB (pack X) 0 N = v % 2 ^ N := numB_put (Y := []) (Z := List.replicate (8 * (((putB v N).length + 7) / 8) - (putB v N).length) false ++ bitsOf l ++ putB u 32) (by rw [HX.out]; simp [alB]) rfl
    rw [heldN_nat N 32 (by omega), hx1, Nat.zero_add] at hget
    clear hown6 hb7 hC6
    go_wp2_with fail
    refine hget.mono ?_
    clear hget
    rintro e w8 ⟨rfl, hR8, hO8⟩
    have hC8 := hC7.trans (hO8.lowAt hqw hR7.lt)
    clear hO8 hR7 hC7
    go_wp2_with fail
    refine (BytesR_ok hR8 (m : Int) m (by omega) (by have := hLen.out; have := hL4.out; omega)).mono ?_
    rintro e w9 ⟨A9, c9, rfl, hown9, hR9, hO9⟩
    have hC9 := hC8.trans (hO9.lowAt hqw hR8.lt)
    have hgot : ((pack X).drop ((N + 7) / 8)).take m = l := by
      have e1 : (alB (putB v N) ++ bitsOf l).length / 8 = len2 + m := by rw [List.length_append, alB_length, bitsOf_length, putB_length, h0.row.len]; have := hLen.out; omega
      have e2 := pack_take (X := alB (putB v N) ++ bitsOf l) (by rw [List.length_append, alB_length, bitsOf_length]; omega) (putB u 32)
      rw [← HX.out, e1] at e2
      rw [← hLen.out, show m = len2 + m - len2 by omega, ← List.drop_take, e2, pack_append (by rw [alB_length]; omega), pack_alB, List.drop_append_of_le_length (by rw [pack_length, putB_length]; have := hLen.out; omega), List.drop_of_length_le (by rw [pack_length, putB_length]; have := hLen.out; omega), List.nil_append]
    rw [hgot] at hown9
    have hup : upB N + 8 * m = 8 * len2 + 8 * m := by unfold upB; have := hLen.out; omega
    rw [hup] at hR9
    have nA9 := own_ne hown9 hR8.lt
    have r9 := (own_in hown9).row
    clear hO9 hR8 hC8 hown9 hgot hup
    have hx2 : numB (pack X) (8 * len2 + 8 * m) 32 = u := by
      have e1 := numB_put (X := X) (Y := alB (putB v N) ++ bitsOf l) (Z := []) (v := u) (n := 32) (at_ := 8 * len2 + 8 * m) (by rw [HX.out, List.append_nil]) (by rw [List.length_append, alB_length, bitsOf_length, putB_length, h0.row.len]; have := hLen.out; omega)
      rw [e1]
      exact Nat.mod_eq_of_lt (by omega)
    have hget2 := GetB_ok hR9 32 (by rw [show heldN 32 32 = 32 by decide, hL4.out]; omega)
    rw [show heldN 32 32 = 32 by decide, hx2] at hget2
    go_wp2_with fail
    refine hget2.mono ?_
    clear hget2
    rintro e w10 ⟨rfl, hR10, hO10⟩
    have hC10 := hC9.trans (hO10.lowAt hqw hR9.lt)
    have r10 := r9.outOf hO10 nA9
    clear hO10 hR9 hC9 r9
    go_wp2_with fail
    refine (BitR_no hR10 (by rw [hL4.out]; omega)).mono ?_
    rintro e w11 ⟨rfl, hR11, hO11⟩
    have hC11 := hC10.trans (hO11.lowAt hqw hR10.lt)
    have r11 := r10.outOf hO11 nA9
    have h11 := h0.below hC11
    clear hO11 hR10 hR11 hC10 r10
    have hbe : ((v : Int) % 2 ^ N == bits BinOp.and IntKind.u32 (v : Int) ((2 ^ N - 1) % 4294967296)) = true := by
      rw [and32 v N hv hN, beq_iff_eq]
      simp
    go_wp2_with (go_at_call 14; refine (Same_c _ _ _ _ _ _ _ _ r11 h11.row rfl).mono ?_; rintro e w4 ⟨rfl, q7, rfl⟩)
    go_ret
    exact ⟨rfl, below_drewN (hb1.trans (hC11.mono hb1.size)) q7⟩
end Go.Proofs.Ytekpmpgolpghiaa
