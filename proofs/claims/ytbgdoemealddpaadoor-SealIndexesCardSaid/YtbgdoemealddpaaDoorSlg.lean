/-
  SEALS: the program's Write. No conditions.
-/
import Derived.Test.YtbgdoemealddpaaDoorSlf
namespace Go.Proofs.YtbgdoemealddpaaDoor
open Go.RowKit
set_option maxRecDepth 100000
set_option linter.unusedVariables false

set_option maxHeartbeats 4000000 in
theorem Write_no {N K S B I : Int} (h : Wf4 N K S B) {w : World} {A : Option Addr} {m cap : Nat} {RA : Nat → Option Addr} {RL RC : Nat → Nat} {R : Nat → List G} (hG : GIn w A m cap RA RL RC R) (C : Option Addr) (L cc : Nat) (hL : L ≤ 9223372036854775807) (hno : slR N K S B I m RL = false ∨ ¬ (L : Int) = 8 + S) :
    Calls Tryd.prog 9 #[.agg #[.int .i64 N, .int .i64 K, .int .i64 S, .int .i64 B, .int .i64 I, .slice A m cap], .slice C L cc] w fun e w' => e = .returned (.tuple #[.slice none 0 0, .int .i64 1]) ∧ Below w.heap.size w w' := by
  have hb := (Below.refl w.heap.size w).alloc (Nat.le_refl _) (.cells #[.int .i64 N, .int .i64 K, .int .i64 S, .int .i64 B, .int .i64 I, .slice A m cap] 26)
  have hK := Blk.new w 26 #[.int .i64 N, .int .i64 K, .int .i64 S, .int .i64 B, .int .i64 I, .slice A m cap]
  have hR := right_c (I := I) h (hG.below hb)
  have HB := Lib.hid hb
  have HK := Lib.hid hK
  have z0 := (hK.cell 0).trans (show _ = some (Value.int .i64 N) from rfl)
  have z1 := (hK.cell 1).trans (show _ = some (Value.int .i64 K) from rfl)
  have z2 := (hK.cell 2).trans (show _ = some (Value.int .i64 S) from rfl)
  have z3 := (hK.cell 3).trans (show _ = some (Value.int .i64 B) from rfl)
  have z4 := (hK.cell 4).trans (show _ = some (Value.int .i64 I) from rfl)
  have z5 := (hK.cell 5).trans (show _ = some (Value.slice A m cap) from rfl)
  cases hr : slR N K S B I m RL with
  | false =>
    rw [hr] at hR
    have HR := Lib.hid hR
    clear hb hK hR hr hno hG
    go_enter Tryd.func9, Tryd.ntmps9
    go_wp2_with fail
    refine HR.out.mono ?_
    rintro e W2 ⟨rfl, hb2⟩
    have HB2 := Lib.hid (HB.out.trans (hb2.mono HB.out.size))
    clear hb2
    go_wp2
    go_ret2
    exact ⟨rfl, HB2.out⟩
  | true =>
    have hne : ¬ (L : Int) = 8 + S := by
      rcases hno with e | e
      · rw [hr] at e; cases e
      · exact e
    have hr1 : right23 N K S B = true := by
      unfold slR rix at hr
      exact (Bool.and_eq_true_iff.1 (Bool.and_eq_true_iff.1 hr).1).1
    rw [hr] at hR
    have HR := Lib.hid hR
    have hLg := Long_c h
    unfold long23 at hLg
    rw [if_pos hr1] at hLg
    have HL := Lib.hid hLg
    have e0 : ((L : Int) != 8 + S) = true := by rw [bne_iff_ne]; exact hne
    clear hb hK hR hr hno hG hLg hr1 hne
    go_enter Tryd.func9, Tryd.ntmps9
    go_wp2_with fail
    refine HR.out.mono ?_
    rintro e W2 ⟨rfl, hb2⟩
    have HB2 := Lib.hid (HB.out.trans (hb2.mono HB.out.size))
    have HK2 := Lib.hid (HK.out.below HK.out.lt hb2)
    clear hb2 z0 z1 z2 z3 z4 z5 HK HB HR
    have z0 := (HK2.out.cell 0).trans (show _ = some (Value.int .i64 N) from rfl)
    have z1 := (HK2.out.cell 1).trans (show _ = some (Value.int .i64 K) from rfl)
    have z2 := (HK2.out.cell 2).trans (show _ = some (Value.int .i64 S) from rfl)
    have z3 := (HK2.out.cell 3).trans (show _ = some (Value.int .i64 B) from rfl)
    go_wp2_with fail
    refine (HL.out _).mono ?_
    rintro e W3 ⟨rfl, hb3⟩
    have HB3 := Lib.hid (HB2.out.trans (hb3.mono HB2.out.size))
    clear hb3
    go_wp2
    go_ret2
    exact ⟨rfl, HB3.out⟩
set_option maxHeartbeats 8000000 in
theorem Write_yes {n k s b i : Nat} (h : Wf4 n k s b) (hr : right23 n k s b = true) (hik : i < k) {w : World} (ht : Tab w) {A : Option Addr} {m cap : Nat} {RA : Nat → Option Addr} {RL RC : Nat → Nat} {R : Nat → List G} (hG : GIn w A m cap RA RL RC R) (hm : m = n + k) (hq : ∀ r, r < m → RL r = blkN s b)
    {C : Option Addr} {L cc : Nat} {col : List F} (hC : RowIn w C L cc col) (hL : L = 8 + s) (hM : hdN n k (blkN s b) ≤ 100000) (hs : s ≤ 100000) (hq9 : blkN s b ≤ 1000) :
    Calls Tryd.prog 9 #[.agg #[.int .i64 (n : Int), .int .i64 (k : Int), .int .i64 (s : Int), .int .i64 (b : Int), .int .i64 (i : Int), .slice A m cap], .slice C L cc] w fun e w' => ∃ V c', e = .returned (.tuple #[.slice V (hdN n k (blkN s b) + L) c', .int .i64 0]) ∧ w'.ownsRow (w.heap.size + 1) 5 1 (.slice V (hdN n k (blkN s b) + L) c') (hdN n k (blkN s b) + L) (cs (slB n k s b i R m col)) ∧ Below w.heap.size w w' := by
  obtain ⟨i0, hi, hz0, hz1, hz2⟩ := info_parts info_u8
  have hx := of_decide_eq_true hr
  have hb := (Below.refl w.heap.size w).alloc (Nat.le_refl _) (.cells #[.int .i64 (n : Int), .int .i64 (k : Int), .int .i64 (s : Int), .int .i64 (b : Int), .int .i64 (i : Int), .slice A m cap] 26)
  have hK := Blk.new w 26 #[.int .i64 (n : Int), .int .i64 (k : Int), .int .i64 (s : Int), .int .i64 (b : Int), .int .i64 (i : Int), .slice A m cap]
  have hsl : slR n k s b i m RL = true := by
    unfold slR rix
    rw [hr, blk23_yes hr, unS_no hq, decide_eq_true (by omega : (0 : Int) ≤ i), decide_eq_true (by omega : (i : Int) < k), decide_eq_true (by omega : (m : Int) = n + k)]
    rfl
  have hR := right_c (I := i) h (hG.below hb)
  rw [hsl] at hR
  have hLg := Long_c h
  unfold long23 at hLg
  rw [if_pos hr, show (8 : Int) + s = (L : Int) by omega] at hLg
  have hHd := Head_yes h hr
  have hn1 : 1 ≤ n := by omega
  have hqpos : 1 ≤ blkN s b := blkN_pos (by omega)
  have hnk : n + k ≤ 255 := by omega
  have hb9 : b < 9223372036854775808 := by omega
  have HH : Hid (20 + smN (blkN s b) m + 4 = hdN n k (blkN s b)) := by unfold Hid; rw [hm]; exact smN_eq _ _ _
  have hlen : ∀ r, r < m → (R r).length = blkN s b := fun r hr => (hG.row r hr).1.trans (hq r hr)
  have HQ := Lib.hid hq
  have HM : Hid (20 + smN (blkN s b) m ≤ 100000) := by unfold Hid; have := HH.out; omega
  generalize blkN s b = Q at *
  have hH24 : 24 ≤ hdN n k Q := by unfold hdN; omega
  generalize hdN n k Q = H at *
  have hm9 : m ≤ 255 := by omega
  have hL9 : L ≤ 200000 := by omega
  have HR := Lib.hid hR
  have HL := Lib.hid hLg
  have HD := Lib.hid hHd
  have HB := Lib.hid hb
  have HK := Lib.hid hK
  have HG := Lib.hid hG
  have HC := Lib.hid hC
  have HT := Lib.hid ht
  have e0 : ((L : Int) != (L : Int)) = false := by simp
  obtain ⟨T, hT⟩ : ∃ T, T = H + L := ⟨_, rfl⟩
  have HTI : Hid ((H : Int) + (L : Int) = (T : Int)) := by unfold Hid; omega
  have hT1 : T ≤ 400000 := by omega
  have hT2 : 24 ≤ T := by omega
  have HHL := Lib.hid hL
  have HLN := Lib.hid hlen
  have z0 := (hK.cell 0).trans (show _ = some (Value.int .i64 (n : Int)) from rfl)
  have z1 := (hK.cell 1).trans (show _ = some (Value.int .i64 (k : Int)) from rfl)
  have z2 := (hK.cell 2).trans (show _ = some (Value.int .i64 (s : Int)) from rfl)
  have z3 := (hK.cell 3).trans (show _ = some (Value.int .i64 (b : Int)) from rfl)
  have z4 := (hK.cell 4).trans (show _ = some (Value.int .i64 (i : Int)) from rfl)
  have z5 := (hK.cell 5).trans (show _ = some (Value.slice A m cap) from rfl)
  clear hT hx hsl hR hLg hHd hb hK hG hC ht hL hm hqpos hr h hlen hq
  go_enter Tryd.func9, Tryd.ntmps9
  go_wp2_with fail
  refine HR.out.mono ?_
  rintro e W2 ⟨rfl, hb2⟩
  have HB2 := Lib.hid (HB.out.trans (hb2.mono HB.out.size))
  have HK2 := Lib.hid (HK.out.below HK.out.lt hb2)
  clear hb2 z0 z1 z2 z3 z4 z5 HK HB HR
  have z0 := (HK2.out.cell 0).trans (show _ = some (Value.int .i64 (n : Int)) from rfl)
  have z1 := (HK2.out.cell 1).trans (show _ = some (Value.int .i64 (k : Int)) from rfl)
  have z2 := (HK2.out.cell 2).trans (show _ = some (Value.int .i64 (s : Int)) from rfl)
  have z3 := (HK2.out.cell 3).trans (show _ = some (Value.int .i64 (b : Int)) from rfl)
  go_wp2_with fail
  refine (HL.out _).mono ?_
  rintro e W3 ⟨rfl, hb3⟩
  have HB3 := Lib.hid (HB2.out.trans (hb3.mono HB2.out.size))
  have HK3 := Lib.hid (HK2.out.below HK2.out.lt hb3)
  clear hb3 z0 z1 z2 z3 HK2 HB2 HL
  have z0 := (HK3.out.cell 0).trans (show _ = some (Value.int .i64 (n : Int)) from rfl)
  have z1 := (HK3.out.cell 1).trans (show _ = some (Value.int .i64 (k : Int)) from rfl)
  have z2 := (HK3.out.cell 2).trans (show _ = some (Value.int .i64 (s : Int)) from rfl)
  have z3 := (HK3.out.cell 3).trans (show _ = some (Value.int .i64 (b : Int)) from rfl)
  go_wp2_with fail
  refine (HD.out _).mono ?_
  rintro e W4 ⟨rfl, hb4⟩
  have HB4 := Lib.hid (HB3.out.trans (hb4.mono HB3.out.size))
  have HK4 := Lib.hid (HK3.out.below HK3.out.lt hb4)
  have hlt4 := HK4.out.lt
  clear hb4 z0 z1 z2 z3 HK3 HB3 HD
  go_wp2_with (first
    | (at_make; refine wpList_make_own _ rfl _ _ 27 rfl (w.heap.size + 1) 5 i0 (.int .u8 0) 1 Tryd.underlying27 hi hz0 hz1 _ _ _ T rfl rfl HTI.out (by rw [hz2]; omega) (by unfold maxLen; omega) (by omega) ?_; intro w0 hown0 hgrow0; have S0 := Lib.hid (SwSt.mk (w := w) (W := w0) (T := 26) (H := #[.int .i64 (n : Int), .int .i64 (k : Int), .int .i64 (s : Int), .int .i64 (b : Int), .int .i64 (i : Int), .slice A m cap]) (V := some ⟨W4.heap.size, 0, none⟩) (N := 0) (c := T) (Y := []) (HK4.out.kept hgrow0 ⟨hlt4, fun e => by cases e⟩) hown0 (by have := hgrow0.size; omega) (HB4.out.grown hgrow0 (by omega) (fun k h => by cases h))); have hsg := Lib.hid (append_sgn S0.out.own (by omega) S0.out.sz 27); clear hown0 hgrow0)
    | (at_builtin; obtain ⟨w1, hr1, hown1, hg1⟩ := hsg.out; refine Lib.wpList_append_run _ rfl (.tmp 27) _ 27 9 rfl _ _ rfl rfl _ _ hr1 ?_; have S1 := Lib.hid (S0.out.low ((Below.refl _ _).grown hg1 S0.out.sz (fun k h => S0.out.own_lo k h)) hown1); clear hown1 hg1 hr1 hsg; have z0 := (S1.out.box.cell 0).trans (show _ = some (Value.int .i64 (n : Int)) from rfl); have z1 := (S1.out.box.cell 1).trans (show _ = some (Value.int .i64 (k : Int)) from rfl); have z4 := (S1.out.box.cell 4).trans (show _ = some (Value.int .i64 (i : Int)) from rfl))
    | fail)
  refine (S1.out.ints (by omega) 2 (by omega) [1, n, k, i] (by simp; omega) 4 rfl (by omega) _ _ rfl _ _ (by simp) _ rfl).mono ?_
  rintro e W5 ⟨V5, c5, rfl, s5⟩
  have S5 : Hid (SwSt w W5 _ _ V5 12 c5 _) := s5
  clear s5 S1 S0 z0 z1 z4
  have z2 := (S5.out.box.cell 2).trans (show _ = some (Value.int .i64 (s : Int)) from rfl)
  have z3 := (S5.out.box.cell 3).trans (show _ = some (Value.int .i64 (b : Int)) from rfl)
  go_wp2_with fail
  refine (S5.out.ints (by omega) 4 (by omega) [s, b] (by simp; omega) 2 rfl (by omega) _ _ rfl _ _ (by simp) _ rfl).mono ?_
  rintro e W6 ⟨V6, c6, rfl, s6⟩
  have S6 : Hid (SwSt w W6 _ _ V6 20 c6 (frB n k s b i)) := s6
  clear s6 S5 z2 z3
  have z5 := (S6.out.box.cell 5).trans (show _ = some (Value.slice A m cap) from rfl)
  go_wp2
  go_loopw [6, 52] (fun bv iv wr => ∃ (r N c' : Nat) (V' : Option Addr), r ≤ m ∧ iv = .int .i64 r ∧ bv = .slice V' N c' ∧ Hid (N = 20 + smN Q r) ∧ N ≤ 1000000 ∧ Hid (SwSt w wr 26 #[.int .i64 (n : Int), .int .i64 (k : Int), .int .i64 (s : Int), .int .i64 (b : Int), .int .i64 (i : Int), .slice A m cap] V' N c' (frB n k s b i ++ smB R r))) (fun _ iv _ => m - (intOf iv).toNat)
  case atStart => exact ⟨0, 20, c6, V6, by omega, rfl, rfl, by unfold Hid smN; omega, by omega, by show Hid (SwSt w W6 _ _ V6 20 c6 (_ ++ [])); rw [List.append_nil]; exact S6⟩
  case round =>
    obtain ⟨r, N, c', V', hr, rfl, rfl, hN, hN9, hS⟩ := hrel
    by_cases hlt : r < m
    · have hrm : (r : Int) < m := by omega
      have hG := HG.out.below hS.out.bel
      obtain ⟨b1, o1, rfl, _, q1⟩ := hG.at_ hlt
      have hrow := HG.out.row r hlt
      have hN2 : Hid (N + Q * 4 = 20 + smN Q (r + 1)) := by
        unfold Hid smN
        rw [hN.out, Nat.add_mul]
        unfold smN
        omega
      have hN3 : N + Q * 4 ≤ 1000000 := by
        have h1 : (r + 1) * (Q * 4) ≤ m * (Q * 4) := Nat.mul_le_mul_right _ hlt
        have h2 := HM.out
        have h3 := hN2.out
        unfold smN at h2 h3
        omega
      rw [HQ.out r hlt] at hrow q1
      have HRW := Lib.hid (hS.out.row (by omega) (RC r) hrow (by omega))
      clear hrow hG
      go_wp2_with (go_at_call 26; refine HRW.out.mono ?_; rintro e W7 ⟨V7, c7, rfl, s7⟩; have S7 : Hid (SwSt w W7 _ _ V7 (N + Q * 4) c7 (frB n k s b i ++ smB R (r + 1))) := (by show SwSt _ _ _ _ _ _ _ (_ ++ (smB R r ++ _)); rw [← List.append_assoc]; exact s7); clear s7 HRW)
      go_roundw
      case rel => exact ⟨r + 1, N + Q * 4, c7, V7, by omega, by go_num, rfl, hN2, hN3, S7⟩
      case measure => simp [intOf]; omega
    · obtain rfl : r = m := by omega
      have hN4 : N + 4 = H := by have h1 := HH.out; have h2 := hN.out; omega
      have S7 : Hid (SwSt w wr _ _ V' N c' (hxB n k s b i R r)) := hS
      clear hS
      have HSum := Lib.hid (Sum_c V' N c' (hxB n k s b i R r) wr (HT.out.below S7.out.bel rfl) (Row.of_own S7.out.own))
      go_wp2_with (go_at_call 27; refine HSum.out.mono ?_; rintro e w' ⟨rfl, rfl⟩)
      refine (S7.out.word (by omega) (sum32 (hxB n k s b i R r)) _ _ rfl _ _ rfl).mono ?_
      rintro e W8 ⟨V8, c8, rfl, s8⟩
      rw [hN4] at s8 ⊢
      have S8 := Lib.hid s8
      have hc8 := HC.out.row.below s8.bel
      clear s8 S7 HSum
      go_wp2_with (at_builtin; refine wpList_append_row i0 hi hz0 hz1 hz2 rfl (.tmp 65) (.tmp 66) rfl (w.heap.size + 1) (.slice V8 H c8) H _ rfl S8.out.own C L cc col rfl hc8 (by omega) S8.out.sz ?_; intro v9 w9 hL9'; obtain ⟨A9, c9, rfl, hown9, hg9, hnw9⟩ := hL9'; rw [← cs_append] at hown9; have S9 := Lib.hid (S8.out.low ((Below.refl _ _).grown hg9 S8.out.sz (fun k h => S8.out.own_lo k h)) hown9); clear hown9 hg9 hnw9)
      go_ret2
      exact ⟨A9, c9, rfl, S9.out.own, S9.out.bel⟩
end Go.Proofs.YtbgdoemealddpaaDoor
