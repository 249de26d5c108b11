/-
  LENGTHS' AND DISTANCES' CODES: the document's own answers are the same. No conditions.
-/
import Derived.Test.YtbphbogolffanaaDoorSym
namespace Go.Proofs.YtbphbogolffanaaDoor
open Go.RowKit
set_option maxRecDepth 100000
set_option linter.unusedVariables false

theorem lx_lt {k : Nat} (h : k < 29) : lx k < 6 := by
  have : ∀ k, k < 29 → lx k < 6 := by decide +kernel
  exact this k h
theorem dx_lt {k : Nat} (h : k < 30) : dx k < 14 := by
  have : ∀ k, k < 30 → dx k < 14 := by decide +kernel
  exact this k h
set_option maxHeartbeats 400000 in
theorem lengthBits_c (c k : Nat) (hc : c = 257 + k) (hk : k < 28) (w : World) :
    Calls Tryd.prog 65 #[.int .i64 c] w fun e w' => e = .returned (.int .i64 (lx k : Nat)) ∧ w = w' := by
  by_cases h4 : c < 261
  · have hX : Hid (lx k = 0) := by unfold Hid lx; rw [if_neg (by omega)]; omega
    have h5 : (c : Int) < 261 := by omega
    clear hc hk h4
    go_enter Tryd.func65, Tryd.ntmps65
    go_wp2
    go_ret
    rw [hX.out]
    exact ⟨rfl, rfl⟩
  · obtain ⟨j, hj⟩ : ∃ j, c = 261 + j := ⟨c - 261, by omega⟩
    have hX : Hid ((j : Int) / 4 = ((lx k : Nat) : Int)) := by unfold Hid lx; rw [if_neg (by omega)]; omega
    have h5 : ¬ (c : Int) < 261 := by omega
    have h6 : (c : Int) - 261 = (j : Int) := by omega
    have h7 : j < 24 := by omega
    clear hc hk h4 hj
    go_enter Tryd.func65, Tryd.ntmps65
    go_wp2
    go_ret
    rw [hX.out]
    exact ⟨rfl, rfl⟩
set_option maxHeartbeats 400000 in
theorem distBits_c (k : Nat) (hk : k < 30) (w : World) :
    Calls Tryd.prog 66 #[.int .i64 k] w fun e w' => e = .returned (.int .i64 (dx k : Nat)) ∧ w = w' := by
  by_cases h4 : k < 2
  · have hX : Hid (dx k = 0) := by unfold Hid dx; omega
    have h5 : (k : Int) < 2 := by omega
    clear hk h4
    go_enter Tryd.func66, Tryd.ntmps66
    go_wp2
    go_ret
    rw [hX.out]
    exact ⟨rfl, rfl⟩
  · obtain ⟨j, hj⟩ : ∃ j, k = 2 + j := ⟨k - 2, by omega⟩
    have hX : Hid ((j : Int) / 2 = ((dx k : Nat) : Int)) := by unfold Hid dx; omega
    have h5 : ¬ (k : Int) < 2 := by omega
    have h6 : (k : Int) - 2 = (j : Int) := by omega
    have h7 : j < 28 := by omega
    clear hk h4 hj
    go_enter Tryd.func66, Tryd.ntmps66
    go_wp2
    go_ret
    rw [hX.out]
    exact ⟨rfl, rfl⟩
set_option maxHeartbeats 1000000 in
theorem RefLengthBase_c (c : Int) (w : World) :
    Calls Tryd.prog 54 #[.int .i64 c] w fun e w' => e = .returned (.tuple #[.int .i64 (lbI c : Nat), .int .i64 (lxI c : Nat), .bool (lokI c)]) ∧ w = w' := by
  by_cases h : 257 ≤ c ∧ c ≤ 285
  · obtain ⟨k, rfl⟩ : ∃ k : Nat, c = ((257 + k : Nat) : Int) := ⟨(c - 257).toNat, by omega⟩
    have hk : k < 29 := by omega
    obtain ⟨e1, e2, e3⟩ := lok_at k hk
    rw [e1, e2, e3]
    obtain ⟨c, hcc⟩ : ∃ c, c = 257 + k := ⟨_, rfl⟩
    rw [← hcc] at h e1 e2 e3 ⊢
    have s1 : ((c : Int) < 257) = False := by simp; omega
    have s2 : ((285 : Int) < (c : Int)) = False := by simp; omega
    by_cases h28 : k = 28
    · obtain rfl : c = 285 := by omega
      have hL : Hid (lb k = 258) := by rw [h28]; rfl
      have hX : Hid (lx k = 0) := by rw [h28]; rfl
      clear hcc e1 e2 e3 h h28
      go_enter Tryd.func54, Tryd.ntmps54
      go_wp2
      go_ret3
      rw [hL.out, hX.out]
      exact ⟨rfl, rfl⟩
    · have s4 : ((c : Int) == 285) = false := by simp; omega
      have HC := Lib.hid hcc
      have hk2 : k < 28 := by omega
      have HL := lengthBits_c c k hcc hk2
      clear hcc e1 e2 e3 h h28 hk
      go_enter Tryd.func54, Tryd.ntmps54
      go_wp2
      go_loop [5, 6] (fun b i => ∃ j d : Nat, j ≤ k ∧ Hid (d = 257 + j) ∧ i = .int .i64 (d : Int) ∧ b = .int .i64 ((lb j : Nat) : Int)) (fun _ i => 600 - (intOf i).toNat)
      case atStart => exact ⟨0, 257, by omega, rfl, rfl, rfl⟩
      case round =>
        obtain ⟨j, d, hj, hd, rfl, rfl⟩ := hrel
        by_cases hlt : j < k
        · have hdc : (d : Int) < (c : Int) := by have := hd.out; have := HC.out; omega
          have hd6 : d < 300 := by have := hd.out; omega
          have hb := lengthBits_c d j hd.out (by omega)
          have hx := lx_lt (k := j) (by omega)
          have hn := lb_next (k := j) (by omega)
          have hl := lb_lt (k := j) (by omega)
          obtain ⟨x, hxx⟩ : ∃ x, x = lx j := ⟨_, rfl⟩
          obtain ⟨y, hyy⟩ : ∃ y, y = lb j := ⟨_, rfl⟩
          rw [← hxx] at hb hx hn
          rw [← hyy] at hl hn ⊢
          have hp : (2 : Nat) ^ x ≤ 2 ^ 5 := Nat.pow_le_pow_right (by decide) (by omega)
          have hsum : Hid (((y : Int) + 2 ^ x : Int) = ((lb (j + 1) : Nat) : Int)) := by
            unfold Hid
            rw [hn]
            push_cast
            rfl
          obtain ⟨p, hpp⟩ : ∃ p : Nat, p = 2 ^ x := ⟨_, rfl⟩
          have hpi : (2 : Int) ^ x = (p : Int) := by rw [hpp]; push_cast; rfl
          rw [← hpp] at hp
          rw [hpi] at hsum
          have hn' : y + p = lb (j + 1) := by rw [hn, hpp]
          have HNN := Lib.hid hn'
          have hp2 : p ≤ 32 := by simpa using hp
          clear hn hxx hyy hpp hp hn'
          have HB := Lib.hid hb
          clear hb
          go_wp2_with (go_at_call 65; refine (HB.out _).mono ?_; rintro e w' ⟨rfl, rfl⟩)
          go_round
          case rel => exact ⟨j + 1, d + 1, by omega, by have := hd.out; unfold Hid; omega, by go_num, by rw [← HNN.out]; go_num⟩
          case measure => have := hd.out; simp [intOf]; omega
        · obtain rfl : j = k := by omega
          obtain rfl : d = c := by rw [hd.out, HC.out]
          have hdc : ¬ (d : Int) < (d : Int) := by omega
          have HLL := Lib.hid HL
          clear HL
          go_wp2_with (go_at_call 65; refine (HLL.out _).mono ?_; rintro e w' ⟨rfl, rfl⟩)
          go_ret3
          exact ⟨rfl, rfl⟩
  · obtain ⟨e1, e2, e3⟩ := lok_no h
    rw [e1, e2, e3]
    by_cases h1 : c < 257
    · clear h
      go_enter Tryd.func54, Tryd.ntmps54
      go_wp2
      go_ret3
      exact ⟨rfl, rfl⟩
    · have h2 : 285 < c := by omega
      clear h
      go_enter Tryd.func54, Tryd.ntmps54
      go_wp2
      go_ret3
      exact ⟨rfl, rfl⟩
set_option maxHeartbeats 1000000 in
theorem RefDistBase_c (c : Int) (w : World) :
    Calls Tryd.prog 55 #[.int .i64 c] w fun e w' => e = .returned (.tuple #[.int .i64 (dbI c : Nat), .int .i64 (dxI c : Nat), .bool (dokI c)]) ∧ w = w' := by
  by_cases h : 0 ≤ c ∧ c ≤ 29
  · obtain ⟨k, rfl⟩ : ∃ k : Nat, c = (k : Int) := ⟨c.toNat, by omega⟩
    have hk : k < 30 := by omega
    obtain ⟨e1, e2, e3⟩ := dok_at k hk
    rw [e1, e2, e3]
    have s1 : ((k : Int) < 0) = False := by simp
    have s2 : ((29 : Int) < (k : Int)) = False := by simp; omega
    have HL := Lib.hid (distBits_c k hk)
    clear e1 e2 e3 h
    go_enter Tryd.func55, Tryd.ntmps55
    go_wp2
    go_loop [5, 6] (fun b i => ∃ j : Nat, j ≤ k ∧ i = .int .i64 (j : Int) ∧ b = .int .i64 ((db j : Nat) : Int)) (fun _ i => 600 - (intOf i).toNat)
    case atStart => exact ⟨0, by omega, rfl, rfl⟩
    case round =>
      obtain ⟨j, hj, rfl, rfl⟩ := hrel
      by_cases hlt : j < k
      · have hdc : (j : Int) < (k : Int) := by omega
        have hb := distBits_c j (by omega)
        have hx := dx_lt (k := j) (by omega)
        have hn := db_next (k := j) (by omega)
        have hl := db_lt (k := j) (by omega)
        obtain ⟨x, hxx⟩ : ∃ x, x = dx j := ⟨_, rfl⟩
        obtain ⟨y, hyy⟩ : ∃ y, y = db j := ⟨_, rfl⟩
        rw [← hxx] at hb hx hn
        rw [← hyy] at hl hn ⊢
        have hp : (2 : Nat) ^ x ≤ 2 ^ 13 := Nat.pow_le_pow_right (by decide) (by omega)
        obtain ⟨p, hpp⟩ : ∃ p : Nat, p = 2 ^ x := ⟨_, rfl⟩
        have hpi : (2 : Int) ^ x = (p : Int) := by rw [hpp]; push_cast; rfl
        rw [← hpp] at hp
        have hn' : y + p = db (j + 1) := by rw [hn, hpp]
        have HNN := Lib.hid hn'
        have hp2 : p ≤ 8192 := by simpa using hp
        clear hn hxx hyy hpp hp hn'
        have HB := Lib.hid hb
        clear hb
        go_wp2_with (go_at_call 66; refine (HB.out _).mono ?_; rintro e w' ⟨rfl, rfl⟩)
        go_round
        case rel => exact ⟨j + 1, by omega, by go_num, by rw [← HNN.out]; go_num⟩
        case measure => simp [intOf]; omega
      · obtain rfl : j = k := by omega
        have hdc : ¬ (j : Int) < (j : Int) := by omega
        go_wp2_with (go_at_call 66; refine (HL.out _).mono ?_; rintro e w' ⟨rfl, rfl⟩)
        go_ret3
        exact ⟨rfl, rfl⟩
  · obtain ⟨e1, e2, e3⟩ := dok_no h
    rw [e1, e2, e3]
    by_cases h1 : c < 0
    · clear h
      go_enter Tryd.func55, Tryd.ntmps55
      go_wp2
      go_ret3
      exact ⟨rfl, rfl⟩
    · have h2 : 29 < c := by omega
      clear h
      go_enter Tryd.func55, Tryd.ntmps55
      go_wp2
      go_ret3
      exact ⟨rfl, rfl⟩
end Go.Proofs.YtbphbogolffanaaDoor
