/-
  LENGTHS' AND DISTANCES' CODES: their bases and further bits, the code's own contracts. No conditions (but that the tables lie as the program's text lays them).
  LENGTHS' AND DISTANCES' CODES: the document's own answers are the same. No conditions.
  LENGTHS' AND DISTANCES' CODES: the document's own Length and Dist, the order, the laws' own examples. No conditions.
-/
import Derived.Test.YtldgdofefcehnaaGreatDoorBase
import Derived.Lib.MinMax
import Derived.OwnWalk
namespace Go.Proofs.YtldgdofefcehnaaGreatDoor
section
open Go.RowKit
set_option maxRecDepth 100000
set_option linter.unusedVariables false
def lbT : List Nat := [3, 4, 5, 6, 7, 8, 9, 10, 11, 13, 15, 17, 19, 23, 27, 31, 35, 43, 51, 59, 67, 83, 99, 115, 131, 163, 195, 227, 258]
def dbT : List Nat := [1, 2, 3, 4, 5, 7, 9, 13, 17, 25, 33, 49, 65, 97, 129, 193, 257, 385, 513, 769, 1025, 1537, 2049, 3073, 4097, 6145, 8193, 12289, 16385, 24577]
def lb (k : Nat) : Nat := lbT.getD k 0
def db (k : Nat) : Nat := dbT.getD k 0
def lx (k : Nat) : Nat := if k = 28 then 0 else k / 4 - 1
def dx (k : Nat) : Nat := k / 2 - 1
def fndL (n : Nat) : Nat → Nat
 | 0 => 0
 | k + 1 => if n < lb (k + 1) then fndL n k else k + 1
def fndD (n : Nat) : Nat → Nat
 | 0 => 0
 | k + 1 => if n < db (k + 1) then fndD n k else k + 1
theorem fndL_hit {n k : Nat} (h : lb k ≤ n) : fndL n k = k := by
 cases k with
 | zero => rfl
 | succ k => exact if_neg (by omega)
theorem fndD_hit {n k : Nat} (h : db k ≤ n) : fndD n k = k := by
 cases k with
 | zero => rfl
 | succ k => exact if_neg (by omega)
theorem lb_lt {k : Nat} (h : k < 29) : lb k < 259 := by
 have : ∀ k, k < 29 → lb k < 259 := by decide +kernel
 exact this k h
theorem db_lt {k : Nat} (h : k < 30) : db k < 24578 := by
 have : ∀ k, k < 30 → db k < 24578 := by decide +kernel
 exact this k h
theorem db_pos {k : Nat} (h : k < 30) : 1 ≤ db k := by
 have : ∀ k, k < 30 → 1 ≤ db k := by decide +kernel
 exact this k h
theorem lb_next {k : Nat} (h : k < 27) : lb (k + 1) = lb k + 2 ^ lx k := by
 have : ∀ k, k < 27 → lb (k + 1) = lb k + 2 ^ lx k := by decide +kernel
 exact this k h
theorem db_next {k : Nat} (h : k < 29) : db (k + 1) = db k + 2 ^ dx k := by
 have : ∀ k, k < 29 → db (k + 1) = db k + 2 ^ dx k := by decide +kernel
 exact this k h
structure Tabs (w : World) : Prop where
 size : 1 < w.heap.size
 len : ∀ i, i < 29 → w.cell? ⟨0, i, none⟩ = some (.int .i64 (lb i : Nat))
 dist : ∀ i, i < 30 → w.cell? ⟨1, i, none⟩ = some (.int .i64 (db i : Nat))
theorem Tabs.below {w w' : World} (h : Tabs w) (hb : Below w.heap.size w w') : Tabs w' :=
 ⟨by have := hb.size; have := h.size; omega, fun i hi => (hb.cell (p := ⟨0, i, none⟩) (by have := h.size; show 0 < _; omega)).trans (h.len i hi), fun i hi => (hb.cell (p := ⟨1, i, none⟩) h.size).trans (h.dist i hi)⟩
theorem Tabs.drewN {w : World} (h : Tabs w) (q : Nat) : Tabs (w.drewN q) := ⟨h.size, h.len, h.dist⟩
def lokI (c : Int) : Bool := decide (257 ≤ c ∧ c ≤ 285)
def lbI (c : Int) : Nat := if 257 ≤ c ∧ c ≤ 285 then lb (c - 257).toNat else 0
def lxI (c : Int) : Nat := if 257 ≤ c ∧ c ≤ 285 then lx (c - 257).toNat else 0
def dokI (c : Int) : Bool := decide (0 ≤ c ∧ c ≤ 29)
def dbI (c : Int) : Nat := if 0 ≤ c ∧ c ≤ 29 then db c.toNat else 0
def dxI (c : Int) : Nat := if 0 ≤ c ∧ c ≤ 29 then dx c.toNat else 0
def lenC (n : Int) : Nat := if 3 ≤ n ∧ n ≤ 258 then 257 + fndL n.toNat 28 else 0
def lenX (n : Int) : Nat := if 3 ≤ n ∧ n ≤ 258 then lx (fndL n.toNat 28) else 0
def lenV (n : Int) : Nat := if 3 ≤ n ∧ n ≤ 258 then n.toNat - lb (fndL n.toNat 28) else 0
def dstC (n : Int) : Nat := if 1 ≤ n ∧ n ≤ 32768 then fndD n.toNat 29 else 0
def dstX (n : Int) : Nat := if 1 ≤ n ∧ n ≤ 32768 then dx (fndD n.toNat 29) else 0
def dstV (n : Int) : Nat := if 1 ≤ n ∧ n ≤ 32768 then n.toNat - db (fndD n.toNat 29) else 0
theorem lok_no {c : Int} (h : ¬ (257 ≤ c ∧ c ≤ 285)) : lokI c = false ∧ lbI c = 0 ∧ lxI c = 0 := ⟨decide_eq_false h, if_neg h, if_neg h⟩
theorem lok_at (k : Nat) (h : k < 29) : lokI ((257 + k : Nat) : Int) = true ∧ lbI ((257 + k : Nat) : Int) = lb k ∧ lxI ((257 + k : Nat) : Int) = lx k := by
 have h1 : 257 ≤ ((257 + k : Nat) : Int) ∧ ((257 + k : Nat) : Int) ≤ 285 := by omega
 have h2 : (((257 + k : Nat) : Int) - 257).toNat = k := by omega
 exact ⟨decide_eq_true h1, by unfold lbI; rw [if_pos h1, h2], by unfold lxI; rw [if_pos h1, h2]⟩
theorem dok_no {c : Int} (h : ¬ (0 ≤ c ∧ c ≤ 29)) : dokI c = false ∧ dbI c = 0 ∧ dxI c = 0 := ⟨decide_eq_false h, if_neg h, if_neg h⟩
theorem dok_at (k : Nat) (h : k < 30) : dokI (k : Int) = true ∧ dbI (k : Int) = db k ∧ dxI (k : Int) = dx k := by
 have h1 : 0 ≤ (k : Int) ∧ (k : Int) ≤ 29 := by omega
 exact ⟨decide_eq_true h1, by unfold dbI; rw [if_pos h1]; rfl, by unfold dxI; rw [if_pos h1]; rfl⟩
theorem max_quo (k d : Nat) (hd : d = 2 ∨ d = 4) : max ((k : Int) / (d : Int) - 1) 0 = ((k / d - 1 : Nat) : Int) := by
 rcases hd with rfl | rfl <;> omega
set_option maxHeartbeats 400000 in
theorem LengthBase_c (c : Int) (hwf : (Lit.int .i64 c).wf = true) (w : World) (ht : Tabs w) :
  Calls Tryz.prog 116 #[.int .i64 c] w fun e w' => e = .returned (.tuple #[.int .i64 (lbI c : Nat), .int .i64 (lxI c : Nat), .bool (lokI c)]) ∧ w = w' := by
 by_cases h : 257 ≤ c ∧ c ≤ 285
 ·obtain ⟨k, rfl⟩ : ∃ k : Nat, c = ((257 + k : Nat) : Int) := ⟨(c - 257).toNat, by omega⟩
  have hk : k < 29 := by omega
  obtain ⟨e1, e2, e3⟩ := lok_at k hk
  rw [e1, e2, e3]
  have hc := ht.len k hk
  obtain ⟨c, hcc⟩ : ∃ c, c = 257 + k := ⟨_, rfl⟩
  rw [← hcc] at h hwf e1 e2 e3 ⊢
  have s1 : ((c : Int) < 257) = False := by simp; omega
  have s2 : ((285 : Int) < (c : Int)) = False := by simp; omega
  have s3 : (c : Int) - 257 = (k : Int) := by omega
  by_cases h28 : k = 28
  ·obtain rfl : c = 285 := by omega
   have hL : Hid (lb k = 258) := by rw [h28]; rfl
   have hX : Hid (lx k = 0) := by rw [h28]; rfl
   clear hcc e1 e2 e3 h hwf hc h28
   go_enter Tryz.func116, Tryz.ntmps116
   go_wp2
   go_ret3
   rw [hL.out, hX.out]
   exact ⟨rfl, rfl⟩
  ·have s4 : ((c : Int) == 285) = false := by simp; omega
   have hX : Hid (max ((k : Int) / 4 - 1) 0 = ((lx k : Nat) : Int)) := by unfold Hid lx; rw [if_neg h28]; exact max_quo k 4 (.inr rfl)
   have hk29 : (k : Int) < 29 := by omega
   have HCC := Lib.hid hcc
   clear hcc e1 e2 e3 h hwf h28
   go_enter Tryz.func116, Tryz.ntmps116
   go_wp2
   go_ret3
   rw [hX.out]
   exact ⟨rfl, rfl⟩
 ·obtain ⟨e1, e2, e3⟩ := lok_no h
  rw [e1, e2, e3]
  by_cases h1 : c < 257
  ·clear h
   go_enter Tryz.func116, Tryz.ntmps116
   go_wp2
   go_ret3
   exact ⟨rfl, rfl⟩
  ·have h2 : 285 < c := by omega
   clear h
   go_enter Tryz.func116, Tryz.ntmps116
   go_wp2
   go_ret3
   exact ⟨rfl, rfl⟩
set_option maxHeartbeats 400000 in
theorem DistBase_c (c : Int) (hwf : (Lit.int .i64 c).wf = true) (w : World) (ht : Tabs w) :
  Calls Tryz.prog 117 #[.int .i64 c] w fun e w' => e = .returned (.tuple #[.int .i64 (dbI c : Nat), .int .i64 (dxI c : Nat), .bool (dokI c)]) ∧ w = w' := by
 by_cases h : 0 ≤ c ∧ c ≤ 29
 ·obtain ⟨k, rfl⟩ : ∃ k : Nat, c = (k : Int) := ⟨c.toNat, by omega⟩
  have hk : k < 30 := by omega
  obtain ⟨e1, e2, e3⟩ := dok_at k hk
  rw [e1, e2, e3]
  have hc := ht.dist k hk
  have s1 : ((k : Int) < 0) = False := by simp
  have s2 : ((29 : Int) < (k : Int)) = False := by simp; omega
  have hX : Hid (max ((k : Int) / 2 - 1) 0 = ((dx k : Nat) : Int)) := max_quo k 2 (.inl rfl)
  have hk29 : (k : Int) < 30 := by omega
  clear e1 e2 e3 h hwf
  go_enter Tryz.func117, Tryz.ntmps117
  go_wp2
  go_ret3
  rw [hX.out]
  exact ⟨rfl, rfl⟩
 ·obtain ⟨e1, e2, e3⟩ := dok_no h
  rw [e1, e2, e3]
  by_cases h1 : c < 0
  ·clear h
   go_enter Tryz.func117, Tryz.ntmps117
   go_wp2
   go_ret3
   exact ⟨rfl, rfl⟩
  ·have h2 : 29 < c := by omega
   clear h
   go_enter Tryz.func117, Tryz.ntmps117
   go_wp2
   go_ret3
   exact ⟨rfl, rfl⟩
theorem wf_nat (k : Nat) (h : k < 9223372036854775808) : (Lit.int .i64 (k : Int)).wf = true := by
 have hmin : IntKind.i64.min = -9223372036854775808 := rfl
 have hmax : IntKind.i64.max = 9223372036854775807 := rfl
 simp only [Lit.wf, Bool.and_eq_true, decide_eq_true_eq]
 omega
theorem len_no {n : Int} (h : ¬ (3 ≤ n ∧ n ≤ 258)) : lenC n = 0 ∧ lenX n = 0 ∧ lenV n = 0 := ⟨if_neg h, if_neg h, if_neg h⟩
theorem len_at {n k : Nat} (h : 3 ≤ n ∧ n ≤ 258) (hk : fndL n 28 = k) : lenC n = 257 + k ∧ lenX n = lx k ∧ lenV n = n - lb k := by
 have h1 : 3 ≤ (n : Int) ∧ (n : Int) ≤ 258 := by omega
 subst hk
 exact ⟨if_pos h1, if_pos h1, if_pos h1⟩
theorem dst_no {n : Int} (h : ¬ (1 ≤ n ∧ n ≤ 32768)) : dstC n = 0 ∧ dstX n = 0 ∧ dstV n = 0 := ⟨if_neg h, if_neg h, if_neg h⟩
theorem dst_at {n k : Nat} (h : 1 ≤ n ∧ n ≤ 32768) (hk : fndD n 29 = k) : dstC n = k ∧ dstX n = dx k ∧ dstV n = n - db k := by
 have h1 : 1 ≤ (n : Int) ∧ (n : Int) ≤ 32768 := by omega
 subst hk
 exact ⟨if_pos h1, if_pos h1, if_pos h1⟩
set_option maxHeartbeats 1000000 in
theorem Length_c (n : Int) (w : World) (ht : Tabs w) :
  Calls Tryz.prog 69 #[.int .i64 n] w fun e w' => e = .returned (.tuple #[.int .i64 (lenC n : Nat), .int .i64 (lenX n : Nat), .int .i64 (lenV n : Nat)]) ∧ w = w' := by
 by_cases h : 3 ≤ n ∧ n ≤ 258
 ·obtain ⟨n, rfl⟩ : ∃ m : Nat, n = (m : Int) := ⟨n.toNat, by omega⟩
  have hn : 3 ≤ n ∧ n ≤ 258 := by omega
  have s1 : ((n : Int) < 3) = False := by simp; omega
  have s2 : ((258 : Int) < (n : Int)) = False := by simp; omega
  have HT := Lib.hid ht
  have HN := Lib.hid hn
  clear h hn ht
  go_enter Tryz.func69, Tryz.ntmps69
  go_wp2
  go_loop [2] (fun c => ∃ k : Nat, k < 29 ∧ c = .int .i64 ((257 + k : Nat) : Int) ∧ Hid (fndL n 28 = fndL n k)) (fun c => (intOf c).toNat)
  case atStart => exact ⟨28, by omega, rfl, rfl⟩
  case round =>
   obtain ⟨k, hk, rfl, hf⟩ := hrel
   have hc := HT.out.len k hk
   have hl := lb_lt hk
   obtain ⟨c, hcc⟩ : ∃ c, c = 257 + k := ⟨_, rfl⟩
   rw [← hcc]
   have s3 : (c : Int) - 257 = (k : Int) := by omega
   have hk29 : (k : Int) < 29 := by omega
   obtain ⟨b, hb⟩ : ∃ b, b = lb k := ⟨_, rfl⟩
   rw [← hb] at hc hl
   by_cases hlt : n < b
   ·obtain ⟨j, rfl⟩ : ∃ j, k = j + 1 := by
     cases k with
     | zero => exfalso; have := HN.out; have : lb 0 = 3 := rfl; omega
     | succ j => exact ⟨j, rfl⟩
    have hlt' : (n : Int) < (b : Int) := by omega
    have s4 : (c : Int) - 1 = ((257 + j : Nat) : Int) := by omega
    have hj : Hid (fndL n 28 = fndL n j) := by
     unfold Hid
     rw [hf.out]
     exact if_pos (by rw [← hb]; exact hlt)
    obtain ⟨d, hd⟩ : ∃ d, d = 257 + j := ⟨_, rfl⟩
    rw [← hd] at s4
    have HD := Lib.hid hd
    have HCC := Lib.hid hcc
    clear hb hf hd hcc
    have hd2 : d = c - 1 := by omega
    have HD2 := Lib.hid hd2
    clear hd2
    go_wp2
    go_round
    case rel => exact ⟨j, by omega, by rw [HD.out], hj⟩
    case measure => have := HD2.out; have := HD.out; simp [intOf]; omega
   ·have hlt' : ¬ (n : Int) < (b : Int) := by omega
    have hle : lb k ≤ n := by omega
    obtain ⟨r1, r2, r3⟩ := len_at HN.out (hf.out.trans (fndL_hit hle))
    have hcl := LengthBase_c c (wf_nat c (by omega)) w HT.out
    obtain ⟨-, e2, e3⟩ := lok_at k hk
    rw [← hcc] at e2 e3 r1
    rw [e2, e3, ← hb] at hcl
    rw [← hb] at r3
    have R1 := Lib.hid r1
    have R2 := Lib.hid r2
    have R3 := Lib.hid r3
    obtain ⟨d, hd⟩ : ∃ d, d = n - b := ⟨_, rfl⟩
    rw [← hd] at R3
    have s5 : (n : Int) - (b : Int) = (d : Int) := by omega
    have hd9 : d ≤ 32768 := by have := HN.out; omega
    have HCL := Lib.hid hcl
    clear hb hf hcc e2 e3 r1 r2 r3 hle hcl hd
    go_wp2_with (go_at_call 116; refine HCL.out.mono ?_; rintro e w' ⟨rfl, rfl⟩)
    go_ret3
    rw [R1.out, R2.out, R3.out]
    exact ⟨rfl, rfl⟩
 ·obtain ⟨e1, e2, e3⟩ := len_no h
  rw [e1, e2, e3]
  by_cases h1 : n < 3
  ·clear h
   go_enter Tryz.func69, Tryz.ntmps69
   go_wp2
   go_ret3
   exact ⟨rfl, rfl⟩
  ·have h2 : 258 < n := by omega
   clear h
   go_enter Tryz.func69, Tryz.ntmps69
   go_wp2
   go_ret3
   exact ⟨rfl, rfl⟩
set_option maxHeartbeats 1000000 in
theorem Dist_c (n : Int) (w : World) (ht : Tabs w) :
  Calls Tryz.prog 70 #[.int .i64 n] w fun e w' => e = .returned (.tuple #[.int .i64 (dstC n : Nat), .int .i64 (dstX n : Nat), .int .i64 (dstV n : Nat)]) ∧ w = w' := by
 by_cases h : 1 ≤ n ∧ n ≤ 32768
 ·obtain ⟨n, rfl⟩ : ∃ m : Nat, n = (m : Int) := ⟨n.toNat, by omega⟩
  have hn : 1 ≤ n ∧ n ≤ 32768 := by omega
  have s1 : ((n : Int) < 1) = False := by simp; omega
  have s2 : ((32768 : Int) < (n : Int)) = False := by simp; omega
  have HT := Lib.hid ht
  have HN := Lib.hid hn
  clear h hn ht
  go_enter Tryz.func70, Tryz.ntmps70
  go_wp2
  go_loop [2] (fun c => ∃ k : Nat, k < 30 ∧ c = .int .i64 (k : Int) ∧ Hid (fndD n 29 = fndD n k)) (fun c => (intOf c).toNat)
  case atStart => exact ⟨29, by omega, rfl, rfl⟩
  case round =>
   obtain ⟨k, hk, rfl, hf⟩ := hrel
   have hc := HT.out.dist k hk
   have hl := db_lt hk
   have hk29 : (k : Int) < 30 := by omega
   obtain ⟨b, hb⟩ : ∃ b, b = db k := ⟨_, rfl⟩
   rw [← hb] at hc hl
   by_cases hlt : n < b
   ·obtain ⟨j, hkj⟩ : ∃ j, k = j + 1 := by
     cases k with
     | zero => exfalso; have := HN.out; have : db 0 = 1 := rfl; omega
     | succ j => exact ⟨j, rfl⟩
    have hlt' : (n : Int) < (b : Int) := by omega
    have s4 : (k : Int) - 1 = (j : Int) := by omega
    have hj : Hid (fndD n 29 = fndD n j) := by
     unfold Hid
     rw [hf.out, hkj]
     exact if_pos (by rw [← hkj, ← hb]; exact hlt)
    have HD := Lib.hid hkj
    clear hb hf hkj
    go_wp2
    go_round
    case rel => exact ⟨j, by have := HD.out; omega, rfl, hj⟩
    case measure => have := HD.out; simp [intOf]; omega
   ·have hlt' : ¬ (n : Int) < (b : Int) := by omega
    have hle : db k ≤ n := by omega
    obtain ⟨r1, r2, r3⟩ := dst_at HN.out (hf.out.trans (fndD_hit hle))
    have hcl := DistBase_c k (wf_nat k (by omega)) w HT.out
    obtain ⟨-, e2, e3⟩ := dok_at k hk
    rw [e2, e3, ← hb] at hcl
    rw [← hb] at r3
    have R1 := Lib.hid r1
    have R2 := Lib.hid r2
    have R3 := Lib.hid r3
    obtain ⟨d, hd⟩ : ∃ d, d = n - b := ⟨_, rfl⟩
    rw [← hd] at R3
    have s5 : (n : Int) - (b : Int) = (d : Int) := by omega
    have hd9 : d ≤ 32768 := by have := HN.out; omega
    have HCL := Lib.hid hcl
    clear hb hf e2 e3 r1 r2 r3 hle hcl hd
    go_wp2_with (go_at_call 117; refine HCL.out.mono ?_; rintro e w' ⟨rfl, rfl⟩)
    go_ret3
    rw [R1.out, R2.out, R3.out]
    exact ⟨rfl, rfl⟩
 ·obtain ⟨e1, e2, e3⟩ := dst_no h
  rw [e1, e2, e3]
  by_cases h1 : n < 1
  ·clear h
   go_enter Tryz.func70, Tryz.ntmps70
   go_wp2
   go_ret3
   exact ⟨rfl, rfl⟩
  ·have h2 : 32768 < n := by omega
   clear h
   go_enter Tryz.func70, Tryz.ntmps70
   go_wp2
   go_ret3
   exact ⟨rfl, rfl⟩
end
section
open Go.RowKit
set_option maxRecDepth 100000
set_option linter.unusedVariables false
theorem lx_lt {k : Nat} (h : k < 29) : lx k < 6 := by
 have : ∀ k, k < 29 → lx k < 6 := by decide +kernel
 exact this k h
theorem dx_lt {k : Nat} (h : k < 30) : dx k < 14 := by
 have : ∀ k, k < 30 → dx k < 14 := by decide +kernel
 exact this k h
set_option maxHeartbeats 400000 in
theorem lengthBits_c (c k : Nat) (hc : c = 257 + k) (hk : k < 28) (w : World) :
  Calls Tryz.prog 168 #[.int .i64 c] w fun e w' => e = .returned (.int .i64 (lx k : Nat)) ∧ w = w' := by
 by_cases h4 : c < 261
 ·have hX : Hid (lx k = 0) := by unfold Hid lx; rw [if_neg (by omega)]; omega
  have h5 : (c : Int) < 261 := by omega
  clear hc hk h4
  go_enter Tryz.func168, Tryz.ntmps168
  go_wp2
  go_ret
  rw [hX.out]
  exact ⟨rfl, rfl⟩
 ·obtain ⟨j, hj⟩ : ∃ j, c = 261 + j := ⟨c - 261, by omega⟩
  have hX : Hid ((j : Int) / 4 = ((lx k : Nat) : Int)) := by unfold Hid lx; rw [if_neg (by omega)]; omega
  have h5 : ¬ (c : Int) < 261 := by omega
  have h6 : (c : Int) - 261 = (j : Int) := by omega
  have h7 : j < 24 := by omega
  clear hc hk h4 hj
  go_enter Tryz.func168, Tryz.ntmps168
  go_wp2
  go_ret
  rw [hX.out]
  exact ⟨rfl, rfl⟩
set_option maxHeartbeats 400000 in
theorem distBits_c (k : Nat) (hk : k < 30) (w : World) :
  Calls Tryz.prog 169 #[.int .i64 k] w fun e w' => e = .returned (.int .i64 (dx k : Nat)) ∧ w = w' := by
 by_cases h4 : k < 2
 ·have hX : Hid (dx k = 0) := by unfold Hid dx; omega
  have h5 : (k : Int) < 2 := by omega
  clear hk h4
  go_enter Tryz.func169, Tryz.ntmps169
  go_wp2
  go_ret
  rw [hX.out]
  exact ⟨rfl, rfl⟩
 ·obtain ⟨j, hj⟩ : ∃ j, k = 2 + j := ⟨k - 2, by omega⟩
  have hX : Hid ((j : Int) / 2 = ((dx k : Nat) : Int)) := by unfold Hid dx; omega
  have h5 : ¬ (k : Int) < 2 := by omega
  have h6 : (k : Int) - 2 = (j : Int) := by omega
  have h7 : j < 28 := by omega
  clear hk h4 hj
  go_enter Tryz.func169, Tryz.ntmps169
  go_wp2
  go_ret
  rw [hX.out]
  exact ⟨rfl, rfl⟩
set_option maxHeartbeats 1000000 in
theorem RefLengthBase_c (c : Int) (w : World) :
  Calls Tryz.prog 138 #[.int .i64 c] w fun e w' => e = .returned (.tuple #[.int .i64 (lbI c : Nat), .int .i64 (lxI c : Nat), .bool (lokI c)]) ∧ w = w' := by
 by_cases h : 257 ≤ c ∧ c ≤ 285
 ·obtain ⟨k, rfl⟩ : ∃ k : Nat, c = ((257 + k : Nat) : Int) := ⟨(c - 257).toNat, by omega⟩
  have hk : k < 29 := by omega
  obtain ⟨e1, e2, e3⟩ := lok_at k hk
  rw [e1, e2, e3]
  obtain ⟨c, hcc⟩ : ∃ c, c = 257 + k := ⟨_, rfl⟩
  rw [← hcc] at h e1 e2 e3 ⊢
  have s1 : ((c : Int) < 257) = False := by simp; omega
  have s2 : ((285 : Int) < (c : Int)) = False := by simp; omega
  by_cases h28 : k = 28
  ·obtain rfl : c = 285 := by omega
   have hL : Hid (lb k = 258) := by rw [h28]; rfl
   have hX : Hid (lx k = 0) := by rw [h28]; rfl
   clear hcc e1 e2 e3 h h28
   go_enter Tryz.func138, Tryz.ntmps138
   go_wp2
   go_ret3
   rw [hL.out, hX.out]
   exact ⟨rfl, rfl⟩
  ·have s4 : ((c : Int) == 285) = false := by simp; omega
   have HC := Lib.hid hcc
   have hk2 : k < 28 := by omega
   have HL := lengthBits_c c k hcc hk2
   clear hcc e1 e2 e3 h h28 hk
   go_enter Tryz.func138, Tryz.ntmps138
   go_wp2
   go_loop [5, 6] (fun b i => ∃ j d : Nat, j ≤ k ∧ Hid (d = 257 + j) ∧ i = .int .i64 (d : Int) ∧ b = .int .i64 ((lb j : Nat) : Int)) (fun _ i => 600 - (intOf i).toNat)
   case atStart => exact ⟨0, 257, by omega, rfl, rfl, rfl⟩
   case round =>
    obtain ⟨j, d, hj, hd, rfl, rfl⟩ := hrel
    by_cases hlt : j < k
    ·have hdc : (d : Int) < (c : Int) := by have := hd.out; have := HC.out; omega
     have hd6 : d < 300 := by have := hd.out; omega
     have hb := lengthBits_c d j hd.out (by omega)
     have hx := lx_lt (k := j) (by omega)
     have hn := lb_next (k := j) (by omega)
     have hl := lb_lt (k := j) (by omega)
     obtain ⟨x, hxx⟩ : ∃ x, x = lx j := ⟨_, rfl⟩
     obtain ⟨y, hyy⟩ : ∃ y, y = lb j := ⟨_, rfl⟩
     rw [← hxx] at hb hx hn
     rw [← hyy] at hl hn ⊢
     have hp : (2 : Nat) ^ x ≤ 2 ^ 5 := Nat.pow_le_pow_right (by decide) (by omega)
     have hsum : Hid (((y : Int) + 2 ^ x : Int) = ((lb (j + 1) : Nat) : Int)) := by
      unfold Hid
      rw [hn]
      push_cast
      rfl
     obtain ⟨p, hpp⟩ : ∃ p : Nat, p = 2 ^ x := ⟨_, rfl⟩
     have hpi : (2 : Int) ^ x = (p : Int) := by rw [hpp]; push_cast; rfl
     rw [← hpp] at hp
     rw [hpi] at hsum
     have hn' : y + p = lb (j + 1) := by rw [hn, hpp]
     have HNN := Lib.hid hn'
     have hp2 : p ≤ 32 := by simpa using hp
     clear hn hxx hyy hpp hp hn'
     have HB := Lib.hid hb
     clear hb
     go_wp2_with (go_at_call 168; refine (HB.out _).mono ?_; rintro e w' ⟨rfl, rfl⟩)
     go_round
     case rel => exact ⟨j + 1, d + 1, by omega, by have := hd.out; unfold Hid; omega, by go_num, by rw [← HNN.out]; go_num⟩
     case measure => have := hd.out; simp [intOf]; omega
    ·obtain rfl : j = k := by omega
     obtain rfl : d = c := by rw [hd.out, HC.out]
     have hdc : ¬ (d : Int) < (d : Int) := by omega
     have HLL := Lib.hid HL
     clear HL
     go_wp2_with (go_at_call 168; refine (HLL.out _).mono ?_; rintro e w' ⟨rfl, rfl⟩)
     go_ret3
     exact ⟨rfl, rfl⟩
 ·obtain ⟨e1, e2, e3⟩ := lok_no h
  rw [e1, e2, e3]
  by_cases h1 : c < 257
  ·clear h
   go_enter Tryz.func138, Tryz.ntmps138
   go_wp2
   go_ret3
   exact ⟨rfl, rfl⟩
  ·have h2 : 285 < c := by omega
   clear h
   go_enter Tryz.func138, Tryz.ntmps138
   go_wp2
   go_ret3
   exact ⟨rfl, rfl⟩
set_option maxHeartbeats 1000000 in
theorem RefDistBase_c (c : Int) (w : World) :
  Calls Tryz.prog 139 #[.int .i64 c] w fun e w' => e = .returned (.tuple #[.int .i64 (dbI c : Nat), .int .i64 (dxI c : Nat), .bool (dokI c)]) ∧ w = w' := by
 by_cases h : 0 ≤ c ∧ c ≤ 29
 ·obtain ⟨k, rfl⟩ : ∃ k : Nat, c = (k : Int) := ⟨c.toNat, by omega⟩
  have hk : k < 30 := by omega
  obtain ⟨e1, e2, e3⟩ := dok_at k hk
  rw [e1, e2, e3]
  have s1 : ((k : Int) < 0) = False := by simp
  have s2 : ((29 : Int) < (k : Int)) = False := by simp; omega
  have HL := Lib.hid (distBits_c k hk)
  clear e1 e2 e3 h
  go_enter Tryz.func139, Tryz.ntmps139
  go_wp2
  go_loop [5, 6] (fun b i => ∃ j : Nat, j ≤ k ∧ i = .int .i64 (j : Int) ∧ b = .int .i64 ((db j : Nat) : Int)) (fun _ i => 600 - (intOf i).toNat)
  case atStart => exact ⟨0, by omega, rfl, rfl⟩
  case round =>
   obtain ⟨j, hj, rfl, rfl⟩ := hrel
   by_cases hlt : j < k
   ·have hdc : (j : Int) < (k : Int) := by omega
    have hb := distBits_c j (by omega)
    have hx := dx_lt (k := j) (by omega)
    have hn := db_next (k := j) (by omega)
    have hl := db_lt (k := j) (by omega)
    obtain ⟨x, hxx⟩ : ∃ x, x = dx j := ⟨_, rfl⟩
    obtain ⟨y, hyy⟩ : ∃ y, y = db j := ⟨_, rfl⟩
    rw [← hxx] at hb hx hn
    rw [← hyy] at hl hn ⊢
    have hp : (2 : Nat) ^ x ≤ 2 ^ 13 := Nat.pow_le_pow_right (by decide) (by omega)
    obtain ⟨p, hpp⟩ : ∃ p : Nat, p = 2 ^ x := ⟨_, rfl⟩
    have hpi : (2 : Int) ^ x = (p : Int) := by rw [hpp]; push_cast; rfl
    rw [← hpp] at hp
    have hn' : y + p = db (j + 1) := by rw [hn, hpp]
    have HNN := Lib.hid hn'
    have hp2 : p ≤ 8192 := by simpa using hp
    clear hn hxx hyy hpp hp hn'
    have HB := Lib.hid hb
    clear hb
    go_wp2_with (go_at_call 169; refine (HB.out _).mono ?_; rintro e w' ⟨rfl, rfl⟩)
    go_round
    case rel => exact ⟨j + 1, by omega, by go_num, by rw [← HNN.out]; go_num⟩
    case measure => simp [intOf]; omega
   ·obtain rfl : j = k := by omega
    have hdc : ¬ (j : Int) < (j : Int) := by omega
    go_wp2_with (go_at_call 169; refine (HL.out _).mono ?_; rintro e w' ⟨rfl, rfl⟩)
    go_ret3
    exact ⟨rfl, rfl⟩
 ·obtain ⟨e1, e2, e3⟩ := dok_no h
  rw [e1, e2, e3]
  by_cases h1 : c < 0
  ·clear h
   go_enter Tryz.func139, Tryz.ntmps139
   go_wp2
   go_ret3
   exact ⟨rfl, rfl⟩
  ·have h2 : 29 < c := by omega
   clear h
   go_enter Tryz.func139, Tryz.ntmps139
   go_wp2
   go_ret3
   exact ⟨rfl, rfl⟩
end
section
open Go.RowKit
set_option maxRecDepth 100000
set_option linter.unusedVariables false
def ordL : List Int := [16, 17, 18, 0, 8, 7, 9, 6, 10, 5, 11, 4, 12, 3, 13, 2, 14, 1, 15]
def ordC : Array Value := (ordL.map fun x => Value.int .i64 x).toArray
def ordV (w : World) : World := w.alloc (.cells ordC 3)
set_option maxHeartbeats 400000 in
theorem Order_c (w : World) : Calls Tryz.prog 110 #[] w fun e w' => e = .returned (.slice (some ⟨w.heap.size, 0, none⟩) 19 19) ∧ w' = ordV w := by
 go_enter Tryz.func110, Tryz.ntmps110
 go_wp2
 go_ret
 exact ⟨rfl, rfl⟩
set_option maxHeartbeats 400000 in
theorem RefOrder_c (w : World) : Calls Tryz.prog 94 #[] w fun e w' => e = .returned (.slice (some ⟨w.heap.size, 0, none⟩) 19 19) ∧ w' = ordV w := by
 go_enter Tryz.func94, Tryz.ntmps94
 go_wp2
 go_ret
 exact ⟨rfl, rfl⟩
theorem ordV_below (w : World) : Below w.heap.size w (ordV w) := (Below.refl _ _).alloc (Nat.le_refl _) _
theorem ordV_row (w : World) : IRow (ordV w) (some ⟨w.heap.size, 0, none⟩) 19 .i64 ordL := by
 refine ⟨rfl, by unfold maxLen; omega, fun _ => ⟨w.heap.size, 0, rfl, by simp [ordV], fun i hi => ?_⟩, ?_⟩
 ·have h := heap_alloc_new w (.cells ordC 3)
  rw [Nat.zero_add]
  show (w.alloc _).cell? _ = _
  rw [cell_of_row _ _ i _ 3 (0, 0) h]
  have : ∀ i, i < 19 → ordC[i]? = some (.int .i64 (gi ordL i)) := by
   intro i hi
   have hl : i < ordL.length := hi
   unfold ordC gi
   rw [List.getElem?_toArray, List.getElem?_map, List.getD_eq_getElem?_getD, List.getElem?_eq_getElem hl]
   rfl
  exact this i hi
 ·have : ∀ i, i < 19 → (Lit.int .i64 (gi ordL i)).wf = true := by decide +kernel
  exact this
theorem ordV_size (w : World) : (ordV w).heap.size = w.heap.size + 1 := by simp [ordV]
end
end Go.Proofs.YtldgdofefcehnaaGreatDoor
