/-
  A FINDER IN MEMORY, and the contracts of chain, looks, Same. No conditions.
-/
import Derived.Test.YtldgdofefcehnaaGreatDoorMch
import Derived.Test.YtldgdofefcehnaaGreatDoorMcz
import Derived.Lib.MinMax
import Derived.StillTailTactics
import Derived.RegionTactic
namespace Go.Proofs.YtldgdofefcehnaaGreatDoor
open Go.RowKit
set_option maxRecDepth 100000
set_option linter.unusedVariables false
structure FinC (C : Array Value) (bv : Value) (lev : Nat) (s : Fs) (lv : Value) : Prop where
 size : C.size = 32772
 c0 : C[0]? = some bv
 c1 : C[1]? = some (.int .i64 (s.at_ : Nat))
 c2 : C[2]? = some (.int .i64 (lev : Nat))
 hd : ∀ c, c < 32768 → C[3 + c]? = some (.int .i32 (s.hd c : Nat))
 c4 : C[32771]? = some lv
def l32 (f : Nat → Nat) (n : Nat) : List Value := (List.range n).map fun i => .int .i32 (f i : Nat)
theorem l32_length (f : Nat → Nat) (n : Nat) : (l32 f n).length = n := by simp [l32]
theorem l32_at {f : Nat → Nat} {n i : Nat} (h : i < n) : (l32 f n)[i]? = some (.int .i32 (f i : Nat)) := by simp [l32, h]
theorem l32_set {f : Nat → Nat} {n i : Nat} (v : Nat) (h : i < n) : (l32 f n).set i (.int .i32 (v : Nat)) = l32 (fun x => if x = i then v else f x) n := by
 refine List.ext_getElem? fun k => ?_
 by_cases hk : k < n
 ·rw [l32_at hk]
  by_cases e : i = k
  ·subst e; rw [List.getElem?_set_self (by rw [l32_length]; exact hk), if_pos rfl]
  ·rw [List.getElem?_set_ne e, l32_at hk, if_neg (fun e2 => e e2.symm)]
 ·rw [List.getElem?_eq_none (by rw [List.length_set, l32_length]; omega), List.getElem?_eq_none (by rw [l32_length]; omega)]
structure Fin_ (w : World) (H p gl : Nat) (B : Option Addr) (n cb : Nat) (l : List F) (lev : Nat) (s : Fs) : Prop where
 blk : ∃ C, Blk w p 97 C ∧ FinC C (.slice B n cb) lev s (.slice (some ⟨gl, 0, none⟩) n n)
 lks : w.ownsRow gl 21 1 (.slice (some ⟨gl, 0, none⟩) n n) n (l32 s.lk n)
 row : RowIn w B n cb l
 lob : 0 < n → ∀ b o, B = some ⟨b, o, none⟩ → b < H
 hH : H ≤ p ∧ H ≤ gl
 ne : p ≠ gl
 few : n ≤ 100000 ∧ lev ≤ 9
 le : s.at_ ≤ n
theorem pow2 (k : Nat) : ((2 : Int) ^ k) = ((2 ^ k : Nat) : Int) := by simp
namespace Fin_
variable {w w' : World} {H p gl : Nat} {B : Option Addr} {n cb : Nat} {l : List F} {lev : Nat} {s : Fs}
theorem len_ (h : Fin_ w H p gl B n cb l lev s) : l.length = n := h.row.row.len
theorem lt (h : Fin_ w H p gl B n cb l lev s) : p < w.heap.size := by obtain ⟨C, h1, _⟩ := h.blk; exact h1.lt
theorem below (h : Fin_ w H p gl B n cb l lev s) (hb : Below w.heap.size w w') : Fin_ w' H p gl B n cb l lev s := by
 obtain ⟨C, h1, h2⟩ := h.blk
 exact ⟨⟨C, h1.below h1.lt hb, h2⟩, own_below h.lks hb, h.row.below hb, h.lob, h.hH, h.ne, h.few, h.le⟩
theorem drewN (h : Fin_ w H p gl B n cb l lev s) (q : Nat) : Fin_ (w.drewN q) H p gl B n cb l lev s :=
 h.below (w' := w.drewN q) (below_drewN (Below.refl _ _) q)
theorem cells (h : Fin_ w H p gl B n cb l lev s) : w.cell? ⟨p, 0, none⟩ = some (.slice B n cb) ∧ w.cell? ⟨p, 1, none⟩ = some (.int .i64 (s.at_ : Nat)) ∧ w.cell? ⟨p, 2, none⟩ = some (.int .i64 (lev : Nat)) ∧ w.cell? ⟨p, 32771, none⟩ = some (.slice (some ⟨gl, 0, none⟩) n n) ∧ ∀ c, c < 32768 → w.cell? ⟨p, 3 + c, none⟩ = some (.int .i32 (s.hd c : Nat)) := by
 obtain ⟨C, h1, h2⟩ := h.blk
 exact ⟨(h1.cell 0).trans h2.c0, (h1.cell 1).trans h2.c1, (h1.cell 2).trans h2.c2, (h1.cell 32771).trans h2.c4, fun c hc => (h1.cell (3 + c)).trans (h2.hd c hc)⟩
end Fin_
section
variable {w : World} {H p gl : Nat} {B : Option Addr} {n cb : Nat} {l : List F} {lev : Nat} {s : Fs}
theorem looks_c (h : Fin_ w H p gl B n cb l lev s) :
  Calls Tryz.prog 106 #[.pointer (some ⟨p, 0, none⟩)] w fun e w' => e = .returned (.int .i64 (lookF lev : Nat)) ∧ w = w' := by
 obtain ⟨_, _, c2, _, _⟩ := h.cells
 have hl := h.few.2
 clear h
 by_cases h0 : lev = 0
 ·have hz : ((lev : Int) == 0) = true := by rw [beq_iff_eq]; omega
  have hL : Hid (lookF lev = 0) := by unfold Hid lookF; rw [if_pos h0]
  clear h0
  go_enter Tryz.func106, Tryz.ntmps106
  go_wp2
  go_ret
  rw [hL.out]
  exact ⟨rfl, rfl⟩
 ·have hz : ((lev : Int) == 0) = false := by rw [beq_eq_false_iff_ne]; omega
  obtain ⟨k, hk⟩ : ∃ k, k = lev - 1 := ⟨_, rfl⟩
  obtain ⟨P, hP⟩ : ∃ P, P = 2 ^ k := ⟨_, rfl⟩
  have hL : Hid (lookF lev = 4 * P) := by unfold Hid lookF; rw [if_neg h0, hP, hk]
  have hk1 : (lev : Int) - 1 = (k : Int) := by omega
  have hk8 : k ≤ 8 := by omega
  have hpw : (2 : Int) ^ k = (P : Int) := by rw [pow2, hP]
  have hP256 : P ≤ 256 := by rw [hP]; exact Nat.pow_le_pow_right (by decide) hk8
  clear h0 hk hP
  go_enter Tryz.func106, Tryz.ntmps106
  go_wp2
  go_ret
  rw [hL.out]
  exact ⟨ret_i64 (by push_cast; omega), rfl⟩
theorem or32 (x y k : Nat) (hx : x < 2 ^ k) (hxy : x + 2 ^ k * y < 4294967296) : bits .or .u32 (x : Int) ((2 ^ k * y : Nat) : Int) = ((x + 2 ^ k * y : Nat) : Int) := by
 have ofI : ∀ c : Nat, c < 4294967296 → (BitVec.ofInt 32 (c : Int)).toNat = c := fun c hc => by
  rw [BitVec.ofInt_natCast, BitVec.toNat_ofNat]; exact Nat.mod_eq_of_lt (by omega)
 show IntKind.u32.wrap ((BitVec.ofInt 32 (x : Int) ||| BitVec.ofInt 32 ((2 ^ k * y : Nat) : Int)).toNat : Int) = _
 have e : x ||| 2 ^ k * y = x + 2 ^ k * y := by
  rw [Nat.mul_comm, ← Nat.shiftLeft_eq, Nat.or_comm, ← Nat.shiftLeft_add_eq_or_of_lt hx, Nat.shiftLeft_eq]; omega
 rw [BitVec.toNat_or, ofI x (by omega), ofI _ (by omega), e]
 show ((x + 2 ^ k * y : Nat) : Int) % 4294967296 = _
 omega
theorem chain_no (h : Fin_ w H p gl B n cb l lev s) (hc : chF l s.at_ = none) :
  Calls Tryz.prog 105 #[.pointer (some ⟨p, 0, none⟩)] w fun e w' => e = .returned (.tuple #[.int .u32 0, .bool false]) ∧ ∃ q, w' = w.drewN q := by
 obtain ⟨c0, c1, _, _, _⟩ := h.cells
 have hn := h.few.1
 have hle := h.le
 have hlt : (n : Int) - (s.at_ : Int) < 3 := by
  have := h.len_
  unfold chF at hc
  by_cases e : l.length < s.at_ + 3
  ·omega
  ·rw [if_neg e] at hc; cases hc
 generalize s.at_ = a at *
 clear h hc
 go_enter Tryz.func105, Tryz.ntmps105
 go_wp2
 go_quiet (fail)
 go_wp2
 go_ret2
 exact ⟨rfl, _, rfl⟩
theorem chain_ok (h : Fin_ w H p gl B n cb l lev s) {c : Nat} (hc : chF l s.at_ = some c) :
  Calls Tryz.prog 105 #[.pointer (some ⟨p, 0, none⟩)] w fun e w' => e = .returned (.tuple #[.int .u32 (c : Nat), .bool true]) ∧ ∃ q, w' = w.drewN q := by
 obtain ⟨c0, c1, _, _, _⟩ := h.cells
 have hn := h.few.1
 have hle := h.le
 have hlen := h.len_
 obtain ⟨hc1, hc2⟩ := chF_lt hc
 have hlt : ¬ (n : Int) - (s.at_ : Int) < 3 := by omega
 obtain ⟨b, o, e1, _, q0⟩ := h.row.row.at_ (k := s.at_) (by omega)
 obtain ⟨b1, o1, e2, _, q1⟩ := h.row.row.at_ (k := s.at_ + 1) (by omega)
 obtain ⟨b2, o2, e3, _, q2⟩ := h.row.row.at_ (k := s.at_ + 2) (by omega)
 subst e1
 injection e2 with e2
 injection e2 with e4 e5 _
 injection e3 with e3
 injection e3 with e6 e7 _
 subst e4 e5 e6 e7
 unfold chF at hc
 rw [if_neg (by omega)] at hc
 injection hc with hc
 generalize gt l s.at_ = x0 at *
 generalize gt l (s.at_ + 1) = x1 at *
 generalize gt l (s.at_ + 2) = x2 at *
 generalize s.at_ = a at *
 have l0 := x0.lt
 have l1 := x1.lt
 have l2 := x2.lt
 have i0 : (a : Int) < (n : Int) := by omega
 have i1 : (a : Int) + 1 < (n : Int) := by omega
 have i2 : (a : Int) + 2 < (n : Int) := by omega
 have o1 : bits .or .u32 (x0.n : Int) ((x1.n : Int) * 256) = ((x0.n + 256 * x1.n : Nat) : Int) := by
  have := or32 x0.n x1.n 8 l0 (by omega)
  rw [show ((x1.n : Int) * 256) = ((2 ^ 8 * x1.n : Nat) : Int) by omega, this]
 obtain ⟨V1, hV1⟩ : ∃ V1, V1 = x0.n + 256 * x1.n := ⟨_, rfl⟩
 rw [← hV1] at o1
 have o2 : bits .or .u32 (V1 : Int) ((x2.n : Int) * 65536) = ((V1 + 65536 * x2.n : Nat) : Int) := by
  have := or32 V1 x2.n 16 (by omega) (by omega)
  rw [show ((x2.n : Int) * 65536) = ((2 ^ 16 * x2.n : Nat) : Int) by omega, this]
 obtain ⟨V, hV⟩ : ∃ V, V = V1 + 65536 * x2.n := ⟨_, rfl⟩
 rw [← hV] at o2
 have o3 : (V : Int) * 2654435761 % 4294967296 / 131072 = (c : Int) := by
  have h9 : V * 2654435761 % 4294967296 / 131072 = c := by rw [hV, hV1]; exact hc
  have h8 : ((V * 2654435761 % 4294967296 / 131072 : Nat) : Int) = (c : Int) := by rw [h9]
  rw [← h8, Int.natCast_ediv, Int.natCast_emod, Int.natCast_mul]
  rfl
 clear h hV hV1 hc
 go_enter Tryz.func105, Tryz.ntmps105
 go_wp2
 go_quiet (fail)
 go_wp2
 go_quiet (fail)
 go_wp2
 go_ret2
 exact ⟨rfl, _, rfl⟩
end
def smZ (l : List F) (i k : Int) : Nat := if i < 0 ∨ k < 0 then 0 else smF l i.toNat k.toNat
set_option maxHeartbeats 1000000 in
theorem MSame_c (B : Option Addr) (n cb : Nat) (l : List F) (w : World) (hr : RowIn w B n cb l) (hn : n ≤ 100000) (i k : Int) (hi : i < 9223372036854775808 ∧ -9223372036854775808 ≤ i) (hk : k < 9223372036854775808 ∧ -9223372036854775808 ≤ k) :
  Calls Tryz.prog 107 #[.slice B n cb, .int .i64 i, .int .i64 k] w fun e w' => e = .returned (.int .i64 (smZ l i k : Nat)) ∧ ∃ q, w' = w.drewN q := by
 by_cases hi0 : i < 0
 ·have hz : Hid (smZ l i k = 0) := by unfold Hid smZ; rw [if_pos (.inl hi0)]
  clear hr
  go_enter Tryz.func107, Tryz.ntmps107
  go_wp2
  go_ret
  rw [hz.out]
  exact ⟨rfl, 0, rfl⟩
 by_cases hk0 : k < 0
 ·have hz : Hid (smZ l i k = 0) := by unfold Hid smZ; rw [if_pos (.inr hk0)]
  clear hr
  go_enter Tryz.func107, Tryz.ntmps107
  go_wp2
  go_ret
  rw [hz.out]
  exact ⟨rfl, 0, rfl⟩
 obtain ⟨a, rfl⟩ : ∃ a : Nat, i = (a : Int) := ⟨i.toNat, by omega⟩
 obtain ⟨b, rfl⟩ : ∃ b : Nat, k = (b : Int) := ⟨k.toNat, by omega⟩
 have hz : Hid (smZ l (a : Int) (b : Int) = smF l a b) := by unfold Hid smZ; rw [if_neg (by omega)]; rfl
 rw [hz.out]
 obtain ⟨m, hm⟩ : ∃ m, m = max a b := ⟨_, rfl⟩
 have hmx : max (a : Int) (b : Int) = (m : Int) := by omega
 have hlen := hr.row.len
 have hmb : m < 9223372036854775808 := by omega
 by_cases hout : n ≤ m
 ·have hs : Hid (smF l a b = 0) := smF_out (by omega)
  obtain ⟨mo, hmo⟩ : ∃ mo : Int, mo = (n : Int) - (m : Int) := ⟨_, rfl⟩
  have hmo1 : (n : Int) - (m : Int) = mo := hmo.symm
  have hmn : min mo 258 = mo := by omega
  have hng : decide ((0 : Int) < mo) = false := decide_eq_false (by omega)
  have hmob : -9223372036854775808 ≤ mo ∧ mo ≤ 0 := by omega
  clear hr hlen hout hm hmo
  go_enter Tryz.func107, Tryz.ntmps107
  go_wp2
  go_loopw [8] (fun jv wr => jv = .int .i64 0 ∧ ∃ q, wr = w.drewN q) (fun _ _ => 0)
  case atStart => exact ⟨rfl, 0, rfl⟩
  case round =>
   obtain ⟨rfl, q, rfl⟩ := hrel
   go_wp2
   go_quiet (fail)
   go_wp2
   go_ret
   rw [hs.out]
   exact ⟨rfl, q + nq, World.drewN_drewN _ _ _⟩
 ·obtain ⟨M, hM⟩ : ∃ M, M = min (n - m) 258 := ⟨_, rfl⟩
  obtain ⟨d, hd⟩ : ∃ d, d = n - m := ⟨_, rfl⟩
  have hd1 : (n : Int) - (m : Int) = (d : Int) := by omega
  have hM1 : min (d : Int) 258 = (M : Int) := by omega
  have hM2 : Hid (M ≤ 258 ∧ a + M ≤ n ∧ b + M ≤ n ∧ (M = 258 ∨ a + M = n ∨ b + M = n)) := by unfold Hid; omega
  have hM258 : M ≤ 258 := by omega
  have hab : a ≤ 100000 ∧ b ≤ 100000 := by omega
  have HR := Lib.hid hr
  have HLEN := Lib.hid hlen
  clear hr hlen hout hm hd hM hz
  go_enter Tryz.func107, Tryz.ntmps107
  go_wp2
  go_loopw [8] (fun jv wr => ∃ j q : Nat, jv = .int .i64 j ∧ j ≤ M ∧ wr = w.drewN q ∧ Hid (∀ x, x < j → gt l (a + x) = gt l (b + x))) (fun jv _ => M - (intOf jv).toNat)
  case atStart => exact ⟨0, 0, rfl, by omega, rfl, fun x hx => by omega⟩
  case round =>
   obtain ⟨j, q, rfl, hj, rfl, hs⟩ := hrel
   by_cases hjM : j < M
   ·have hj2 : (j : Int) < (M : Int) := by omega
    have hb2 := hM2.out
    obtain ⟨A1, hA1⟩ : ∃ A1, A1 = a + j := ⟨_, rfl⟩
    obtain ⟨B1, hB1⟩ : ∃ B1, B1 = b + j := ⟨_, rfl⟩
    obtain ⟨b1, o1, rfl, _, q1⟩ := HR.out.row.at_ (k := A1) (by omega)
    obtain ⟨b2, o2, e2, _, q2⟩ := HR.out.row.at_ (k := B1) (by omega)
    injection e2 with e2
    injection e2 with e3 e4 _
    subst e3 e4
    have g1 : (A1 : Int) < (n : Int) := by omega
    have g2 : (B1 : Int) < (n : Int) := by omega
    have w1 : IntKind.i64.wrap ((a : Int) + (j : Int)) = (A1 : Int) := (IntWalk.i64_in _ (by omega)).trans (by omega)
    have w2 : IntKind.i64.wrap ((b : Int) + (j : Int)) = (B1 : Int) := (IntWalk.i64_in _ (by omega)).trans (by omega)
    obtain ⟨x, hx⟩ : ∃ x, x = gt l A1 := ⟨_, rfl⟩
    obtain ⟨y, hy⟩ : ∃ y, y = gt l B1 := ⟨_, rfl⟩
    rw [← hx] at q1
    rw [← hy] at q2
    rw [hA1] at hx
    rw [hB1] at hy
    have hne := n_beq2 x y
    clear hb2 hA1 hB1
    by_cases hE : x = y
    ·have hs2 : Hid (∀ z, z < j + 1 → gt l (a + z) = gt l (b + z)) := fun z hz => by
      rcases Nat.lt_or_ge z j with h9 | h9
      ·exact hs.out z h9
      ·obtain rfl : z = j := by omega
       rw [← hx, ← hy, hE]
     rw [decide_eq_true hE] at hne
     clear hE hx hy
     go_wp2
     go_quiet (fail)
     go_wp2
     go_roundw
     case rel => exact ⟨j + 1, q + nq, by go_num, by omega, rfl, hs2⟩
     case measure => simp [intOf]; omega
    ·have hres : Hid (smF l a b = j) := (smF_is l a b).unique ⟨by omega, by have := hM2.out; have := HLEN.out; omega, hs.out, .inr fun h9 => hE (by rw [hx, hy]; exact h9.2.2)⟩
     rw [decide_eq_false hE] at hne
     clear hE hx hy
     go_wp2
     go_quiet (fail)
     go_wp2
     go_ret
     rw [hres.out]
     exact ⟨rfl, q + nq, World.drewN_drewN _ _ _⟩
   ·have hj2 : ¬ (j : Int) < (M : Int) := by omega
    have hres : Hid (smF l a b = j) := (smF_is l a b).unique (by
     have h1 := hM2.out
     have h2 := HLEN.out
     have h3 : j = M := by omega
     subst h3
     refine ⟨h1.1, .inr (by omega), hs.out, ?_⟩
     rcases h1.2.2.2 with h4 | h4 | h4
     ·exact .inl h4
     ·exact .inr fun h5 => by omega
     ·exact .inr fun h5 => by omega)
    go_wp2
    go_quiet (fail)
    go_wp2
    go_ret
    rw [hres.out]
    exact ⟨rfl, q + nq, World.drewN_drewN _ _ _⟩
end Go.Proofs.YtldgdofefcehnaaGreatDoor
