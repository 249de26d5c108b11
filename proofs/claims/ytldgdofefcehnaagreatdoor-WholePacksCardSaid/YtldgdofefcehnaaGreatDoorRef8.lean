/-
  THE CONTRACTS OF THE DOCUMENT's OWN ANSWERS FOR LAYER 8: Put, Code, Align. A row of noughts and ones.
  THE CONTRACTS OF THE DOCUMENT's OWN ANSWERS FOR LAYER 8: Bits, Pack, Get.
-/
import Derived.Test.YtldgdofefcehnaaGreatDoorBits
import Derived.Test.YtldgdofefcehnaaGreatDoorBase
namespace Go.Proofs.YtldgdofefcehnaaGreatDoor
section
open Go.RowKit
set_option maxRecDepth 100000
set_option linter.unusedVariables false
def bf (b : Bool) : F := if b then 1 else 0
def bc (X : List Bool) : List F := X.map bf
theorem bf_n (b : Bool) : (bf b).n = if b then 1 else 0 := by cases b <;> rfl
theorem bc_length (X : List Bool) : (bc X).length = X.length := by simp [bc]
theorem bc_append (X Y : List Bool) : bc (X ++ Y) = bc X ++ bc Y := by simp [bc]
theorem gt_bc {X : List Bool} {i : Nat} (h : i < X.length) : gt (bc X) i = bf (gbit X i) := by
 rw [gt_lt (by rw [bc_length]; exact h)]
 simp [bc, gbit, h]
theorem bc_inj {X Y : List Bool} (h : bc X = bc Y) : X = Y := by
 unfold bc at h
 refine (List.map_inj_right (fun x y e => ?_)).1 h
 cases x <;> cases y <;> first | rfl | exact absurd e (by decide)
theorem bit_byte (v j : Nat) : ((v : Int) / 2 ^ j).tmod 2 % 256 = ((bf (v.testBit j)).n : Int) := by
 rw [bf_n, show (v : Int) / 2 ^ j = ((v / 2 ^ j : Nat) : Int) by simp, Int.tmod_eq_emod_of_nonneg (Int.natCast_nonneg _), Nat.testBit_eq_decide_div_mod_eq]
 generalize v / 2 ^ j = q
 rcases Nat.mod_two_eq_zero_or_one q with h | h
 ·simp [h]; omega
 ·simp [h]; omega
theorem half32 (v j : Nat) (hv : v < 4294967296) : ((v : Int) / 2 ^ j).tdiv 2 % 4294967296 = ((v / 2 ^ (j + 1) : Nat) : Int) := by
 have h1 : v / 2 ^ j < 4294967296 := Nat.lt_of_le_of_lt (Nat.div_le_self _ _) hv
 rw [Nat.pow_succ, ← Nat.div_div_eq_div_mul, show (v : Int) / 2 ^ j = ((v / 2 ^ j : Nat) : Int) by simp, Int.tdiv_eq_ediv_of_nonneg (Int.natCast_nonneg _)]
 generalize v / 2 ^ j = q at *
 omega
theorem putB_succ8 (v j : Nat) : putB v (j + 1) = putB v j ++ [v.testBit j] := range_map_succ _ _
theorem bc_one (b : Bool) : cs (bc [b]) = [.int .u8 (bf b).n] := rfl
set_option maxHeartbeats 2000000 in
theorem RefPutB_c (B : Option Addr) (m cb : Nat) (X : List Bool) (w : World) (hB : Row w B m (bc X)) (hm : m ≤ 1000000) (v : Nat) (hv : v < 4294967296) (s : Int) :
  Calls Tryz.prog 140 #[.slice B m cb, .int .u32 v, .int .i64 s] w fun e w' => ∃ A c, e = .returned (.slice A (m + heldN s 32) c) ∧ w'.ownsRow w.heap.size 5 1 (.slice A (m + heldN s 32) c) (m + heldN s 32) (cs (bc (X ++ putB v (heldN s 32)))) ∧ Below w.heap.size w w' := by
 obtain ⟨i0, hi, hz0, hz1, hz2⟩ := info_parts info_u8
 go_enter Tryz.func140, Tryz.ntmps140
 go_wp2_with (go_at_call 22; refine (Copy_c B m cb _ _ hB (by omega)).mono ?_; rintro e w1 ⟨A1, c1, rfl, hown1, hb1⟩)
 go_loopw [1, 7, 8] (fun u o i wr => ∃ (k c : Nat) (A : Option Addr), k ≤ heldN s 32 ∧ i = .int .i64 k ∧ u = .int .u32 ((v / 2 ^ k : Nat) : Int) ∧ o = .slice A (m + k) c ∧ wr.ownsRow w.heap.size 5 1 (.slice A (m + k) c) (m + k) (cs (bc (X ++ putB v k))) ∧ Below w.heap.size w wr) (fun _ _ i _ => 32 - (intOf i).toNat)
 case atStart => exact ⟨0, c1, A1, by omega, rfl, by simp, rfl, by rw [show putB v 0 = [] from rfl, List.append_nil]; exact hown1, hb1⟩
 case round =>
  obtain ⟨k, c, A, hk, rfl, rfl, rfl, hown, hbel⟩ := hrel
  have hle := heldN_le s 32
  have hh : ((heldN s 32 : Nat) : Int) = min (max s 0) 32 := by unfold heldN; omega
  by_cases hlt : k < heldN s 32
  ·have hks : (k : Int) < s := by omega
   have hk8 : (k : Int) < 32 := by omega
   clear hh
   have hb := Lib.hid (bit_byte v k)
   have hq := Lib.hid (half32 v k hv)
   have hws := hbel.size
   clear hv
   go_wp2_with (at_builtin; refine wpList_append_own _ rfl _ _ 22 rfl w.heap.size 5 i0 (.int .u8 0) 1 1 Tryz.underlying22 hi hz0 hz1 hz2 rfl (by decide) _ _ _ rfl (hown.alloc _) ⟨wr.heap.size, 0, none⟩ 1 1 [.int .u8 (((v : Int) / 2 ^ k).tmod 2 % 256)] rfl rfl (one_cell wr _ _) (by intro u hu; simp at hu; subst hu; rfl) (by unfold maxLen; omega) (by omega) (by simp; omega) ?_; intro v' w1 hown' hgrow hnil)
   obtain ⟨V', cv', hv, _⟩ := own_shape hown'
   subst hv
   go_wp2
   go_roundw
   case rel =>
    refine ⟨k + 1, cv', V', by omega, by go_num, by rw [← hq.out], rfl, ?_, (hbel.alloc hbel.size _).grown hgrow (by simp; omega) (fun g hg => (hown.lt g hg).1)⟩
    rw [hb.out] at hown'
    rw [putB_succ8, ← List.append_assoc, bc_append, cs_append, bc_one]
    exact hown'
   case measure => simp [intOf]; omega
  ·obtain rfl : k = heldN s 32 := by omega
   by_cases hks : ((heldN s 32 : Nat) : Int) < s
   ·have hk8 : ¬ ((heldN s 32 : Nat) : Int) < 32 := by omega
    clear hh
    go_wp2
    go_ret
    exact ⟨A, c, rfl, hown, hbel⟩
   ·clear hh
    go_wp2
    go_ret
    exact ⟨A, c, rfl, hown, hbel⟩
def lenOf8 : Value → Nat | .slice _ n _ => n | _ => 0
def codeQ (v k j : Nat) : List Bool := (List.range j).map fun i => v.testBit (k - 1 - i)
theorem codeQ_succ (v k j : Nat) : codeQ v k (j + 1) = codeQ v k j ++ [v.testBit (k - 1 - j)] := range_map_succ _ _
set_option maxHeartbeats 2000000 in
theorem RefCodeB_c (B : Option Addr) (m cb : Nat) (X : List Bool) (w : World) (hB : Row w B m (bc X)) (hm : m ≤ 1000000) (v : Nat) (hv : v < 4294967296) (s : Int) :
  Calls Tryz.prog 179 #[.slice B m cb, .int .u32 v, .int .i64 s] w fun e w' => ∃ A c, e = .returned (.slice A (m + heldN s 32) c) ∧ w'.ownsRow w.heap.size 5 1 (.slice A (m + heldN s 32) c) (m + heldN s 32) (cs (bc (X ++ codeB v (heldN s 32)))) ∧ Below w.heap.size w w' := by
 obtain ⟨i0, hi, hz0, hz1, hz2⟩ := info_parts info_u8
 have hput := RefPutB_c none 0 0 [] w (Row.nil w none) (by omega) v hv s
 rw [Nat.zero_add, List.nil_append] at hput
 have hle := heldN_le s 32
 generalize hk : heldN s 32 = k at *
 clear hk
 have HP := Lib.hid hput
 clear hput
 go_enter Tryz.func179, Tryz.ntmps179
 go_wp2_with (first
  | (go_at_call 140; refine HP.out.mono ?_; rintro e w1 ⟨A1, c1, rfl, hown1, hb1⟩)
  | (go_at_call 22; refine (Copy_c B m cb _ _ (hB.below hb1) (by omega)).mono ?_; rintro e w2 ⟨A2, c2, rfl, hown2, hb2⟩))
 have hlow := (own_in hown1).row
 clear hown1
 go_loopw [8, 9] (fun o i wr => ∃ (e c : Nat) (A : Option Addr), e ≤ k ∧ i = .int .i64 ((e : Int) - 1) ∧ o = .slice A (m + (k - e)) c ∧ wr.ownsRow w1.heap.size 5 1 (.slice A (m + (k - e)) c) (m + (k - e)) (cs (bc (X ++ codeQ v k (k - e)))) ∧ Below w1.heap.size w1 wr) (fun _ i _ => (intOf i + 1).toNat)
 case atStart => exact ⟨k, c2, A2, Nat.le_refl _, rfl, by rw [Nat.sub_self]; rfl, by rw [Nat.sub_self, show codeQ v k 0 = [] from rfl, List.append_nil]; exact hown2, hb2⟩
 case round =>
  clear hown2
  obtain ⟨e, c, A, he, rfl, rfl, hown, hbel⟩ := hrel
  cases e with
  | zero =>
   rw [show (((0 : Nat) : Int) - 1) = -1 from rfl]
   go_wp2
   go_ret
   exact ⟨A, c, rfl, own_base2 hown hb1.size, hb1.trans (hbel.mono hb1.size)⟩
  | succ e =>
   rw [show (((e + 1 : Nat) : Int) - 1) = (e : Int) by omega]
   obtain ⟨b1, o1, rfl, _, q1⟩ := (hlow.below hbel).at_ (k := e) (by omega)
   have hek : (e : Int) < (k : Int) := by omega
   rw [gt_bc (by rw [putB_length]; omega), gbit_putB, decide_eq_true (show e < k by omega), Bool.true_and] at q1
   have hws := hbel.size
   have hke : Hid (m + (k - (e + 1)) + 1 = m + (k - e)) := by unfold Hid; omega
   have hcode : Hid (codeQ v k (k - e) = codeQ v k (k - (e + 1)) ++ [v.testBit e]) := by
    unfold Hid
    rw [show k - e = k - (e + 1) + 1 by omega, codeQ_succ, show k - 1 - (k - (e + 1)) = e by omega]
   go_wp2_with (at_builtin; refine wpList_append_own _ rfl _ _ 22 rfl w1.heap.size 5 i0 (.int .u8 0) 1 1 Tryz.underlying22 hi hz0 hz1 hz2 rfl (by decide) _ _ _ rfl (hown.alloc _) ⟨wr.heap.size, 0, none⟩ 1 1 [.int .u8 (bf (v.testBit e)).n] rfl rfl (one_cell wr _ _) (by intro u hu; simp at hu; subst hu; rfl) (by unfold maxLen; omega) (by omega) (by simp; omega) ?_; intro v' w3 hown' hgrow hnil)
   obtain ⟨V', cv', hv, _⟩ := own_shape hown'
   subst hv
   go_wp2
   go_roundw
   case rel =>
    refine ⟨e, cv', V', by omega, rfl, by rw [← hke.out], ?_, (hbel.alloc hbel.size _).grown hgrow (by simp; omega) (fun g hg => (hown.lt g hg).1)⟩
    rw [hke.out] at hown'
    rw [hcode.out, ← List.append_assoc, bc_append, cs_append, bc_one]
    exact hown'
   case measure => simp [intOf]
set_option maxHeartbeats 2000000 in
theorem RefAlignB_c (B : Option Addr) (m cb : Nat) (X : List Bool) (w : World) (hB : Row w B m (bc X)) (hm : m ≤ 1000000) :
  Calls Tryz.prog 96 #[.slice B m cb] w fun e w' => ∃ A c n, e = .returned (.slice A n c) ∧ Hid (n = 8 * ((m + 7) / 8)) ∧ w'.ownsRow w.heap.size 5 1 (.slice A n c) n (cs (bc (alB X))) ∧ Below w.heap.size w w' := by
 obtain ⟨i0, hi, hz0, hz1, hz2⟩ := info_parts info_u8
 have hXl := hB.len
 rw [bc_length] at hXl
 have HX := Lib.hid hXl
 clear hXl
 go_enter Tryz.func96, Tryz.ntmps96
 go_wp2_with (go_at_call 22; refine (Copy_c B m cb _ _ hB (by omega)).mono ?_; rintro e w1 ⟨A1, c1, rfl, hown1, hb1⟩)
 go_loopw [3] (fun o wr => ∃ (t c : Nat) (A : Option Addr), t ≤ 8 * ((m + 7) / 8) ∧ m ≤ t ∧ o = .slice A t c ∧ wr.ownsRow w.heap.size 5 1 (.slice A t c) t (cs (bc (X ++ List.replicate (t - m) false))) ∧ Below w.heap.size w wr) (fun o _ => 8 * ((m + 7) / 8) - lenOf8 o)
 case atStart => exact ⟨m, c1, A1, by omega, Nat.le_refl _, rfl, by rw [Nat.sub_self, List.replicate_zero, List.append_nil]; exact hown1, hb1⟩
 case round =>
  obtain ⟨t, c, A, ht, hmt, rfl, hown, hbel⟩ := hrel
  have hws := hbel.size
  have hmod : (t : Int).tmod 8 = ((t % 8 : Nat) : Int) := by rw [Int.tmod_eq_emod_of_nonneg (by omega)]; omega
  by_cases h0 : t % 8 = 0
  ·have hb : ((t : Int) % 8 != 0) = false := by rw [bne_eq_false_iff_eq]; omega
   have he : Hid (t = 8 * ((m + 7) / 8)) := by unfold Hid; omega
   have hal : Hid (X ++ List.replicate (t - m) false = alB X) := by unfold Hid alB; rw [HX.out, he.out]
   clear h0 hmod
   go_wp2
   go_ret
   rw [hal.out] at hown
   exact ⟨A, c, t, rfl, he, hown, hbel⟩
  ·have hb : ((t : Int) % 8 != 0) = true := by rw [bne_iff_ne]; omega
   have hlt : t + 1 ≤ 8 * ((m + 7) / 8) := by omega
   have hrep : Hid (X ++ List.replicate (t + 1 - m) false = X ++ List.replicate (t - m) false ++ [false]) := by
    unfold Hid
    rw [show t + 1 - m = t - m + 1 by omega, List.replicate_succ', List.append_assoc]
   clear h0 hmod
   go_wp2_with (at_builtin; refine wpList_append_own _ rfl _ _ 22 rfl w.heap.size 5 i0 (.int .u8 0) 1 1 Tryz.underlying22 hi hz0 hz1 hz2 rfl (by decide) _ _ _ rfl (hown.alloc _) ⟨wr.heap.size, 0, none⟩ 1 1 [.int .u8 0] rfl rfl (one_cell wr _ _) (by intro u hu; simp at hu; subst hu; rfl) (by unfold maxLen; omega) (by omega) (by simp; omega) ?_; intro v' w3 hown' hgrow hnil)
   obtain ⟨V', cv', hv, _⟩ := own_shape hown'
   subst hv
   go_wp2
   go_roundw
   case rel =>
    refine ⟨t + 1, cv', V', hlt, by omega, rfl, ?_, (hbel.alloc hbel.size _).grown hgrow (by simp; omega) (fun g hg => (hown.lt g hg).1)⟩
    rw [hrep.out, bc_append, cs_append]
    exact hown'
   case measure => simp [lenOf8]; omega
end
section
open Go.RowKit
set_option maxRecDepth 100000
set_option linter.unusedVariables false
def bP (l : List F) (n : Nat) : List Bool := (List.range n).map (rb l)
theorem bP_succ (l : List F) (n : Nat) : bP l (n + 1) = bP l n ++ [rb l n] := range_map_succ _ _
theorem rb_at (l : List F) (i k : Nat) (hk : k < 8) : rb l (8 * i + k) = (gt l i).n.testBit k := by
 unfold rb
 rw [show (8 * i + k) / 8 = i by omega, show (8 * i + k) % 8 = k by omega]
theorem bit_byte2 (v j : Nat) (hv : v < 256) : ((v : Int) / 2 ^ j).tmod 2 = ((bf (v.testBit j)).n : Int) := by
 rw [bf_n, show (v : Int) / 2 ^ j = ((v / 2 ^ j : Nat) : Int) by simp, Int.tmod_eq_emod_of_nonneg (Int.natCast_nonneg _), Nat.testBit_eq_decide_div_mod_eq]
 generalize v / 2 ^ j = q
 rcases Nat.mod_two_eq_zero_or_one q with h | h
 ·simp [h]; omega
 ·simp [h]; omega
theorem half8 (v j : Nat) (hv : v < 256) : ((v : Int) / 2 ^ j).tdiv 2 % 256 = ((v / 2 ^ (j + 1) : Nat) : Int) := by
 have h1 : v / 2 ^ j < 256 := Nat.lt_of_le_of_lt (Nat.div_le_self _ _) hv
 rw [Nat.pow_succ, ← Nat.div_div_eq_div_mul, show (v : Int) / 2 ^ j = ((v / 2 ^ j : Nat) : Int) by simp, Int.tdiv_eq_ediv_of_nonneg (Int.natCast_nonneg _)]
 generalize v / 2 ^ j = q at *
 omega
set_option maxHeartbeats 2000000 in
theorem RefBits_c (B : Option Addr) (m cb : Nat) (l : List F) (w : World) (hB : Row w B m l) (hm : m ≤ 10000) :
  Calls Tryz.prog 41 #[.slice B m cb] w fun e w' => ∃ g c, e = .returned (.slice (some ⟨g, 0, none⟩) (8 * m) c) ∧ w'.ownsRow w.heap.size 5 1 (.slice (some ⟨g, 0, none⟩) (8 * m) c) (8 * m) (cs (bc (bitsOf l))) ∧ Below w.heap.size w w' := by
 obtain ⟨i0, hi, hz0, hz1, hz2⟩ := info_parts info_u8
 go_enter Tryz.func41, Tryz.ntmps41
 go_wp2
 go_loopw [3, 4] (fun o i wr => ∃ (j c g : Nat), j ≤ m ∧ i = .int .i64 j ∧ o = .slice (some ⟨g, 0, none⟩) (8 * j) c ∧ wr.ownsRow w.heap.size 5 1 (.slice (some ⟨g, 0, none⟩) (8 * j) c) (8 * j) (cs (bc (bP l (8 * j)))) ∧ Below w.heap.size w wr) (fun _ i _ => m - (intOf i).toNat)
 case atStart => exact ⟨0, 0, _, by omega, rfl, rfl, World.ownsRow_made (e := 5) (size := 1) w #[] 0 (Nat.le_refl _) (Nat.zero_le _) rfl, (Below.refl _ _).alloc (Nat.le_refl _) _⟩
 case round =>
  obtain ⟨j, c, g, hj, rfl, rfl, hown, hbel⟩ := hrel
  by_cases hlt : j < m
  ·have hjm : (j : Int) < m := by omega
   obtain ⟨b1, o1, rfl, _, q1⟩ := (hB.below hbel).at_ hlt
   obtain ⟨x, hx⟩ : ∃ x, x = (gt l j).n := ⟨_, rfl⟩
   have hx256 : x < 256 := by rw [hx]; exact (gt l j).lt
   rw [← hx] at q1
   have HX := Lib.hid hx
   clear hx
   go_wp2
   go_loopw [3, 5, 6] (fun o y i wr => ∃ (k c g : Nat), k ≤ 8 ∧ i = .int .i64 k ∧ y = .int .u8 ((x / 2 ^ k : Nat) : Int) ∧ o = .slice (some ⟨g, 0, none⟩) (8 * j + k) c ∧ wr.ownsRow w.heap.size 5 1 (.slice (some ⟨g, 0, none⟩) (8 * j + k) c) (8 * j + k) (cs (bc (bP l (8 * j + k)))) ∧ Below w.heap.size w wr) (fun _ _ i _ => 8 - (intOf i).toNat)
   case atStart => exact ⟨0, c, g, by omega, rfl, by simp, rfl, hown, hbel⟩
   case round =>
    clear hown hbel q1
    obtain ⟨k, c, g, hk, rfl, rfl, rfl, hown, hbel⟩ := hrel
    by_cases hlk : k < 8
    ·have hki : (k : Int) < 8 := by omega
     have hb := Lib.hid (bit_byte2 x k hx256)
     have hq := Lib.hid (half8 x k hx256)
     have hws := hbel.size
     have hnext : Hid (bP l (8 * j + (k + 1)) = bP l (8 * j + k) ++ [x.testBit k]) := by
      unfold Hid
      rw [← Nat.add_assoc, bP_succ, rb_at l j k hlk, HX.out]
     go_wp2_with (at_builtin; refine wpList_append_lies _ rfl (.tmp 22) (.tmp 25) 22 rfl w.heap.size 5 i0 (.int .u8 0) 1 1 Tryz.underlying22 hi hz0 hz1 hz2 rfl (by decide) (.slice (some ⟨g, 0, none⟩) (8 * j + k) c) (8 * j + k) (cs (bc (bP l (8 * j + k)))) rfl (hown.alloc _) ⟨wr.heap.size, 0, none⟩ 1 1 [.int .u8 (((x : Int) / 2 ^ k).tmod 2)] rfl rfl (one_cell wr _ _) (by intro u hu; simp at hu; subst hu; rfl) (by omega) (by unfold maxLen; omega) (by omega) (by simp; omega) (wr.heap.size + 1) (by simp) ?_; intro g' cv' w3 hown' hgrow hat hlt')
     go_wp2
     go_roundw
     case rel =>
      refine ⟨k + 1, cv', g', by omega, by go_num, by rw [← hq.out], rfl, ?_, (hbel.alloc hbel.size _).grown hgrow (by simp; omega) (fun g hg => (hown.lt g hg).1)⟩
      rw [hb.out] at hown'
      rw [hnext.out, bc_append, cs_append, bc_one]
      exact hown'
     case measure => simp [intOf]; omega
    ·obtain rfl : k = 8 := by omega
     go_wp2
     go_roundw
     case rel => exact ⟨j + 1, c, g, by omega, by go_num, rfl, hown, hbel⟩
     case measure => simp [intOf]; omega
  ·obtain rfl : j = m := by omega
   have hfin : Hid (bP l (8 * j) = bitsOf l) := by unfold Hid bP bitsOf; rw [hB.len]
   go_wp2
   go_ret
   rw [hfin.out] at hown
   exact ⟨g, c, rfl, hown, hbel⟩
theorem top_step (f : Nat → Bool) (m e : Nat) (he : e < m) : bsN f m / 2 ^ e = 2 * (bsN f m / 2 ^ (e + 1)) + (if f e then 1 else 0) := by
 have h := testBit_bsN f m e
 rw [decide_eq_true he, Bool.true_and, Nat.testBit_eq_decide_div_mod_eq] at h
 rw [Nat.pow_succ, ← Nat.div_div_eq_div_mul]
 generalize bsN f m / 2 ^ e = q at *
 rcases Nat.mod_two_eq_zero_or_one q with h1 | h1
 ·rw [h1] at h
  rw [← h]
  simp
  omega
 ·rw [h1] at h
  rw [← h]
  simp
  omega
theorem pack_step (X : List Bool) (j e : Nat) (he : e < 8) : (2 * ((byteN X j : Int) / 2 ^ (e + 1)) % 256 + ((bf (gbit X (8 * j + e))).n : Int)) % 256 = ((byteN X j / 2 ^ e : Nat) : Int) := by
 have h := top_step (fun k => gbit X (8 * j + k)) 8 e he
 have hb : byteN X j / 2 ^ e < 256 := Nat.lt_of_le_of_lt (Nat.div_le_self _ _) (byteN_lt X j)
 have h2 : byteN X j / 2 ^ e = 2 * (byteN X j / 2 ^ (e + 1)) + (if gbit X (8 * j + e) then 1 else 0) := h
 have ec : (byteN X j : Int) / 2 ^ (e + 1) = ((byteN X j / 2 ^ (e + 1) : Nat) : Int) := by simp
 rw [bf_n, ec]
 clear h
 generalize byteN X j / 2 ^ (e + 1) = q at *
 generalize byteN X j / 2 ^ e = t at *
 by_cases hg : gbit X (8 * j + e) = true
 ·rw [if_pos hg] at h2
  rw [if_pos hg]
  omega
 ·rw [if_neg hg] at h2
  rw [if_neg hg]
  omega
set_option maxHeartbeats 2000000 in
theorem RefPack_c (B : Option Addr) (m cb : Nat) (X : List Bool) (w : World) (hB : Row w B m (bc X)) (hm : m ≤ 1000000) :
  Calls Tryz.prog 49 #[.slice B m cb] w fun e w' => ∃ A c n, e = .returned (.slice A n c) ∧ Hid (n = (m + 7) / 8) ∧ w'.ownsRow w.heap.size 5 1 (.slice A n c) n (cs (pack X)) ∧ Below w.heap.size w w' := by
 obtain ⟨i0, hi, hz0, hz1, hz2⟩ := info_parts info_u8
 have hXl := hB.len
 rw [bc_length] at hXl
 have HX := Lib.hid hXl
 clear hXl
 go_enter Tryz.func49, Tryz.ntmps49
 go_wp2_with (go_at_call 96; refine (RefAlignB_c B m cb X _ hB hm).mono ?_; rintro e w1 ⟨A1, c1, n1, rfl, hn1, hown1, hb1⟩)
 have hrow1 := (own_in hown1).row
 obtain ⟨t, ht⟩ : ∃ t, t = (m + 7) / 8 := ⟨_, rfl⟩
 obtain rfl : n1 = 8 * t := by rw [hn1.out, ht]
 have HT := Lib.hid ht
 have ht2 : t ≤ 200000 := by omega
 clear ht hn1 hown1
 go_loopw [4, 5] (fun o i wr => ∃ (j c : Nat) (A : Option Addr), j ≤ t ∧ i = .int .i64 ((8 * j : Nat) : Int) ∧ o = .slice A j c ∧ wr.ownsRow w1.heap.size 5 1 (.slice A j c) j (cs (packN X j)) ∧ Below w1.heap.size w1 wr) (fun _ i _ => 8 * t - (intOf i).toNat)
 case atStart => exact ⟨0, 0, _, by omega, rfl, rfl, World.ownsRow_made w1 #[] 0 (Nat.le_refl _) (Nat.zero_le _) rfl, (Below.refl _ _).alloc (Nat.le_refl _) _⟩
 case round =>
  obtain ⟨j, c, A, hj, rfl, rfl, hown, hbel⟩ := hrel
  by_cases hlt : j < t
  ·have hjm : ((8 * j : Nat) : Int) < ((8 * t : Nat) : Int) := by omega
   have hrow := hrow1.below hbel
   have hbn := byteN_lt X j
   have hws := hbel.size
   go_wp2
   go_loop [6, 7] (fun y i => ∃ e : Nat, e ≤ 8 ∧ i = .int .i64 ((e : Int) - 1) ∧ y = .int .u8 ((byteN X j / 2 ^ e : Nat) : Int)) (fun _ i => (intOf i + 1).toNat)
   case atStart => exact ⟨8, by omega, rfl, by rw [show byteN X j / 2 ^ 8 = 0 from Nat.div_eq_of_lt hbn]; rfl⟩
   case round =>
    obtain ⟨e, he, rfl, rfl⟩ := hrel
    cases e with
    | zero =>
     rw [show (((0 : Nat) : Int) - 1) = -1 from rfl]
     rw [show byteN X j / 2 ^ 0 = byteN X j by simp]
     have hel : Hid (cs (packN X (j + 1)) = cs (packN X j) ++ [.int .u8 ((byteN X j : Nat) : Int)]) := by
      unfold Hid
      show cs (mkF _ (j + 1)) = _
      show cs (mkF (fun j => ofN (byteN X j)) j ++ [ofN (byteN X j)]) = _
      rw [cs_append]
      show _ ++ [Value.int .u8 ((ofN (byteN X j)).n : Int)] = _
      rw [ofN_n _ hbn]
      rfl
     go_wp2_with (at_builtin; refine wpList_append_own _ rfl _ _ 22 rfl w1.heap.size 5 i0 (.int .u8 0) 1 1 Tryz.underlying22 hi hz0 hz1 hz2 rfl (by decide) _ _ _ rfl (hown.alloc _) ⟨wr.heap.size, 0, none⟩ 1 1 [.int .u8 ((byteN X j : Nat) : Int)] rfl rfl (one_cell wr _ _) (by intro u hu; simp at hu; subst hu; rfl) (by unfold maxLen; omega) (by omega) (by simp; omega) ?_; intro v' w3 hown' hgrow hnil)
     obtain ⟨V', cv', hv, _⟩ := own_shape hown'
     subst hv
     go_wp2
     go_roundw
     case rel =>
      refine ⟨j + 1, cv', V', by omega, by go_num, rfl, ?_, (hbel.alloc hbel.size _).grown hgrow (by simp; omega) (fun g hg => (hown.lt g hg).1)⟩
      rw [hel.out]
      exact hown'
     case measure => simp [intOf]; omega
    | succ e =>
     rw [show (((e + 1 : Nat) : Int) - 1) = (e : Int) by omega]
     obtain ⟨b1, o1, rfl, _, q1⟩ := hrow.at_ (k := 8 * j + e) (by omega)
     have hek : (8 * (j : Int) + (e : Int)) < 8 * (t : Int) := by omega
     rw [gt_bc (by rw [alB_length, HX.out, ← HT.out]; omega), gbit_alB] at q1
     have hps := Lib.hid (pack_step X j e (by omega))
     go_wp2
     go_round
     case rel => exact ⟨e, by omega, rfl, by rw [← hps.out]⟩
     case measure => simp [intOf]
  ·obtain rfl : j = t := by omega
   have hfin : Hid (packN X j = pack X) := by unfold Hid pack; rw [HX.out, HT.out]
   go_wp2
   go_ret
   rw [hfin.out] at hown
   exact ⟨A, c, j, rfl, HT.out, own_base2 hown hb1.size, hb1.trans (hbel.mono hb1.size)⟩
theorem Held32_c (x : Int) (w : World) : Calls Tryz.prog 47 #[.int .i64 x, .int .i64 0, .int .i64 32] w fun e w' => e = .returned (.int .i64 (heldN x 32)) ∧ w = w' := by
 go_enter Tryz.func47, Tryz.ntmps47
 go_wp2
 all_goals (go_ret; exact ⟨ret_i64 (by unfold heldN; omega), rfl⟩)
def numX (X : List Bool) (a n : Nat) : Nat := bsN (fun i => gbit X (a + i)) n
theorem get_top (X : List Bool) (a n e : Nat) (hn : n ≤ 32) (he : e < n) : (2 * ((numX X a n : Int) / 2 ^ (e + 1)) % 4294967296 + ((bf (gbit X (a + e))).n : Int) % 4294967296) % 4294967296 = ((numX X a n / 2 ^ e : Nat) : Int) := by
 have h := top_step (fun k => gbit X (a + k)) n e he
 have hlt : numX X a n < 4294967296 := Nat.lt_of_lt_of_le (bsN_lt _ n) (show 2 ^ n ≤ 2 ^ 32 from Nat.pow_le_pow_right (by decide) hn)
 have hb : numX X a n / 2 ^ e < 4294967296 := Nat.lt_of_le_of_lt (Nat.div_le_self _ _) hlt
 have h2 : numX X a n / 2 ^ e = 2 * (numX X a n / 2 ^ (e + 1)) + (if gbit X (a + e) then 1 else 0) := h
 have ec : (numX X a n : Int) / 2 ^ (e + 1) = ((numX X a n / 2 ^ (e + 1) : Nat) : Int) := by simp
 rw [bf_n, ec]
 clear h
 generalize numX X a n / 2 ^ (e + 1) = q at *
 generalize numX X a n / 2 ^ e = t at *
 by_cases hg : gbit X (a + e) = true
 ·rw [if_pos hg] at h2
  rw [if_pos hg]
  omega
 ·rw [if_neg hg] at h2
  rw [if_neg hg]
  omega
set_option maxHeartbeats 2000000 in
theorem RefGetB_no (B : Option Addr) (m cb a : Nat) (s : Int) (w : World) (hm : m ≤ 1000000) (ha : a ≤ m) (hn : m < a + heldN s 32) :
  Calls Tryz.prog 88 #[.slice B m cb, .int .i64 a, .int .i64 s] w fun e w' => e = .returned (.tuple #[.int .u32 0, .bool false]) ∧ w = w' := by
 have hle := heldN_le s 32
 have hheld := Held32_c s
 generalize heldN s 32 = k at *
 have HH := Lib.hid hheld
 have hgt : (m : Int) - (a : Int) < (k : Int) := by omega
 clear hheld
 go_enter Tryz.func88, Tryz.ntmps88
 go_wp2_with (go_at_call 47; refine (HH.out _).mono ?_; rintro e w' ⟨rfl, rfl⟩)
 go_ret2
 exact ⟨rfl, rfl⟩
set_option maxHeartbeats 2000000 in
theorem RefGetB_ok (B : Option Addr) (m cb a : Nat) (s : Int) (X : List Bool) (w : World) (hB : Row w B m (bc X)) (hm : m ≤ 1000000) (hn : a + heldN s 32 ≤ m) :
  Calls Tryz.prog 88 #[.slice B m cb, .int .i64 a, .int .i64 s] w fun e w' => e = .returned (.tuple #[.int .u32 (numX X a (heldN s 32)), .bool true]) ∧ w = w' := by
 have hXl := hB.len
 rw [bc_length] at hXl
 have HX := Lib.hid hXl
 have hle := heldN_le s 32
 have hheld := Held32_c s
 generalize heldN s 32 = k at *
 have HH := Lib.hid hheld
 have hgt : ¬ ((m : Int) - (a : Int) < (k : Int)) := by omega
 have hlt32 : numX X a k < 2 ^ k := bsN_lt _ k
 clear hheld hXl
 go_enter Tryz.func88, Tryz.ntmps88
 go_wp2_with (go_at_call 47; refine (HH.out _).mono ?_; rintro e w' ⟨rfl, rfl⟩)
 go_loop [8, 9] (fun y i => ∃ e : Nat, e ≤ k ∧ i = .int .i64 ((e : Int) - 1) ∧ y = .int .u32 ((numX X a k / 2 ^ e : Nat) : Int)) (fun _ i => (intOf i + 1).toNat)
 case atStart => exact ⟨k, Nat.le_refl _, rfl, by rw [Nat.div_eq_of_lt hlt32]; rfl⟩
 case round =>
  obtain ⟨e, he, rfl, rfl⟩ := hrel
  cases e with
  | zero =>
   rw [show (((0 : Nat) : Int) - 1) = -1 from rfl]
   rw [show numX X a k / 2 ^ 0 = numX X a k by simp]
   go_wp2
   go_ret2
   exact ⟨rfl, rfl⟩
  | succ e =>
   rw [show (((e + 1 : Nat) : Int) - 1) = (e : Int) by omega]
   obtain ⟨b1, o1, rfl, _, q1⟩ := hB.at_ (k := a + e) (by omega)
   have hek : ((a : Int) + (e : Int)) < (m : Int) := by omega
   rw [gt_bc (by rw [HX.out]; omega)] at q1
   have hps := Lib.hid (get_top X a k e hle (by omega))
   go_wp2
   go_round
   case rel => exact ⟨e, by omega, rfl, by rw [← hps.out]⟩
   case measure => simp [intOf]
end
end Go.Proofs.YtldgdofefcehnaaGreatDoor
