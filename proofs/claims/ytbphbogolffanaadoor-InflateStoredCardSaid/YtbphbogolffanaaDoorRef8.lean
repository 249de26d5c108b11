/-
  THE CONTRACTS OF THE DOCUMENT's OWN ANSWERS FOR LAYER 8: Put, Code, Align. A row of noughts and ones.
-/
import Derived.Test.YtbphbogolffanaaDoorBit
import Derived.Test.YtbphbogolffanaaDoorNum
import Derived.Test.YtbphbogolffanaaDoorLit
import Derived.Test.YtbphbogolffanaaDoorRowOut
namespace Go.Proofs.YtbphbogolffanaaDoor
open Go.RowKit
set_option maxRecDepth 100000
set_option linter.unusedVariables false

/-- a bit as a byte; a row of them -/
def bf (b : Bool) : F := if b then 1 else 0
def bc (X : List Bool) : List F := X.map bf
theorem bf_n (b : Bool) : (bf b).n = if b then 1 else 0 := by cases b <;> rfl
theorem bc_length (X : List Bool) : (bc X).length = X.length := by simp [bc]
theorem bc_append (X Y : List Bool) : bc (X ++ Y) = bc X ++ bc Y := by simp [bc]
theorem gt_bc {X : List Bool} {i : Nat} (h : i < X.length) : gt (bc X) i = bf (gbit X i) := by
  rw [gt_lt (by rw [bc_length]; exact h)]
  simp [bc, gbit, h]
theorem bc_inj {X Y : List Bool} (h : bc X = bc Y) : X = Y := by
  unfold bc at h
  refine (List.map_inj_right (fun x y e => ?_)).1 h
  cases x <;> cases y <;> first | rfl | exact absurd e (by decide)
theorem bit_byte (v j : Nat) : ((v : Int) / 2 ^ j).tmod 2 % 256 = ((bf (v.testBit j)).n : Int) := by
  rw [bf_n, show (v : Int) / 2 ^ j = ((v / 2 ^ j : Nat) : Int) by simp, Int.tmod_eq_emod_of_nonneg (Int.natCast_nonneg _), Nat.testBit_eq_decide_div_mod_eq]
  generalize v / 2 ^ j = q
  rcases Nat.mod_two_eq_zero_or_one q with h | h
  · simp [h]; omega
  · simp [h]; omega
theorem half32 (v j : Nat) (hv : v < 4294967296) : ((v : Int) / 2 ^ j).tdiv 2 % 4294967296 = ((v / 2 ^ (j + 1) : Nat) : Int) := by
  have h1 : v / 2 ^ j < 4294967296 := Nat.lt_of_le_of_lt (Nat.div_le_self _ _) hv
  rw [Nat.pow_succ, ← Nat.div_div_eq_div_mul, show (v : Int) / 2 ^ j = ((v / 2 ^ j : Nat) : Int) by simp, Int.tdiv_eq_ediv_of_nonneg (Int.natCast_nonneg _)]
  generalize v / 2 ^ j = q at *
  omega
theorem putB_succ8 (v j : Nat) : putB v (j + 1) = putB v j ++ [v.testBit j] := range_map_succ _ _
theorem bc_one (b : Bool) : cs (bc [b]) = [.int .u8 (bf b).n] := rfl
set_option maxHeartbeats 2000000 in
theorem RefPutB_c (B : Option Addr) (m cb : Nat) (X : List Bool) (w : World) (hB : Row w B m (bc X)) (hm : m ≤ 1000000) (v : Nat) (hv : v < 4294967296) (s : Int) :
    Calls Tryd.prog 76 #[.slice B m cb, .int .u32 v, .int .i64 s] w fun e w' => ∃ A c, e = .returned (.slice A (m + heldN s 32) c) ∧ w'.ownsRow w.heap.size 5 1 (.slice A (m + heldN s 32) c) (m + heldN s 32) (cs (bc (X ++ putB v (heldN s 32)))) ∧ Below w.heap.size w w' := by
  obtain ⟨i0, hi, hz0, hz1, hz2⟩ := info_parts info_u8
  go_enter Tryd.func76, Tryd.ntmps76
  go_wp2_with (go_at_call 11; refine (Copy_c B m cb _ _ hB (by omega)).mono ?_; rintro e w1 ⟨A1, c1, rfl, hown1, hb1⟩)
  go_loopw [1, 7, 8] (fun u o i wr => ∃ (k c : Nat) (A : Option Addr), k ≤ heldN s 32 ∧ i = .int .i64 k ∧ u = .int .u32 ((v / 2 ^ k : Nat) : Int) ∧ o = .slice A (m + k) c ∧ wr.ownsRow w.heap.size 5 1 (.slice A (m + k) c) (m + k) (cs (bc (X ++ putB v k))) ∧ Below w.heap.size w wr) (fun _ _ i _ => 32 - (intOf i).toNat)
  case atStart => exact ⟨0, c1, A1, by omega, rfl, by simp, rfl, by rw [show putB v 0 = [] from rfl, List.append_nil]; exact hown1, hb1⟩
  case round =>
    obtain ⟨k, c, A, hk, rfl, rfl, rfl, hown, hbel⟩ := hrel
    have hle := heldN_le s 32
    have hh : ((heldN s 32 : Nat) : Int) = min (max s 0) 32 := by unfold heldN; omega
    by_cases hlt : k < heldN s 32
    · have hks : (k : Int) < s := by omega
      have hk8 : (k : Int) < 32 := by omega
      clear hh
      have hb := Lib.hid (bit_byte v k)
      have hq := Lib.hid (half32 v k hv)
      have hws := hbel.size
      clear hv
      go_wp2_with (at_builtin; refine wpList_append_own _ rfl _ _ 22 rfl w.heap.size 5 i0 (.int .u8 0) 1 1 Tryd.underlying22 hi hz0 hz1 hz2 rfl (by decide) _ _ _ rfl (hown.alloc _) ⟨wr.heap.size, 0, none⟩ 1 1 [.int .u8 (((v : Int) / 2 ^ k).tmod 2 % 256)] rfl rfl (one_cell wr _ _) (by intro u hu; simp at hu; subst hu; rfl) (by unfold maxLen; omega) (by omega) (by simp; omega) ?_; intro v' w1 hown' hgrow hnil)
      obtain ⟨V', cv', hv, _⟩ := own_shape hown'
      subst hv
      go_wp2
      go_roundw
      case rel =>
        refine ⟨k + 1, cv', V', by omega, by go_num, by rw [← hq.out], rfl, ?_, (hbel.alloc hbel.size _).grown hgrow (by simp; omega) (fun g hg => (hown.lt g hg).1)⟩
        rw [hb.out] at hown'
        rw [putB_succ8, ← List.append_assoc, bc_append, cs_append, bc_one]
        exact hown'
      case measure => simp [intOf]; omega
    · obtain rfl : k = heldN s 32 := by omega
      by_cases hks : ((heldN s 32 : Nat) : Int) < s
      · have hk8 : ¬ ((heldN s 32 : Nat) : Int) < 32 := by omega
        clear hh
        go_wp2
        go_ret
        exact ⟨A, c, rfl, hown, hbel⟩
      · clear hh
        go_wp2
        go_ret
        exact ⟨A, c, rfl, hown, hbel⟩
/-- a slice's length -/
def lenOf8 : Value → Nat | .slice _ n _ => n | _ => 0
/-- the first j of a number's k lowest bits, the highest one first -/
def codeQ (v k j : Nat) : List Bool := (List.range j).map fun i => v.testBit (k - 1 - i)
theorem codeQ_succ (v k j : Nat) : codeQ v k (j + 1) = codeQ v k j ++ [v.testBit (k - 1 - j)] := range_map_succ _ _
set_option maxHeartbeats 2000000 in
theorem RefCodeB_c (B : Option Addr) (m cb : Nat) (X : List Bool) (w : World) (hB : Row w B m (bc X)) (hm : m ≤ 1000000) (v : Nat) (hv : v < 4294967296) (s : Int) :
    Calls Tryd.prog 72 #[.slice B m cb, .int .u32 v, .int .i64 s] w fun e w' => ∃ A c, e = .returned (.slice A (m + heldN s 32) c) ∧ w'.ownsRow w.heap.size 5 1 (.slice A (m + heldN s 32) c) (m + heldN s 32) (cs (bc (X ++ codeB v (heldN s 32)))) ∧ Below w.heap.size w w' := by
  obtain ⟨i0, hi, hz0, hz1, hz2⟩ := info_parts info_u8
  have hput := RefPutB_c none 0 0 [] w (Row.nil w none) (by omega) v hv s
  rw [Nat.zero_add, List.nil_append] at hput
  have hle := heldN_le s 32
  generalize hk : heldN s 32 = k at *
  clear hk
  have HP := Lib.hid hput
  clear hput
  go_enter Tryd.func72, Tryd.ntmps72
  go_wp2_with (first
    | (go_at_call 76; refine HP.out.mono ?_; rintro e w1 ⟨A1, c1, rfl, hown1, hb1⟩)
    | (go_at_call 11; refine (Copy_c B m cb _ _ (hB.below hb1) (by omega)).mono ?_; rintro e w2 ⟨A2, c2, rfl, hown2, hb2⟩))
  have hlow := (own_in hown1).row
  clear hown1
  go_loopw [8, 9] (fun o i wr => ∃ (e c : Nat) (A : Option Addr), e ≤ k ∧ i = .int .i64 ((e : Int) - 1) ∧ o = .slice A (m + (k - e)) c ∧ wr.ownsRow w1.heap.size 5 1 (.slice A (m + (k - e)) c) (m + (k - e)) (cs (bc (X ++ codeQ v k (k - e)))) ∧ Below w1.heap.size w1 wr) (fun _ i _ => (intOf i + 1).toNat)
  case atStart => exact ⟨k, c2, A2, Nat.le_refl _, rfl, by rw [Nat.sub_self]; rfl, by rw [Nat.sub_self, show codeQ v k 0 = [] from rfl, List.append_nil]; exact hown2, hb2⟩
  case round =>
    clear hown2
    obtain ⟨e, c, A, he, rfl, rfl, hown, hbel⟩ := hrel
    cases e with
    | zero =>
      rw [show (((0 : Nat) : Int) - 1) = -1 from rfl]
      go_wp2
      go_ret
      exact ⟨A, c, rfl, own_base2 hown hb1.size, hb1.trans (hbel.mono hb1.size)⟩
    | succ e =>
      rw [show (((e + 1 : Nat) : Int) - 1) = (e : Int) by omega]
      obtain ⟨b1, o1, rfl, _, q1⟩ := (hlow.below hbel).at_ (k := e) (by omega)
      have hek : (e : Int) < (k : Int) := by omega
      rw [gt_bc (by rw [putB_length]; omega), gbit_putB, decide_eq_true (show e < k by omega), Bool.true_and] at q1
      have hws := hbel.size
      have hke : Hid (m + (k - (e + 1)) + 1 = m + (k - e)) := by unfold Hid; omega
      have hcode : Hid (codeQ v k (k - e) = codeQ v k (k - (e + 1)) ++ [v.testBit e]) := by
        unfold Hid
        rw [show k - e = k - (e + 1) + 1 by omega, codeQ_succ, show k - 1 - (k - (e + 1)) = e by omega]
      go_wp2_with (at_builtin; refine wpList_append_own _ rfl _ _ 22 rfl w1.heap.size 5 i0 (.int .u8 0) 1 1 Tryd.underlying22 hi hz0 hz1 hz2 rfl (by decide) _ _ _ rfl (hown.alloc _) ⟨wr.heap.size, 0, none⟩ 1 1 [.int .u8 (bf (v.testBit e)).n] rfl rfl (one_cell wr _ _) (by intro u hu; simp at hu; subst hu; rfl) (by unfold maxLen; omega) (by omega) (by simp; omega) ?_; intro v' w3 hown' hgrow hnil)
      obtain ⟨V', cv', hv, _⟩ := own_shape hown'
      subst hv
      go_wp2
      go_roundw
      case rel =>
        refine ⟨e, cv', V', by omega, rfl, by rw [← hke.out], ?_, (hbel.alloc hbel.size _).grown hgrow (by simp; omega) (fun g hg => (hown.lt g hg).1)⟩
        rw [hke.out] at hown'
        rw [hcode.out, ← List.append_assoc, bc_append, cs_append, bc_one]
        exact hown'
      case measure => simp [intOf]
end Go.Proofs.YtbphbogolffanaaDoor
