/-
  THE CONTRACTS OF the unpacker's fixedCodes, stored. No conditions.
-/
import Derived.Test.YthnbflkoipnakaaGreatDoorInfD
import Derived.Test.YthnbflkoipnakaaGreatDoorBits
import Derived.Test.YthnbflkoipnakaaGreatDoorBase
import Derived.Deep.RegionHeld3
import Derived.RegionDies
namespace Go.Proofs.YthnbflkoipnakaaGreatDoor
open Go.RowKit
set_option maxRecDepth 100000
set_option linter.unusedVariables false

theorem fix_ok : errC fixL fixL.length = 0 ∧ errC fixD fixD.length = 0 := by decide +kernel
def fixR (i : Nat) : List Int := if i = 0 then List.replicate 144 8 else if i = 1 then List.replicate 112 9 else if i = 2 then List.replicate 24 7 else List.replicate 8 8
theorem fixR_cat : catI fixR 4 = fixL := by decide +kernel
theorem fix_len : (catI fixR 4).length = 288 := by decide +kernel
theorem rep_wf (v : Int) (hv : 0 ≤ v ∧ v ≤ 100) (k : Nat) : ∀ i, i < k → (Lit.int .i64 (gi (List.replicate k v) i)).wf = true := fun i hi => by
  have e : gi (List.replicate k v) i = v := by simp [gi, hi]
  rw [e, show v = ((v.toNat : Nat) : Int) by omega]
  exact wf_nat _ (by omega)
theorem rep_row {w : World} {base k : Nat} {A : Option Addr} {c : Nat} {v : Int} (hv : 0 ≤ v ∧ v ≤ 100) (hk : k ≤ 1000000) (h : w.ownsRow base 3 1 (.slice A k c) k (iC (List.replicate k v))) : IRow w A k .i64 (List.replicate k v) :=
  IRow.ofOwn h (rep_wf v hv k) (by unfold maxLen; omega)
theorem belA {w w' : World} {o : Obj} (b : Below (w.alloc o).heap.size (w.alloc o) w') : Below w.heap.size w w' := ((Below.refl w.heap.size w).alloc (Nat.le_refl _) o).trans (b.mono (by simp))
def pick4 (a b c d : Nat) (i : Nat) : Nat := if i = 0 then a else if i = 1 then b else if i = 2 then c else d
section
variable {w : World} {H p r : Nat} {RA : Option Addr} {len rc : Nat} {l : List F} {A : Option Addr} {n c : Nat} {u : Un} {m : Nat} {x : Value}
theorem getL2 (l : List F) (a : Nat) (h : a + 2 ≤ l.length) : getL (((l.drop a).take 2).take 8) = le2 l a := by
  have e : (l.drop a).take 2 = [gt l a, gt l (a + 1)] := by
    refine ext_gt (by simp; omega) fun i hi => ?_
    simp at hi
    rw [gt_take, if_pos (by omega), gt_drop]
    have h2 : i = 0 ∨ i = 1 := by omega
    rcases h2 with rfl | rfl <;> rfl
  rw [e]
  rfl
theorem le2_lt (l : List F) (a : Nat) : le2 l a < 65536 := by
  have := (gt l a).lt
  have := (gt l (a + 1)).lt
  unfold le2
  omega
theorem xor16 (s : Nat) (h : s < 65536) : bits BinOp.xor IntKind.u64 (s : Int) 65535 = ((65535 - s : Nat) : Int) := by
  rw [show (65535 : Int) = ((65535 : Nat) : Int) from rfl, u64_xor_nat _ _ (by omega) (by omega)]
  congr 1
  refine Nat.eq_of_testBit_eq fun i => ?_
  rw [Nat.testBit_xor, show (65535 : Nat) = 2 ^ 16 - 1 from rfl, Nat.testBit_two_pow_sub_one, show 2 ^ 16 - 1 - s = 2 ^ 16 - (s + 1) by omega, Nat.testBit_two_pow_sub_succ (by omega)]
  by_cases hi : i < 16
  · simp [hi]
  · have : s.testBit i = false := Nat.testBit_lt_two_pow (Nat.lt_of_lt_of_le h (show 2 ^ 16 ≤ 2 ^ i from Nat.pow_le_pow_right (by decide) (by omega)))
    simp [hi, this]
theorem stoF_eq (l : List F) (most : Nat) {u : Un} {a : Nat} (ha : a = (u.at_ + 7) / 8) : stoF l most u =
    if l.length < a + 4 then .error 20
    else if le2 l (a + 2) ≠ 65535 - le2 l a then .error 33
    else if most < u.out.length + le2 l a then (if l.length < a + 4 + (most - u.out.length + 1) then .error 20 else .error 6)
    else if l.length < a + 4 + le2 l a then .error 20
    else .ok ⟨8 * (a + 4 + le2 l a), u.out ++ (l.drop (a + 4)).take (le2 l a)⟩ := by subst ha; rfl
end
end Go.Proofs.YthnbflkoipnakaaGreatDoor
