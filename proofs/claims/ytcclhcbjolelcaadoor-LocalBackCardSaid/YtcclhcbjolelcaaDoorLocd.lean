/-
  LOCAL HEADERS: the document's number at a place. No conditions.
-/
import Derived.Test.YtcclhcbjolelcaaDoorLocc
namespace Go.Proofs.YtcclhcbjolelcaaDoor
open Go.RowKit
set_option maxRecDepth 100000
set_option linter.unusedVariables false

/-- the number of so many bytes at a place -/
def atL (l : List F) (from_ size : Nat) : Nat := getL (((l.drop from_).take size).take 8)
theorem atL_eq (l : List F) (from_ size : Nat) (h : size ≤ 8) : atL l from_ size = getL ((l.drop from_).take size) := by
  unfold atL
  rw [List.take_take, Nat.min_eq_right h]
theorem RAt_c (A : Option Addr) (n c : Nat) (l : List F) (w : World) (h : RowIn w A n c l) (from_ size : Nat) (hf : from_ + size ≤ n) (hn : n ≤ 1000000) :
    Calls Tryd.prog 29 #[.slice A n c, .int .i64 (from_ : Nat), .int .i64 (size : Nat)] w fun e w' => e = .returned (.int .u64 (atL l from_ size : Nat)) ∧ w = w' := by
  have hs := h.slice (a := from_) (M := from_ + size) (by omega) hf
  rw [Nat.add_sub_cancel_left] at hs
  have hc := h.le
  have hm := h.max
  have i1 : (from_ : Int) ≤ (from_ : Int) + (size : Int) := by omega
  have i2 : (from_ : Int) + (size : Int) ≤ (c : Int) := by omega
  have i3 : (0 : Int) ≤ (from_ : Int) := by omega
  have hw : IntKind.i64.wrap ((from_ : Int) + (size : Int)) = (from_ : Int) + (size : Int) := IntWalk.i64_in _ (by omega)
  have t1 : ((from_ : Int) + (size : Int) - (from_ : Int)).toNat = size := by omega
  have t2 : ((c : Int) - (from_ : Int)).toNat = c - from_ := by omega
  clear h
  by_cases hcf : c = from_
  · have H := Lib.hid (hs.1 hcf)
    have t3 : (c : Int) = (from_ : Int) := by omega
    go_enter Tryd.func29, Tryd.ntmps29
    go_wp2_with fail
    refine (RefGet_c _ size 0 _ w H.out.row).mono ?_
    rintro e _ ⟨rfl, rfl⟩
    go_wp2
    go_ret
    exact ⟨rfl, rfl⟩
  · have H := Lib.hid (hs.2 hcf)
    have t3 : ¬ (c : Int) = (from_ : Int) := by omega
    go_enter Tryd.func29, Tryd.ntmps29
    go_wp2_with fail
    refine (RefGet_c _ size (c - from_) _ w H.out.row).mono ?_
    rintro e _ ⟨rfl, rfl⟩
    go_wp2
    go_ret
    exact ⟨rfl, rfl⟩
end Go.Proofs.YtcclhcbjolelcaaDoor
