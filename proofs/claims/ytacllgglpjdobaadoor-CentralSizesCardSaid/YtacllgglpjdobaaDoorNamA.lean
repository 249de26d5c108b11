/-
  THE CONTRACTS OF THE LIBRARY'S strings.Index (at a /), HasPrefix, Clone, SplitSeq; name's isRightRune. Strings of at most 2^40 bytes.
-/
import Derived.Test.YtacllgglpjdobaaDoorNam
import Derived.Test.YtacllgglpjdobaaDoorRst
import Derived.Test.YtacllgglpjdobaaDoorBase
import Derived.Lib.Strings
import Derived.Lib.Slices
import Derived.Lib.Walk
import Derived.Lib.Bytealg
import Derived.Lib.BufferWrite
import Derived.Lib.UnsafeStr
import Derived.Laws.MakeOwn
import Derived.RangeFuncCalls
import Derived.RangeFuncLeaves
import Derived.RangeFuncBound
import Derived.RangeFuncNested
import Derived.Shelf.Abstract
import Derived.OwnWalkIn
import Derived.TacticsInMore
import Derived.LoopNIn
import Derived.LoopIn
namespace Go.Proofs.YtacllgglpjdobaaDoor
open Go.RowKit Go.Shelf
set_option maxRecDepth 1000000
set_option linter.unusedVariables false

theorem toList_S (l : List UInt8) : (S l).data.toList = l := by simp [S]
/-- where the first / stands -/
theorem index_at (p r : List UInt8) (h : 47 ∉ p) : Lib.indexByte (p ++ 47 :: r) 47 = p.length := by
  induction p with
  | nil => rfl
  | cons x q ih =>
    have h1 : (x == 47) = false := by
      rw [beq_eq_false_iff_ne]; intro e; exact h (by simp [e])
    have h2 := ih (fun e => h (by simp [e]))
    show Lib.indexByte (x :: (q ++ 47 :: r)) 47 = _
    unfold Lib.indexByte
    rw [h1, h2]
    have h3 : ((q.length : Int) == -1) = false := by rw [beq_eq_false_iff_ne]; omega
    rw [if_neg (by simp), h3, if_neg (by simp), List.length_cons]
    omega
theorem index_no (p : List UInt8) (h : 47 ∉ p) : Lib.indexByte p 47 = -1 := by
  induction p with
  | nil => rfl
  | cons x q ih =>
    have h1 : (x == 47) = false := by
      rw [beq_eq_false_iff_ne]; intro e; exact h (by simp [e])
    have h2 := ih (fun e => h (by simp [e]))
    unfold Lib.indexByte
    rw [h1, h2]
    rfl
theorem IndexByteL_c (s : ByteArray) (c : Int) (w : World) :
    Calls Tryd.prog 72 #[.string s, .int .u8 c] w fun e w' => e = .returned (.int .i64 (Lib.indexByte s.data.toList c.toNat.toUInt8)) ∧ w' = w := by
  go_enter Tryd.func72, Tryd.ntmps72
  go_wp2
  rw [run_callFunc_extern Tryd.func76 (by kernel_rfl) (by kernel_rfl) (by kernel_rfl) (e := Extern.BytealgIndexByte.indexByte) (by kernel_rfl), Lib.run_indexByteString]
  simp only [Result.andThen]
  rw [Oper.upon_value]
  go_wp2
  go_ret
  exact ⟨rfl, rfl⟩
set_option maxHeartbeats 2000000 in
theorem IndexL_c (s : ByteArray) (w : World) :
    Calls Tryd.prog 71 #[.string s, .string ⟨#[47]⟩] w fun e w' => e = .returned (.int .i64 (Lib.indexByte s.data.toList 47)) ∧ w' = w := by
  go_enter Tryd.func71, Tryd.ntmps71
  go_wp2_with (go_at_call 72; refine (IndexByteL_c _ _ _).mono ?_; rintro e w' ⟨rfl, rfl⟩)
  · have h : ([47] == s.toList) = true := by assumption
    go_ret
    refine ⟨?_, rfl⟩
    have e : s.data.toList = [47] := by rw [← Lib.toList_data]; exact (beq_iff_eq.1 h).symm
    rw [e]
    rfl
  · go_ret
    exact ⟨rfl, rfl⟩
theorem Index_c16 (s : ByteArray) (w : World) :
    Calls Tryd.prog 67 #[.string s, .string ⟨#[47]⟩] w fun e w' => e = .returned (.int .i64 (Lib.indexByte s.data.toList 47)) ∧ w' = w := by
  go_enter Tryd.func67, Tryd.ntmps67
  go_wp2_with (go_at_call 71; refine (IndexL_c _ _).mono ?_; rintro e w' ⟨rfl, rfl⟩)
  go_ret
  exact ⟨rfl, rfl⟩
theorem rune_c (c : Nat) (hc : c ≤ 2000000) (w : World) :
    Calls Tryd.prog 38 #[.int .i32 (c : Int)] w fun e w' => e = .returned (.bool (okc c)) ∧ w = w' := by
  have hcs : c < 32 ∨ (127 ≤ c ∧ c ≤ 159) ∨ c = 92 ∨ c = 58 ∨ c = 65533 ∨ (32 ≤ c ∧ (c < 127 ∨ 159 < c) ∧ c ≠ 92 ∧ c ≠ 58 ∧ c ≠ 65533) := by omega
  rcases hcs with h | ⟨h1, h2⟩ | h | h | h | ⟨h1, h2, h3, h4, h5⟩
  · have hE : Hid (okc c = false) := decide_eq_false (by omega)
    go_enter Tryd.func38, Tryd.ntmps38
    go_wp2
    go_ret
    rw [hE.out]
    exact ⟨rfl, rfl⟩
  · have hE : Hid (okc c = false) := decide_eq_false (by omega)
    have b1 : ¬ c < 32 := by omega
    go_enter Tryd.func38, Tryd.ntmps38
    go_wp2
    go_ret
    rw [hE.out]
    exact ⟨rfl, rfl⟩
  · subst h
    go_enter Tryd.func38, Tryd.ntmps38
    go_wp2
    go_ret
    exact ⟨rfl, rfl⟩
  · subst h
    go_enter Tryd.func38, Tryd.ntmps38
    go_wp2
    go_ret
    exact ⟨rfl, rfl⟩
  · subst h
    go_enter Tryd.func38, Tryd.ntmps38
    go_wp2
    go_ret
    exact ⟨rfl, rfl⟩
  · have hE : Hid (okc c = true) := decide_eq_true (by omega)
    have b1 : ¬ c < 32 := by omega
    have b3 : ((c : Int) == 92) = false := by rw [beq_eq_false_iff_ne]; omega
    have b4 : ((c : Int) == 58) = false := by rw [beq_eq_false_iff_ne]; omega
    have b5 : ((c : Int) == 65533) = false := by rw [beq_eq_false_iff_ne]; omega
    rcases h2 with h2 | h2
    · have b2 : ¬ 127 ≤ c := by omega
      go_enter Tryd.func38, Tryd.ntmps38
      go_wp2
      go_ret
      rw [hE.out]
      exact ⟨rfl, rfl⟩
    · have b2 : 127 ≤ c := by omega
      have b6 : ¬ c ≤ 159 := by omega
      go_enter Tryd.func38, Tryd.ntmps38
      go_wp2
      go_ret
      rw [hE.out]
      exact ⟨rfl, rfl⟩
end Go.Proofs.YtacllgglpjdobaaDoor
