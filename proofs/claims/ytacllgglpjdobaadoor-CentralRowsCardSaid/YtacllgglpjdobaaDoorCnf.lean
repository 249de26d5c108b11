/-
  RECORDS OF THE DIRECTORY, WITHOUT ANY PROGRAM: their bytes, and the numbers at their places. No conditions.
-/
import Derived.Test.YtacllgglpjdobaaDoorCne
import Derived.Test.YtacllgglpjdobaaDoorLocf
namespace Go.Proofs.YtacllgglpjdobaaDoor
open Go.RowKit
set_option maxRecDepth 100000
set_option linter.unusedVariables false

/-- the version that is told -/
def vnC (c : Rc) : Nat := if bh c = 0 then 20 else 45
/-- a record's numbers ahead of its name, with a method, a time and a date of their own -/
def cdP (c : Rc) (m t d : Nat) : List (Nat × Nat) := [(33639248, 4), (45, 2), (vnC c, 2), (2048, 2), (m, 2), (t, 2), (d, 2), (c.h.sum, 4), (min c.h.pk 4294967295, 4), (min c.h.sz 4294967295, 4), (c.h.nm.length, 2), (bh c, 2), (0, 2), (min c.d 65535, 2), (0, 2), (0, 4), (min c.o 4294967295, 4)]
/-- a record's bytes -/
def cdB (c : Rc) (m t d : Nat) : List F := nsB (cdP c m t d) ++ (nmF c.h.nm ++ exB c)
theorem cdP_N (c : Rc) (m t d : Nat) : nsN (cdP c m t d) = 46 := by simp [cdP, nsN]
theorem nmF_length (l : List UInt8) : (nmF l).length = l.length := rfl
theorem cdB_length (c : Rc) (m t d : Nat) : (cdB c m t d).length = 46 + c.h.nm.length + bh c := by
  unfold cdB
  rw [List.length_append, List.length_append, nsB_length, exB_length, cdP_N, nmF_length]
  omega
theorem cdP_ok (c : Rc) (m t d : Nat) (hm : m < 65536) (ht : t < 65536) (hd : d < 65536) (hW : RcW c) (hn : c.h.nm.length ≤ 1000000) : NsOk (cdP c m t d) := by
  have hs := hW.h.sum
  have hb := bh_le c
  have hv : vnC c ≤ 45 := by unfold vnC; split <;> omega
  intro q hq
  unfold two64
  unfold cdP at hq
  simp only [List.mem_cons, List.not_mem_nil, or_false] at hq
  rcases hq with rfl | rfl | rfl | rfl | rfl | rfl | rfl | rfl | rfl | rfl | rfl | rfl | rfl | rfl | rfl | rfl | rfl <;> (refine ⟨?_, ?_⟩ <;> dsimp only <;> omega)
theorem cdB_flat (c : Rc) (m t d : Nat) (X : List F) : cdB c m t d ++ X = putL 33639248 4 ++ (putL 45 2 ++ (putL (vnC c) 2 ++ (putL 2048 2 ++ (putL m 2 ++ (putL t 2 ++ (putL d 2 ++ (putL c.h.sum 4 ++ (putL (min c.h.pk 4294967295) 4 ++ (putL (min c.h.sz 4294967295) 4 ++ (putL c.h.nm.length 2 ++ (putL (bh c) 2 ++ (putL 0 2 ++ (putL (min c.d 65535) 2 ++ (putL 0 2 ++ (putL 0 4 ++ (putL (min c.o 4294967295) 4 ++ (nmF c.h.nm ++ (exB c ++ X)))))))))))))))))) := by
  unfold cdB cdP
  simp [nsB, List.append_assoc]
theorem cdB_ats (c : Rc) (m t d : Nat) (X : List F) : atL (cdB c m t d ++ X) 0 4 = 33639248 ∧ atL (cdB c m t d ++ X) 10 2 = m % 65536 ∧ atL (cdB c m t d ++ X) 12 2 = t % 65536 ∧ atL (cdB c m t d ++ X) 14 2 = d % 65536 ∧ atL (cdB c m t d ++ X) 16 4 = c.h.sum % 4294967296 ∧
    atL (cdB c m t d ++ X) 20 4 = min c.h.pk 4294967295 ∧ atL (cdB c m t d ++ X) 24 4 = min c.h.sz 4294967295 ∧ atL (cdB c m t d ++ X) 28 2 = c.h.nm.length % 65536 ∧ atL (cdB c m t d ++ X) 30 2 = bh c ∧ atL (cdB c m t d ++ X) 34 2 = min c.d 65535 ∧ atL (cdB c m t d ++ X) 42 4 = min c.o 4294967295 := by
  have h1 : min c.h.pk 4294967295 < 4294967296 := by omega
  have h2 : min c.h.sz 4294967295 < 4294967296 := by omega
  have h3 : min c.o 4294967295 < 4294967296 := by omega
  have h4 : min c.d 65535 < 65536 := by omega
  have h5 : bh c < 65536 := by have := bh_le c; omega
  rw [cdB_flat]
  generalize min c.h.pk 4294967295 = a at *
  generalize min c.h.sz 4294967295 = b at *
  generalize min c.o 4294967295 = e at *
  generalize min c.d 65535 = k at *
  generalize bh c = n at *
  refine ⟨?_, ?_, ?_, ?_, ?_, ?_, ?_, ?_, ?_, ?_, ?_⟩ <;> simp [atL_skip, atL_here] <;> assumption
theorem cdB_drop (c : Rc) (m t d : Nat) (X : List F) : (cdB c m t d ++ X).drop 46 = nmF c.h.nm ++ (exB c ++ X) := by
  have e : (nsB (cdP c m t d)).length = 46 := by rw [nsB_length, cdP_N]
  unfold cdB
  rw [List.append_assoc, List.append_assoc, List.drop_append_of_le_length (by rw [e]; exact Nat.le_refl _), List.drop_of_length_le (by rw [e]; exact Nat.le_refl _), List.nil_append]
end Go.Proofs.YtacllgglpjdobaaDoor
