/-
  LOCAL HEADERS: the document's Numbers. No conditions.
-/
import Derived.Test.YtacllgglpjdobaaDoorLoca
import Derived.Test.YtacllgglpjdobaaDoorLitC
import Derived.Deep.RegionHeld3
namespace Go.Proofs.YtacllgglpjdobaaDoor
open Go.RowKit
set_option maxRecDepth 100000
set_option linter.unusedVariables false

/-- numbers, each in so many bytes -/
def nsB : List (Nat × Nat) → List F
  | [] => []
  | p :: r => putL p.1 p.2 ++ nsB r
def nsN : List (Nat × Nat) → Nat
  | [] => 0
  | p :: r => p.2 + nsN r
theorem nsB_length (P : List (Nat × Nat)) : (nsB P).length = nsN P := by
  induction P with
  | nil => rfl
  | cons p r ih => show (putL p.1 p.2 ++ nsB r).length = p.2 + nsN r; rw [List.length_append, putL_length, ih]
theorem nsB_append (P Q : List (Nat × Nat)) : nsB (P ++ Q) = nsB P ++ nsB Q := by
  induction P with
  | nil => rfl
  | cons p r ih => show putL p.1 p.2 ++ nsB (r ++ Q) = putL p.1 p.2 ++ nsB r ++ nsB Q; rw [ih, List.append_assoc]
theorem nsN_append (P Q : List (Nat × Nat)) : nsN (P ++ Q) = nsN P + nsN Q := by
  induction P with
  | nil => show nsN Q = 0 + nsN Q; omega
  | cons p r ih => show p.2 + nsN (r ++ Q) = p.2 + nsN r + nsN Q; rw [ih]; omega
/-- each number is one, and takes at most eight bytes -/
def NsOk (P : List (Nat × Nat)) : Prop := ∀ p ∈ P, p.1 < two64 ∧ p.2 ≤ 8
theorem nsN_le {P : List (Nat × Nat)} (h : NsOk P) : nsN P ≤ 8 * P.length := by
  induction P with
  | nil => exact Nat.le_refl _
  | cons p r ih =>
    have h1 := (h p (List.mem_cons_self ..)).2
    have h2 := ih (fun q hq => h q (List.mem_cons_of_mem _ hq))
    show p.2 + nsN r ≤ 8 * (r.length + 1)
    omega
theorem held_le8 {k : Nat} (h : k ≤ 8) : heldN ((k : Nat) : Int) 8 = k := by unfold heldN; omega
set_option maxHeartbeats 2000000 in
theorem RNumbers_c (A : Option Addr) (n ca : Nat) (B : Option Addr) (m cb : Nat) (P : List (Nat × Nat)) (hP : NsOk P) (hn : n ≤ 1000) (w : World) (hA : IRow w A n .u64 (P.map fun p => (p.1 : Int))) (hB : IRow w B n .i64 (P.map fun p => (p.2 : Int))) :
    Calls Tryd.prog 46 #[.slice A n ca, .slice B n cb] w fun e w' => ∃ D c N, e = .returned (.slice D N c) ∧ w'.ownsRow w.heap.size 5 1 (.slice D N c) N (cs (nsB P)) ∧ N = nsN P ∧ Below w.heap.size w w' := by
  obtain ⟨i0, hi, hz0, hz1, hz2⟩ := info_parts info_u8
  have hlen : P.length = n := by have := hA.len; rwa [List.length_map] at this
  have HP := Lib.hid hP
  have HA := Lib.hid hA
  have HB := Lib.hid hB
  have HL := Lib.hid hlen
  clear hP hA hB hlen
  go_enter Tryd.func46, Tryd.ntmps46
  go_wp2
  go_loopw [5, 6] (fun ov iv wr => ∃ (k c : Nat) (V : Option Addr), k ≤ n ∧ iv = .int .i64 k ∧ ov = .slice V (nsN (P.take k)) c ∧ Hid (wr.ownsRow w.heap.size 5 1 (.slice V (nsN (P.take k)) c) (nsN (P.take k)) (cs (nsB (P.take k)))) ∧ Hid (Below w.heap.size w wr)) (fun _ iv _ => n - (intOf iv).toNat)
  case atStart => exact ⟨0, 0, _, by omega, rfl, rfl, World.ownsRow_lit (base := w.heap.size) (e := 5) (size := 1) w #[] 0 (Nat.le_refl _) (by unfold maxLen; omega) rfl, (Below.refl _ _).alloc (Nat.le_refl _) _⟩
  case round =>
    obtain ⟨k, c, V, hk, rfl, rfl, hown, hbel⟩ := hrel
    by_cases hlt : k < n
    · have hkn : (k : Int) < n := by omega
      obtain ⟨b1, o1, rfl, l1, q1⟩ := HA.out.at_ hlt
      obtain ⟨b2, o2, rfl, l2, q2⟩ := HB.out.at_ hlt
      have hkP : k < P.length := by rw [HL.out]; exact hlt
      have htk : P.take (k + 1) = P.take k ++ [P[k]] := List.take_succ_eq_append_getElem hkP
      have hok := HP.out P[k] (List.getElem_mem hkP)
      have e1 : gi (P.map fun p => (p.1 : Int)) k = (P[k].1 : Int) := by simp [gi, hkP]
      have e2 : gi (P.map fun p => (p.2 : Int)) k = (P[k].2 : Int) := by simp [gi, hkP]
      rw [e1] at q1
      rw [e2] at q2
      have hle : nsN (P.take k) ≤ 8 * k := by
        have := nsN_le (P := P.take k) (fun p hp => HP.out p (List.mem_of_mem_take hp))
        rw [List.length_take] at this
        omega
      have hcat : Hid (nsB (P.take (k + 1)) = nsB (P.take k) ++ putL P[k].1 P[k].2) := by
        unfold Hid
        rw [htk, nsB_append]
        show _ ++ (putL _ _ ++ []) = _
        rw [List.append_nil]
      have hcn : nsN (P.take (k + 1)) = nsN (P.take k) + P[k].2 := by
        rw [htk, nsN_append]
        rfl
      generalize P[k].1 = v at *
      generalize P[k].2 = s at *
      generalize nsB (P.take k) = Y at *
      generalize nsN (P.take k) = N at *
      have hs9 := hok.2
      have hs8 := held_le8 hs9
      have hv := hok.1
      clear htk e1 e2 hok hkP
      have r1 := (hbel.out.cell (p := ⟨b1, o1 + k, none⟩) (by exact l1)).trans q1
      have r2 := (hbel.out.cell (p := ⟨b2, o2 + k, none⟩) (by exact l2)).trans q2
      go_wp2
      go_region_held3 (fun w' => w'.cell? ⟨b1, o1 + k, none⟩ = some (.int .u64 (v : Nat)) ∧ w'.cell? ⟨b2, o2 + k, none⟩ = some (.int .i64 (s : Nat))) (first
          | go_keep
          | (go_split_ands
             exact ⟨(HB3.cell (p := ⟨b1, o1 + k, none⟩) (by exact l1)).trans q1, (HB3.cell (p := ⟨b2, o2 + k, none⟩) (by exact l2)).trans q2⟩)
          | (go_split_ands
             exact ⟨(HB4.cell (p := ⟨b1, o1 + k, none⟩) (by exact l1)).trans q1, (HB4.cell (p := ⟨b2, o2 + k, none⟩) (by exact l2)).trans q2⟩))
          ((first
            | (refine step_append_row i0 hi hz0 hz1 hz2 (by rfl) (.tmp 14) (.tmp 23) (by rfl) w.heap.size (.slice V N c) N (cs Y) (by simp [go_sem]) HO3 A3 s c3 (putL v s) (by simp [go_sem]) (Row.of_own hown3) (by omega) HB3.size ?_
               intro v4 w4 hL
               obtain ⟨A4, c4, rfl, hown4, hg4, hnw4⟩ := hL
               have HB4 : Below w.heap.size w w4 := HB3.grown hg4 HB3.size (fun g hg => (HO3.lt g hg).1))
            | (go_at_call 47
               refine (RefPut_c v hv (s : Int) _).mono ?_
               rintro e w3 ⟨A3, c3, rfl, hown3, hb3⟩
               rw [hs8] at hown3
               rw [hs8]
               have HB3 : Below w.heap.size w w3 := (below_drewN hbel.out 1).trans (hb3.mono hbel.out.size)
               have HO3 : w3.ownsRow w.heap.size 5 1 (.slice V N c) N (cs Y) := own_below (show (wr.drewN 1).ownsRow w.heap.size 5 1 (.slice V N c) N (cs Y) from hown.out) hb3)))
      rw [← cs_append, ← hcat.out, ← hcn] at hown4
      have HO4 := Lib.hid hown4
      clear hown4 hg4 hnw4
      go_wp2
      go_roundw
      case rel => exact ⟨k + 1, c4, A4, by omega, by go_num, by rw [hcn], HO4, Lib.hid HB4⟩
      case measure => simp [intOf]; omega
    · have hkn : ¬ (k : Int) < n := by omega
      obtain rfl : k = n := by omega
      have ht : P.take k = P := by rw [← HL.out, List.take_length]
      rw [ht] at hown ⊢
      go_wp2
      go_ret
      exact ⟨V, c, _, rfl, hown.out, rfl, hbel.out⟩
end Go.Proofs.YtacllgglpjdobaaDoor
