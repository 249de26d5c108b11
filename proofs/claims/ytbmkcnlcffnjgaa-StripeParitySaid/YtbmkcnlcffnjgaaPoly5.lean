/-
  THE CONTRACT OF poly.standTwice. Rows are as great as memory lets them be.
-/
import Derived.Test.YtbmkcnlcffnjgaaPoly4
namespace Go.Proofs.Ytbmkcnlcffnjgaa
open Go.RowKit
set_option maxRecDepth 100000
set_option linter.unusedVariables false

def seen0 : Array Value := Array.replicate 256 (.bool false)
theorem info_seen : (Try.prog.info? 81).map (fun i => i.zero) = some (some (.agg seen0)) := by kernel_rfl
theorem zero_seen (w : World) : Sem.run Try.prog (zeroValue 81) w = .ok (.agg seen0) w := by
  obtain ⟨i, hi, hz⟩ := Option.map_eq_some_iff.1 info_seen
  simp [zeroValue, typeInfo, hi, hz, Sem.run_bind, Sem.run_pure]

set_option maxHeartbeats 1000000 in
set_option maxRecDepth 100000 in
theorem standTwice_c (A : Option Addr) (n c : Nat) (l : List F) (w : World) (h : Row w A n l) :
    Calls Try.prog 55 #[.slice A n c] w fun e w' => e = .returned (.bool !decide l.Nodup) ∧ Below w.heap.size w w' := by
  have hm := h.max
  have hz := zero_seen
  go_enter Try.func55, Try.ntmps55
  go_wp2
  go_loopw [8] (fun i wr => ∃ (k : Nat) (C : Array Value), k ≤ n ∧ i = .int .i64 k ∧ Blk wr w.heap.size 81 C ∧ Below w.heap.size w wr ∧ Hid (C.size = 256 ∧ (l.take k).Nodup ∧ ∀ x : F, C[x.n]? = some (.bool (decide (x ∈ l.take k))))) (fun i _ => n - (intOf i).toNat)
  case atStart =>
    refine ⟨0, seen0, by omega, rfl, Blk.new _ _ _, (Below.refl _ _).alloc (Nat.le_refl _) _, ?_, ?_, ?_⟩
    · simp [seen0]
    · simp
    · intro x
      have := x.lt
      simp [seen0, this]
  case round =>
    obtain ⟨k, C, hk, rfl, hblk, hbel, hC⟩ := hrel
    by_cases hlt : k < n
    · obtain ⟨b, o, rfl, hb, hc⟩ := h.at_ hlt
      replace hc := (hbel.cell (p := ⟨b, o + k, none⟩) hb).trans hc
      have hx := (gt l k).lt
      have hcx := hblk.cell (gt l k).n
      rw [hC.out.2.2] at hcx
      have hf := hblk.frozen (gt l k).n
      have hlk : k < l.length := by rw [h.len]; exact hlt
      have htk : Hid (l.take (k + 1) = l.take k ++ [gt l k]) := by
        unfold Hid
        rw [gt_lt hlk, List.take_succ_eq_append_getElem hlk]
      by_cases hin : gt l k ∈ l.take k
      · rw [decide_eq_true hin] at hcx
        have hnd : Hid ((!decide l.Nodup) = true) := by
          unfold Hid
          rw [Bool.not_eq_true', decide_eq_false_iff_not]
          intro hd
          have h1 : (l.take (k + 1)).Nodup := hd.sublist (List.take_sublist _ _)
          rw [htk.out, List.nodup_append] at h1
          exact h1.2.2 _ hin _ List.mem_cons_self rfl
        clear hin hlk
        go_wp2
        go_ret
        refine ⟨?_, hbel⟩
        rw [hnd.out]
        rfl
      · rw [decide_eq_false hin] at hcx
        have HIN := Lib.hid hin
        clear hin hlk
        go_wp2
        go_roundw
        case rel =>
          refine ⟨k + 1, _, by omega, by go_num, hblk.set_ _ _, hbel.setCell (Nat.le_refl _) _, ?_, ?_, fun x => ?_⟩
          · simp [hC.out.1]
          · rw [htk.out, List.nodup_append]
            refine ⟨hC.out.2.1, by simp, fun a ha b hb => ?_⟩
            rw [List.mem_singleton] at hb
            subst hb
            exact fun e => HIN.out (e ▸ ha)
          · rw [htk.out, Array.getElem?_setIfInBounds]
            by_cases e : x = gt l k
            · subst e
              rw [if_pos rfl, if_pos (by rw [hC.out.1]; exact hx)]
              simp
            · rw [if_neg (fun e2 => e (F.ext e2.symm)), hC.out.2.2]
              simp [e]
        case measure => simp [intOf]; omega
    · have hnd : Hid ((!decide l.Nodup) = false) := by
        unfold Hid
        have h1 := hC.out.2.1
        rw [List.take_of_length_le (by rw [h.len]; omega)] at h1
        simp [h1]
      go_wp2
      go_ret
      refine ⟨?_, hbel⟩
      rw [hnd.out]
      rfl
end Go.Proofs.Ytbmkcnlcffnjgaa
