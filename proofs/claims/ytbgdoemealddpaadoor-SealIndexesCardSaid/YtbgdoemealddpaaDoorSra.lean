/-
  STRIPES: a geometry: right, long, how many blocks; and the document's. No conditions.
-/
import Derived.Test.YtbgdoemealddpaaDoorBase
namespace Go.Proofs.YtbgdoemealddpaaDoor
open Go.RowKit
set_option maxRecDepth 100000
set_option linter.unusedVariables false

def geC (N K S B : Int) : Array Value := #[.int .i64 N, .int .i64 K, .int .i64 S, .int .i64 B]
def right23 (N K S B : Int) : Bool := decide (1 ≤ N ∧ 0 ≤ K ∧ K ≤ 255 - N ∧ 5 ≤ S ∧ S ≤ 16777216 ∧ 1 ≤ B ∧ B ≤ 16777216)
theorem right23_yes {N K S B : Int} (h1 : 1 ≤ N) (h2 : 0 ≤ K) (h3 : K ≤ 255 - N) (h4 : 5 ≤ S) (h5 : S ≤ 16777216) (h6 : 1 ≤ B) (h7 : B ≤ 16777216) : right23 N K S B = true := decide_eq_true ⟨h1, h2, h3, h4, h5, h6, h7⟩
theorem right23_no {N K S B : Int} (h : ¬ (1 ≤ N ∧ 0 ≤ K ∧ K ≤ 255 - N ∧ 5 ≤ S ∧ S ≤ 16777216 ∧ 1 ≤ B ∧ B ≤ 16777216)) : right23 N K S B = false := decide_eq_false h
structure Wf4 (N K S B : Int) : Prop where
  n : (Lit.int .i64 N).wf = true
  k : (Lit.int .i64 K).wf = true
  s : (Lit.int .i64 S).wf = true
  b : (Lit.int .i64 B).wf = true
theorem rightSize_c (s : Int) (w : World) : Calls Tryd.prog 50 #[.int .i64 s] w fun e w' => e = .returned (.bool (decide (5 ≤ s ∧ s ≤ 16777216))) ∧ w = w' := by
  by_cases h1 : 5 ≤ s
  · by_cases h2 : s ≤ 16777216
    · rw [decide_eq_true (⟨h1, h2⟩ : 5 ≤ s ∧ s ≤ 16777216)]
      go_enter Tryd.func50, Tryd.ntmps50
      go_wp2
      go_ret
      exact ⟨rfl, rfl⟩
    · rw [decide_eq_false (fun h => h2 h.2 : ¬ (5 ≤ s ∧ s ≤ 16777216))]
      go_enter Tryd.func50, Tryd.ntmps50
      go_wp2
      go_ret
      exact ⟨rfl, rfl⟩
  · rw [decide_eq_false (fun h => h1 h.1 : ¬ (5 ≤ s ∧ s ≤ 16777216))]
    go_enter Tryd.func50, Tryd.ntmps50
    go_wp2
    go_ret
    exact ⟨rfl, rfl⟩
theorem info_g23 : (Tryd.prog.info? 23).map (·.size) = some 4 := by kernel_rfl
theorem info_r23 : (Tryd.prog.info? 36).map (·.size) = some 4 := by kernel_rfl
theorem ld_g23 {w : World} {g : Nat} {C : Array Value} (h : Blk w g 23 C) (hC : C.size = 4) : Sem.run Tryd.prog (loadVar 23 ⟨g, 0, none⟩) w = .ok (.agg C) w :=
  run_loadVar_row w g _ _ _ (0, 0) _ h Tryd.underlying23 rfl (by rw [info_g23, hC])
theorem ld_r23 {w : World} {g : Nat} {C : Array Value} (h : Blk w g 36 C) (hC : C.size = 4) : Sem.run Tryd.prog (loadVar 36 ⟨g, 0, none⟩) w = .ok (.agg C) w :=
  run_loadVar_row w g _ _ _ (0, 0) _ h Tryd.underlying36 rfl (by rw [info_r23, hC])
set_option maxHeartbeats 2000000 in
theorem Right_c {N K S B : Int} (h : Wf4 N K S B) (w : World) : Calls Tryd.prog 33 #[.agg #[.int .i64 N, .int .i64 K, .int .i64 S, .int .i64 B]] w fun e w' => e = .returned (.bool (right23 N K S B)) ∧ Below w.heap.size w w' := by
  have hb := (Below.refl w.heap.size w).alloc (Nat.le_refl _) (.cells #[.int .i64 N, .int .i64 K, .int .i64 S, .int .i64 B] 23)
  have hK := Blk.new w 23 #[.int .i64 N, .int .i64 K, .int .i64 S, .int .i64 B]
  have z0 : (w.alloc (.cells #[.int .i64 N, .int .i64 K, .int .i64 S, .int .i64 B] 23)).cell? ⟨w.heap.size, 0, none⟩ = some (.int .i64 N) := hK.cell 0
  have z1 : (w.alloc (.cells #[.int .i64 N, .int .i64 K, .int .i64 S, .int .i64 B] 23)).cell? ⟨w.heap.size, 1, none⟩ = some (.int .i64 K) := hK.cell 1
  have z2 : (w.alloc (.cells #[.int .i64 N, .int .i64 K, .int .i64 S, .int .i64 B] 23)).cell? ⟨w.heap.size, 2, none⟩ = some (.int .i64 S) := hK.cell 2
  have z3 : (w.alloc (.cells #[.int .i64 N, .int .i64 K, .int .i64 S, .int .i64 B] 23)).cell? ⟨w.heap.size, 3, none⟩ = some (.int .i64 B) := hK.cell 3
  have HB := Lib.hid hb
  clear hb hK
  have wn := wf_i64 h.n
  have wk := wf_i64 h.k
  have ws := wf_i64 h.s
  have wb := wf_i64 h.b
  by_cases h1 : 1 ≤ N
  · by_cases h2 : 0 ≤ K
    · by_cases h3 : K ≤ 255 - N
      · by_cases h4 : 5 ≤ S ∧ S ≤ 16777216
        · by_cases h6 : 1 ≤ B
          · by_cases h7 : B ≤ 16777216
            · rw [right23_yes h1 h2 h3 h4.1 h4.2 h6 h7]
              go_enter Tryd.func33, Tryd.ntmps33
              go_wp2_with (go_at_call 50; refine (rightSize_c _ _).mono ?_; rintro e _ ⟨rfl, rfl⟩; rw [decide_eq_true h4])
              go_ret
              exact ⟨by first | rfl | (show Ending.returned (.bool (decide _)) = _; exact ret_bool (decide_eq_true (by omega))), HB.out⟩
            · rw [right23_no (fun h => by omega)]
              go_enter Tryd.func33, Tryd.ntmps33
              go_wp2_with (go_at_call 50; refine (rightSize_c _ _).mono ?_; rintro e _ ⟨rfl, rfl⟩; rw [decide_eq_true h4])
              go_ret
              exact ⟨by first | rfl | (show Ending.returned (.bool (decide _)) = _; exact ret_bool (decide_eq_false (by omega))), HB.out⟩
          · rw [right23_no (fun h => by omega)]
            go_enter Tryd.func33, Tryd.ntmps33
            go_wp2_with (go_at_call 50; refine (rightSize_c _ _).mono ?_; rintro e _ ⟨rfl, rfl⟩; rw [decide_eq_true h4])
            go_ret
            exact ⟨rfl, HB.out⟩
        · rw [right23_no (fun h => by omega)]
          go_enter Tryd.func33, Tryd.ntmps33
          go_wp2_with (go_at_call 50; refine (rightSize_c _ _).mono ?_; rintro e _ ⟨rfl, rfl⟩; rw [decide_eq_false h4])
          go_ret
          exact ⟨rfl, HB.out⟩
      · rw [right23_no (fun h => by omega)]
        go_enter Tryd.func33, Tryd.ntmps33
        go_wp2
        go_ret
        exact ⟨rfl, HB.out⟩
    · rw [right23_no (fun h => by omega)]
      go_enter Tryd.func33, Tryd.ntmps33
      go_wp2
      go_ret
      exact ⟨rfl, HB.out⟩
  · rw [right23_no (fun h => by omega)]
    go_enter Tryd.func33, Tryd.ntmps33
    go_wp2
    go_ret
    exact ⟨rfl, HB.out⟩
set_option maxHeartbeats 2000000 in
theorem RRight_c {N K S B : Int} (h : Wf4 N K S B) (w : World) : Calls Tryd.prog 13 #[.agg #[.int .i64 N, .int .i64 K, .int .i64 S, .int .i64 B]] w fun e w' => e = .returned (.bool (right23 N K S B)) ∧ Below w.heap.size w w' := by
  have hb := (Below.refl w.heap.size w).alloc (Nat.le_refl _) (.cells #[.int .i64 N, .int .i64 K, .int .i64 S, .int .i64 B] 36)
  have hK := Blk.new w 36 #[.int .i64 N, .int .i64 K, .int .i64 S, .int .i64 B]
  have z0 : (w.alloc (.cells #[.int .i64 N, .int .i64 K, .int .i64 S, .int .i64 B] 36)).cell? ⟨w.heap.size, 0, none⟩ = some (.int .i64 N) := hK.cell 0
  have z1 : (w.alloc (.cells #[.int .i64 N, .int .i64 K, .int .i64 S, .int .i64 B] 36)).cell? ⟨w.heap.size, 1, none⟩ = some (.int .i64 K) := hK.cell 1
  have z2 : (w.alloc (.cells #[.int .i64 N, .int .i64 K, .int .i64 S, .int .i64 B] 36)).cell? ⟨w.heap.size, 2, none⟩ = some (.int .i64 S) := hK.cell 2
  have z3 : (w.alloc (.cells #[.int .i64 N, .int .i64 K, .int .i64 S, .int .i64 B] 36)).cell? ⟨w.heap.size, 3, none⟩ = some (.int .i64 B) := hK.cell 3
  have HB := Lib.hid hb
  clear hb hK
  have wn := wf_i64 h.n
  have wk := wf_i64 h.k
  have ws := wf_i64 h.s
  have wb := wf_i64 h.b
  by_cases h1 : 1 ≤ N
  · by_cases h0 : N ≤ 255
    · by_cases h2 : 0 ≤ K
      · by_cases h3 : K ≤ 255 - N
        · by_cases h4 : 5 ≤ S
          · by_cases h5 : S ≤ 16777216
            · by_cases h6 : 1 ≤ B
              · by_cases h7 : B ≤ 16777216
                · rw [right23_yes h1 h2 h3 h4 h5 h6 h7]
                  go_enter Tryd.func13, Tryd.ntmps13
                  go_wp2
                  go_ret
                  exact ⟨by first | rfl | (show Ending.returned (.bool (decide _)) = _; exact ret_bool (decide_eq_true (by omega))), HB.out⟩
                · rw [right23_no (fun h => by omega)]
                  go_enter Tryd.func13, Tryd.ntmps13
                  go_wp2
                  go_ret
                  exact ⟨by first | rfl | (show Ending.returned (.bool (decide _)) = _; exact ret_bool (decide_eq_false (by omega))), HB.out⟩
              · rw [right23_no (fun h => by omega)]
                go_enter Tryd.func13, Tryd.ntmps13
                go_wp2
                go_ret
                exact ⟨rfl, HB.out⟩
            · rw [right23_no (fun h => by omega)]
              go_enter Tryd.func13, Tryd.ntmps13
              go_wp2
              go_ret
              exact ⟨rfl, HB.out⟩
          · rw [right23_no (fun h => by omega)]
            go_enter Tryd.func13, Tryd.ntmps13
            go_wp2
            go_ret
            exact ⟨rfl, HB.out⟩
        · rw [right23_no (fun h => by omega)]
          go_enter Tryd.func13, Tryd.ntmps13
          go_wp2
          go_ret
          exact ⟨rfl, HB.out⟩
      · rw [right23_no (fun h => by omega)]
        go_enter Tryd.func13, Tryd.ntmps13
        go_wp2
        go_ret
        exact ⟨rfl, HB.out⟩
    · rw [right23_no (fun h => by omega)]
      go_enter Tryd.func13, Tryd.ntmps13
      go_wp2
      go_ret
      exact ⟨rfl, HB.out⟩
  · rw [right23_no (fun h => by omega)]
    go_enter Tryd.func13, Tryd.ntmps13
    go_wp2
    go_ret
    exact ⟨rfl, HB.out⟩
def long23 (N K S B : Int) : Int := if right23 N K S B = true then 8 + S else 0
theorem Long_c {N K S B : Int} (h : Wf4 N K S B) (w : World) : Calls Tryd.prog 24 #[.agg #[.int .i64 N, .int .i64 K, .int .i64 S, .int .i64 B]] w fun e w' => e = .returned (.int .i64 (long23 N K S B)) ∧ Below w.heap.size w w' := by
  have hb := (Below.refl w.heap.size w).alloc (Nat.le_refl _) (.cells #[.int .i64 N, .int .i64 K, .int .i64 S, .int .i64 B] 23)
  have hK := Blk.new w 23 #[.int .i64 N, .int .i64 K, .int .i64 S, .int .i64 B]
  have tl := ld_g23 hK rfl
  have HR := Lib.hid (Right_c h (w.alloc (.cells #[.int .i64 N, .int .i64 K, .int .i64 S, .int .i64 B] 23)))
  have HB := Lib.hid hb
  have HK := Lib.hid hK
  have ws := wf_i64 h.s
  clear hb hK
  unfold long23
  cases hr : right23 N K S B with
  | false =>
    rw [hr] at HR
    clear hr
    go_enter Tryd.func24, Tryd.ntmps24
    go_wp2_with (first
      | (with_reducible refine wpList_load_var w.heap.size _ rfl tl ?_)
      | fail)
    refine HR.out.mono ?_
    rintro e W2 ⟨rfl, hb2⟩
    have HB2 := Lib.hid (HB.out.trans (hb2.mono HB.out.size))
    clear hb2
    go_wp2
    go_ret
    exact ⟨rfl, HB2.out⟩
  | true =>
    have hS : 5 ≤ S ∧ S ≤ 16777216 := by have h9 := of_decide_eq_true hr; omega
    rw [hr] at HR
    clear hr
    go_enter Tryd.func24, Tryd.ntmps24
    go_wp2_with (first
      | (with_reducible refine wpList_load_var w.heap.size _ rfl tl ?_)
      | fail)
    refine HR.out.mono ?_
    rintro e W2 ⟨rfl, hb2⟩
    have z2 : W2.cell? ⟨w.heap.size, 2, none⟩ = some (.int .i64 S) := (HK.out.below HK.out.lt hb2).cell 2
    have HB2 := Lib.hid (HB.out.trans (hb2.mono HB.out.size))
    clear hb2
    go_wp2
    go_ret
    exact ⟨rfl, HB2.out⟩
end Go.Proofs.YtbgdoemealddpaaDoor
