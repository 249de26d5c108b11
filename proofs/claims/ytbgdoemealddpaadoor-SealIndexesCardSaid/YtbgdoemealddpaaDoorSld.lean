/-
  SEALS: is a seal right: the document's. No conditions.
-/
import Derived.Test.YtbgdoemealddpaaDoorSlc
namespace Go.Proofs.YtbgdoemealddpaaDoor
open Go.RowKit
set_option maxRecDepth 100000
set_option linter.unusedVariables false

set_option maxHeartbeats 4000000 in
theorem RRight24_c {N K S B I : Int} (h : Wf4 N K S B) {w : World} {A : Option Addr} {n cap : Nat} {RA : Nat → Option Addr} {RL RC : Nat → Nat} {R : Nat → List G} (hG : GIn w A n cap RA RL RC R) : Calls Tryd.prog 28 #[.agg #[.int .i64 N, .int .i64 K, .int .i64 S, .int .i64 B, .int .i64 I, .slice A n cap]] w fun e w' => e = .returned (.bool (slR N K S B I n RL)) ∧ Below w.heap.size w w' := by
  have hb := (Below.refl w.heap.size w).alloc (Nat.le_refl _) (.cells #[.int .i64 N, .int .i64 K, .int .i64 S, .int .i64 B, .int .i64 I, .slice A n cap] 38)
  have hK := Blk.new w 38 #[.int .i64 N, .int .i64 K, .int .i64 S, .int .i64 B, .int .i64 I, .slice A n cap]
  have HB := Lib.hid hb
  have HK := Lib.hid hK
  have HR := Lib.hid (RRight_c h (w.alloc (.cells #[.int .i64 N, .int .i64 K, .int .i64 S, .int .i64 B, .int .i64 I, .slice A n cap] 38)))
  have HG := Lib.hid hG
  have hnm := hG.nmax
  have HV := Lib.hid (show slR N K S B I n RL = ((right23 N K S B && (decide (0 ≤ I) && decide (I < K))) && (decide ((n : Int) = N + K) && !unS (blk23 N K S B) n RL)) from rfl)
  have HW := Lib.hid h
  clear hb hK hG h
  have z0 := (HK.out.cell 0).trans (show _ = some (Value.int .i64 N) from rfl)
  have z1 := (HK.out.cell 1).trans (show _ = some (Value.int .i64 K) from rfl)
  have z2 := (HK.out.cell 2).trans (show _ = some (Value.int .i64 S) from rfl)
  have z3 := (HK.out.cell 3).trans (show _ = some (Value.int .i64 B) from rfl)
  go_enter Tryd.func28, Tryd.ntmps28
  go_wp2_with fail
  refine HR.out.mono ?_
  rintro e W2 ⟨rfl, hb2⟩
  have HB2 := Lib.hid (HB.out.trans (hb2.mono HB.out.size))
  have HK2 := Lib.hid (HK.out.below HK.out.lt hb2)
  have HG2 := Lib.hid ((HG.out.below HB.out).below hb2)
  clear hb2 z0 z1 z2 z3 HB HK HR HG
  have z0 := (HK2.out.cell 0).trans (show _ = some (Value.int .i64 N) from rfl)
  have z1 := (HK2.out.cell 1).trans (show _ = some (Value.int .i64 K) from rfl)
  have z4 := (HK2.out.cell 4).trans (show _ = some (Value.int .i64 I) from rfl)
  have z5 := (HK2.out.cell 5).trans (show _ = some (Value.slice A n cap) from rfl)
  cases hr : right23 N K S B with
  | false =>
    rw [hr] at HV
    clear hr
    go_wp2
    go_ret
    exact ⟨ret_bool HV.out.symm, HB2.out⟩
  | true =>
    have hw := HW.out
    obtain ⟨n', k', s', b', rfl, rfl, rfl, rfl, hn1, hnk, _, hs2, hb1, hb2⟩ := right23_nat hr
    have s1 : IntKind.i64.wrap ((n' : Int) + (k' : Int)) = (n' : Int) + k' := IntWalk.i64_in _ (by omega)
    rw [hr, blk23_yes hr] at HV
    have hL := RBlocks_c hw hr
    change ∀ w, Calls _ _ _ w fun e w' => e = .returned (.int .i64 ((blkN s' b' : Nat) : Int)) ∧ _ at hL
    have hqb : blkN s' b' ≤ 33554440 := blkN_le hs2 hb2
    generalize blkN s' b' = q at *
    have HL := Lib.hid hL
    clear hL hr hw
    by_cases h1 : 0 ≤ I
    · have h1n : ¬ I < 0 := by omega
      rw [decide_eq_true h1] at HV
      by_cases h2 : I < (k' : Int)
      · have h2n : ¬ (k' : Int) ≤ I := by omega
        rw [decide_eq_true h2] at HV
        by_cases hn : (n : Int) = (n' : Int) + k'
        · have en : ((n : Int) != (n' : Int) + (k' : Int)) = false := by rw [bne_eq_false_iff_eq]; exact hn
          rw [decide_eq_true hn] at HV
          clear hn
          go_wp2_with fail
          go_loopw [3] (fun i wr => ∃ k : Nat, k ≤ n ∧ i = .int .i64 k ∧ Hid (∀ r, r < k → RL r = q) ∧ Hid (Below W2.heap.size W2 wr)) (fun i _ => n - (intOf i).toNat)
          case atStart => exact ⟨0, by omega, rfl, fun r h1 => by omega, Below.refl _ _⟩
          case round =>
            obtain ⟨k, hk, rfl, hs, hBr⟩ := hrel
            have HKr := Lib.hid (HK2.out.below HK2.out.lt hBr.out)
            have HGr := Lib.hid (HG2.out.below hBr.out)
            have y0 := (HKr.out.cell 0).trans (show _ = some (Value.int .i64 (n' : Int)) from rfl)
            have y1 := (HKr.out.cell 1).trans (show _ = some (Value.int .i64 (k' : Int)) from rfl)
            have y2 := (HKr.out.cell 2).trans (show _ = some (Value.int .i64 (s' : Int)) from rfl)
            have y3 := (HKr.out.cell 3).trans (show _ = some (Value.int .i64 (b' : Int)) from rfl)
            have y5 := (HKr.out.cell 5).trans (show _ = some (Value.slice A n cap) from rfl)
            by_cases hlt : k < n
            · have hkm : (k : Int) < n := by omega
              have hk0 : (0 : Int) ≤ (k : Int) := by omega
              obtain ⟨b1, o1, hA, l1, q1⟩ := GIn.at_ HGr.out hlt
              have hrm := HGr.out.rmax hlt
              subst hA
              obtain ⟨m, hm⟩ : ∃ m, m = RL k := ⟨_, rfl⟩
              rw [← hm] at q1 hrm
              have HM := Lib.hid hm
              clear hm
              clear z0 z1 z4 z5
              by_cases hz : m = q
              · have e0 : ((m : Int) != (q : Int)) = false := by rw [hz]; simp
                have HZ := Lib.hid hz
                clear hz
                go_wp2_with fail
                refine wp_region_held_drew (S := fun W' => W'.cell? ⟨w.heap.size, 0, none⟩ = some (.int .i64 (n' : Int)) ∧ W'.cell? ⟨w.heap.size, 1, none⟩ = some (.int .i64 (k' : Int)) ∧ W'.cell? ⟨w.heap.size, 2, none⟩ = some (.int .i64 (s' : Int)) ∧ W'.cell? ⟨w.heap.size, 3, none⟩ = some (.int .i64 (b' : Int)) ∧ W'.cell? ⟨w.heap.size, 5, none⟩ = some (.slice (some ⟨b1, o1, none⟩) n cap) ∧ W'.cell? ⟨b1, o1 + k, none⟩ = some (.slice (RA k) m (RC k))) (by kernel_rfl) ?_ (fun hHeld => ?_)
                · go_keep
                refine wpAnyH_take (i := 0) (oi := { dst := some 41, op := _, type := _, pos := _, after := _, guard := _ }) (v := ?_) rfl (by kernel_rfl) (by kernel_rfl) (by kernel_rfl) (fun _ _ _ h => h) (Or.inl ⟨by rfl, ?_⟩) (by assumption) ?_
                rotate_left
                · intro w' hSw
                  try dsimp only at hSw
                  go_simp
                  try with_reducible rfl
                try simp only [Act.put, List.setIfInBounds_toArray, List.set_cons_zero, List.set_cons_succ]
                refine wpAnyH_take (i := 1) (oi := { dst := some 42, op := _, type := _, pos := _, after := _, guard := _ }) (v := ?_) rfl (by kernel_rfl) (by kernel_rfl) (by kernel_rfl) (fun _ _ _ h => h) (Or.inl ⟨by rfl, ?_⟩) (by assumption) ?_
                rotate_left
                · intro w' hSw
                  try dsimp only at hSw
                  go_simp
                  try with_reducible rfl
                try simp only [Act.put, List.setIfInBounds_toArray, List.set_cons_zero, List.set_cons_succ]
                refine wpAnyH_take (i := 2) (oi := { dst := some 43, op := _, type := _, pos := _, after := _, guard := _ }) (v := ?_) rfl (by kernel_rfl) (by kernel_rfl) (by kernel_rfl) (fun _ _ _ h => h) (Or.inl ⟨by rfl, ?_⟩) (by assumption) ?_
                rotate_left
                · intro w' hSw
                  try dsimp only at hSw
                  go_simp
                  try with_reducible rfl
                try simp only [Act.put, List.setIfInBounds_toArray, List.set_cons_zero, List.set_cons_succ]
                refine wpAnyH_take (i := 3) (oi := { dst := some 44, op := _, type := _, pos := _, after := _, guard := _ }) (v := ?_) rfl (by kernel_rfl) (by kernel_rfl) (by kernel_rfl) (fun _ _ _ h => h) (Or.inl ⟨by rfl, ?_⟩) (by assumption) ?_
                rotate_left
                · intro w' hSw
                  try dsimp only at hSw
                  go_simp
                  try with_reducible rfl
                try simp only [Act.put, List.setIfInBounds_toArray, List.set_cons_zero, List.set_cons_succ]
                refine wpAnyH_take (i := 4) (oi := { dst := some 45, op := _, type := _, pos := _, after := _, guard := _ }) (v := ?_) rfl (by kernel_rfl) (by kernel_rfl) (by kernel_rfl) (fun _ _ _ h => h) (Or.inl ⟨by rfl, ?_⟩) (by assumption) ?_
                rotate_left
                · intro w' hSw
                  try dsimp only at hSw
                  go_simp
                  try with_reducible rfl
                try simp only [Act.put, List.setIfInBounds_toArray, List.set_cons_zero, List.set_cons_succ]
                refine wpAnyH_take (i := 5) (oi := { dst := some 46, op := _, type := _, pos := _, after := _, guard := _ }) (v := ?_) rfl (by kernel_rfl) (by kernel_rfl) (by kernel_rfl) (fun _ _ _ h => h) (Or.inl ⟨by rfl, ?_⟩) (by assumption) ?_
                rotate_left
                · intro w' hSw
                  try dsimp only at hSw
                  go_simp
                  try with_reducible rfl
                try simp only [Act.put, List.setIfInBounds_toArray, List.set_cons_zero, List.set_cons_succ]
                refine wpAnyH_take (i := 6) (oi := { dst := some 47, op := _, type := _, pos := _, after := _, guard := _ }) (v := ?_) rfl (by kernel_rfl) (by kernel_rfl) (by kernel_rfl) (fun _ _ _ h => h) (Or.inl ⟨by rfl, ?_⟩) (by assumption) ?_
                rotate_left
                · intro w' hSw
                  try dsimp only at hSw
                  go_simp
                  try with_reducible rfl
                try simp only [Act.put, List.setIfInBounds_toArray, List.set_cons_zero, List.set_cons_succ]
                refine wpAnyH_take (i := 7) (oi := { dst := some 48, op := _, type := _, pos := _, after := _, guard := _ }) (v := ?_) rfl (by kernel_rfl) (by kernel_rfl) (by kernel_rfl) (fun _ _ _ h => h) (Or.inl ⟨by rfl, ?_⟩) (by assumption) ?_
                rotate_left
                · intro w' hSw
                  try dsimp only at hSw
                  go_simp
                  try with_reducible rfl
                try simp only [Act.put, List.setIfInBounds_toArray, List.set_cons_zero, List.set_cons_succ]
                refine wpAnyH_ready (rs := [8]) (by kernel_rfl) (by simp) ?_
                refine AllReadyH.cons (o := { dst := some 49, op := _, type := _, pos := _, after := _, guard := _ }) rfl (fun K hK => ?_) AllReadyH.nil
                go_simp
                go_at_call 36
                refine (HL.out _).mono ?_
                rintro e W3 ⟨rfl, hb3⟩
                try go_wp2_with fail
                have HK3 := Lib.hid (HKr.out.drew.below HKr.out.drew.lt hb3)
                have HB3 := Lib.hid ((below_drewN (Below.refl wr.heap.size wr) 1).trans hb3)
                have q3 : W3.cell? ⟨b1, o1 + k, none⟩ = some (.slice (RA k) m (RC k)) := (hb3.cell (p := ⟨b1, o1 + k, none⟩) l1).trans q1
                clear hb3
                refine hK.out _ _ ?_ (fun hHeld => ?_)
                · exact ⟨HK3.out.cell 0, HK3.out.cell 1, HK3.out.cell 2, HK3.out.cell 3, HK3.out.cell 5, q3⟩
                clear hK K
                try simp only [Act.put, List.setIfInBounds_toArray, List.set_cons_zero, List.set_cons_succ]
                refine wpAnyH_take (i := 9) (oi := { dst := some 50, op := _, type := _, pos := _, after := _, guard := _ }) (v := ?_) rfl (by kernel_rfl) (by kernel_rfl) (by kernel_rfl) (fun _ _ _ h => h) (Or.inl ⟨by rfl, ?_⟩) (by assumption) ?_
                rotate_left
                · intro w' hSw
                  try dsimp only at hSw
                  go_simp
                  try with_reducible rfl
                try simp only [Act.put, List.setIfInBounds_toArray, List.set_cons_zero, List.set_cons_succ]
                refine wpAnyH_done (by kernel_rfl) ?_ _
                go_wp2
                go_roundw
                case rel =>
                  refine ⟨k + 1, by omega, by go_num, fun r h1 => ?_, hBr.out.trans (HB3.out.mono hBr.out.size)⟩
                  rcases Nat.lt_or_ge r k with h3 | h3
                  · exact hs.out r h3
                  · rw [show r = k by omega, ← HM.out]; exact HZ.out
                case measure => simp [intOf]; omega
              · have e0 : ((m : Int) != (q : Int)) = true := by rw [bne_iff_ne]; omega
                have HZ := Lib.hid hz
                clear hz
                go_wp2_with fail
                refine wp_region_held_drew (S := fun W' => W'.cell? ⟨w.heap.size, 0, none⟩ = some (.int .i64 (n' : Int)) ∧ W'.cell? ⟨w.heap.size, 1, none⟩ = some (.int .i64 (k' : Int)) ∧ W'.cell? ⟨w.heap.size, 2, none⟩ = some (.int .i64 (s' : Int)) ∧ W'.cell? ⟨w.heap.size, 3, none⟩ = some (.int .i64 (b' : Int)) ∧ W'.cell? ⟨w.heap.size, 5, none⟩ = some (.slice (some ⟨b1, o1, none⟩) n cap) ∧ W'.cell? ⟨b1, o1 + k, none⟩ = some (.slice (RA k) m (RC k))) (by kernel_rfl) ?_ (fun hHeld => ?_)
                · go_keep
                refine wpAnyH_take (i := 0) (oi := { dst := some 41, op := _, type := _, pos := _, after := _, guard := _ }) (v := ?_) rfl (by kernel_rfl) (by kernel_rfl) (by kernel_rfl) (fun _ _ _ h => h) (Or.inl ⟨by rfl, ?_⟩) (by assumption) ?_
                rotate_left
                · intro w' hSw
                  try dsimp only at hSw
                  go_simp
                  try with_reducible rfl
                try simp only [Act.put, List.setIfInBounds_toArray, List.set_cons_zero, List.set_cons_succ]
                refine wpAnyH_take (i := 1) (oi := { dst := some 42, op := _, type := _, pos := _, after := _, guard := _ }) (v := ?_) rfl (by kernel_rfl) (by kernel_rfl) (by kernel_rfl) (fun _ _ _ h => h) (Or.inl ⟨by rfl, ?_⟩) (by assumption) ?_
                rotate_left
                · intro w' hSw
                  try dsimp only at hSw
                  go_simp
                  try with_reducible rfl
                try simp only [Act.put, List.setIfInBounds_toArray, List.set_cons_zero, List.set_cons_succ]
                refine wpAnyH_take (i := 2) (oi := { dst := some 43, op := _, type := _, pos := _, after := _, guard := _ }) (v := ?_) rfl (by kernel_rfl) (by kernel_rfl) (by kernel_rfl) (fun _ _ _ h => h) (Or.inl ⟨by rfl, ?_⟩) (by assumption) ?_
                rotate_left
                · intro w' hSw
                  try dsimp only at hSw
                  go_simp
                  try with_reducible rfl
                try simp only [Act.put, List.setIfInBounds_toArray, List.set_cons_zero, List.set_cons_succ]
                refine wpAnyH_take (i := 3) (oi := { dst := some 44, op := _, type := _, pos := _, after := _, guard := _ }) (v := ?_) rfl (by kernel_rfl) (by kernel_rfl) (by kernel_rfl) (fun _ _ _ h => h) (Or.inl ⟨by rfl, ?_⟩) (by assumption) ?_
                rotate_left
                · intro w' hSw
                  try dsimp only at hSw
                  go_simp
                  try with_reducible rfl
                try simp only [Act.put, List.setIfInBounds_toArray, List.set_cons_zero, List.set_cons_succ]
                refine wpAnyH_take (i := 4) (oi := { dst := some 45, op := _, type := _, pos := _, after := _, guard := _ }) (v := ?_) rfl (by kernel_rfl) (by kernel_rfl) (by kernel_rfl) (fun _ _ _ h => h) (Or.inl ⟨by rfl, ?_⟩) (by assumption) ?_
                rotate_left
                · intro w' hSw
                  try dsimp only at hSw
                  go_simp
                  try with_reducible rfl
                try simp only [Act.put, List.setIfInBounds_toArray, List.set_cons_zero, List.set_cons_succ]
                refine wpAnyH_take (i := 5) (oi := { dst := some 46, op := _, type := _, pos := _, after := _, guard := _ }) (v := ?_) rfl (by kernel_rfl) (by kernel_rfl) (by kernel_rfl) (fun _ _ _ h => h) (Or.inl ⟨by rfl, ?_⟩) (by assumption) ?_
                rotate_left
                · intro w' hSw
                  try dsimp only at hSw
                  go_simp
                  try with_reducible rfl
                try simp only [Act.put, List.setIfInBounds_toArray, List.set_cons_zero, List.set_cons_succ]
                refine wpAnyH_take (i := 6) (oi := { dst := some 47, op := _, type := _, pos := _, after := _, guard := _ }) (v := ?_) rfl (by kernel_rfl) (by kernel_rfl) (by kernel_rfl) (fun _ _ _ h => h) (Or.inl ⟨by rfl, ?_⟩) (by assumption) ?_
                rotate_left
                · intro w' hSw
                  try dsimp only at hSw
                  go_simp
                  try with_reducible rfl
                try simp only [Act.put, List.setIfInBounds_toArray, List.set_cons_zero, List.set_cons_succ]
                refine wpAnyH_take (i := 7) (oi := { dst := some 48, op := _, type := _, pos := _, after := _, guard := _ }) (v := ?_) rfl (by kernel_rfl) (by kernel_rfl) (by kernel_rfl) (fun _ _ _ h => h) (Or.inl ⟨by rfl, ?_⟩) (by assumption) ?_
                rotate_left
                · intro w' hSw
                  try dsimp only at hSw
                  go_simp
                  try with_reducible rfl
                try simp only [Act.put, List.setIfInBounds_toArray, List.set_cons_zero, List.set_cons_succ]
                refine wpAnyH_ready (rs := [8]) (by kernel_rfl) (by simp) ?_
                refine AllReadyH.cons (o := { dst := some 49, op := _, type := _, pos := _, after := _, guard := _ }) rfl (fun K hK => ?_) AllReadyH.nil
                go_simp
                go_at_call 36
                refine (HL.out _).mono ?_
                rintro e W3 ⟨rfl, hb3⟩
                try go_wp2_with fail
                have HK3 := Lib.hid (HKr.out.drew.below HKr.out.drew.lt hb3)
                have HB3 := Lib.hid ((below_drewN (Below.refl wr.heap.size wr) 1).trans hb3)
                have q3 : W3.cell? ⟨b1, o1 + k, none⟩ = some (.slice (RA k) m (RC k)) := (hb3.cell (p := ⟨b1, o1 + k, none⟩) l1).trans q1
                clear hb3
                refine hK.out _ _ ?_ (fun hHeld => ?_)
                · exact ⟨HK3.out.cell 0, HK3.out.cell 1, HK3.out.cell 2, HK3.out.cell 3, HK3.out.cell 5, q3⟩
                clear hK K
                try simp only [Act.put, List.setIfInBounds_toArray, List.set_cons_zero, List.set_cons_succ]
                refine wpAnyH_take (i := 9) (oi := { dst := some 50, op := _, type := _, pos := _, after := _, guard := _ }) (v := ?_) rfl (by kernel_rfl) (by kernel_rfl) (by kernel_rfl) (fun _ _ _ h => h) (Or.inl ⟨by rfl, ?_⟩) (by assumption) ?_
                rotate_left
                · intro w' hSw
                  try dsimp only at hSw
                  go_simp
                  try with_reducible rfl
                try simp only [Act.put, List.setIfInBounds_toArray, List.set_cons_zero, List.set_cons_succ]
                refine wpAnyH_done (by kernel_rfl) ?_ _
                go_wp2
                go_ret
                refine ⟨ret_bool ?_, HB2.out.trans ((hBr.out.trans (HB3.out.mono hBr.out.size)).mono HB2.out.size)⟩
                rw [HV.out, unS_yes hlt (by rw [← HM.out]; exact HZ.out)]
                rfl
            · obtain rfl : k = n := by omega
              go_wp2
              go_ret
              refine ⟨ret_bool ?_, HB2.out.trans (hBr.out.mono HB2.out.size)⟩
              rw [HV.out, unS_no hs.out]
              rfl
        · have en : ((n : Int) != (n' : Int) + (k' : Int)) = true := by rw [bne_iff_ne]; exact hn
          rw [decide_eq_false hn] at HV
          clear hn
          go_wp2
          go_ret
          exact ⟨ret_bool HV.out.symm, HB2.out⟩
      · have h2n : (k' : Int) ≤ I := by omega
        rw [decide_eq_false h2] at HV
        clear h2
        go_wp2
        go_ret
        exact ⟨ret_bool HV.out.symm, HB2.out⟩
    · have h1n : I < 0 := by omega
      rw [decide_eq_false h1] at HV
      clear h1
      go_wp2
      go_ret
      exact ⟨ret_bool HV.out.symm, HB2.out⟩
end Go.Proofs.YtbgdoemealddpaaDoor
