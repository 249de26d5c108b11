/-
  LAW 24's OWN FUNCTIONS: as, same, small; the document's SameSums; what Write answers, told in one. No conditions.
-/
import Derived.Test.YtbgdoemealddpaaDoorSlo
namespace Go.Proofs.YtbgdoemealddpaaDoor
open Go.RowKit
set_option maxRecDepth 100000
set_option linter.unusedVariables false

theorem SameSums_c {w : World} {A A' : Option Addr} {n cap cap' : Nat} {RA RA' : Nat → Option Addr} {RL RL' RC RC' : Nat → Nat} {R R' : Nat → List G} (h : GIn w A n cap RA RL RC R) (h' : GIn w A' n cap' RA' RL' RC' R') (he : ∀ r, r < n → R r = R' r) :
    Calls Tryd.prog 17 #[.slice A n cap, .slice A' n cap'] w fun e w' => e = .returned (.bool true) ∧ ∃ q, w' = w.drewN q := by
  have hn := h.nmax
  have hne : ((n : Int) != (n : Int)) = false := by simp
  have H := Lib.hid h
  have H' := Lib.hid h'
  have HE := Lib.hid he
  have HLL : Hid (∀ r, r < n → RL' r = RL r) := fun r hr => by
    rw [← (h'.row r hr).1, ← (h.row r hr).1, he r hr]
  clear h h' he
  go_enter Tryd.func17, Tryd.ntmps17
  go_wp2
  go_loopw [5] (fun i wr => ∃ k q : Nat, k ≤ n ∧ i = .int .i64 k ∧ Hid (wr = w.drewN q)) (fun i _ => n - (intOf i).toNat)
  case atStart => exact ⟨0, 0, by omega, rfl, rfl⟩
  case round =>
    obtain ⟨k, q, hk, rfl, hw⟩ := hrel
    by_cases hlt : k < n
    · have hkn : (k : Int) < n := by omega
      have hi0 : (0 : Int) ≤ (k : Int) := by omega
      have hM := H.out.drewN q
      have hM' := H'.out.drewN q
      rw [← hw.out] at hM hM'
      obtain ⟨b1, o1, rfl, l1, q1⟩ := hM.at_ hlt
      obtain ⟨b2, o2, rfl, l2, p1⟩ := hM'.at_ hlt
      rw [HLL.out k hlt] at p1
      have hr2 := (hM'.row k hlt).drewN 1
      rw [HLL.out k hlt] at hr2
      have HC := Lib.hid (GSame_c (RA k) (RA' k) (RL k) (RC k) (RC' k) (R k) (R' k) (wr.drewN 1) ((hM.row k hlt).drewN 1) hr2 (HE.out k hlt))
      clear hM hM' hr2
      go_wp2_with fail
      refine wp_region_held_drew (S := fun W' => W'.cell? ⟨b1, o1 + k, none⟩ = some (.slice (RA k) (RL k) (RC k)) ∧ W'.cell? ⟨b2, o2 + k, none⟩ = some (.slice (RA' k) (RL k) (RC' k))) (by kernel_rfl) ?_ (fun hHeld => ?_)
      · go_keep
      refine wpAnyH_take (i := 0) (oi := { dst := some 17, op := _, type := _, pos := _, after := _, guard := _ }) (v := ?_) rfl (by kernel_rfl) (by kernel_rfl) (by kernel_rfl) (fun _ _ _ h => h) (Or.inl ⟨by rfl, ?_⟩) (by assumption) ?_
      rotate_left
      · intro w' hSw
        try dsimp only at hSw
        go_simp
        try with_reducible rfl
      try simp only [Act.put, List.setIfInBounds_toArray, List.set_cons_zero, List.set_cons_succ]
      refine wpAnyH_take (i := 1) (oi := { dst := some 18, op := _, type := _, pos := _, after := _, guard := _ }) (v := ?_) rfl (by kernel_rfl) (by kernel_rfl) (by kernel_rfl) (fun _ _ _ h => h) (Or.inl ⟨by rfl, ?_⟩) (by assumption) ?_
      rotate_left
      · intro w' hSw
        try dsimp only at hSw
        go_simp
        try with_reducible rfl
      try simp only [Act.put, List.setIfInBounds_toArray, List.set_cons_zero, List.set_cons_succ]
      refine wpAnyH_take (i := 2) (oi := { dst := some 19, op := _, type := _, pos := _, after := _, guard := _ }) (v := ?_) rfl (by kernel_rfl) (by kernel_rfl) (by kernel_rfl) (fun _ _ _ h => h) (Or.inl ⟨by rfl, ?_⟩) (by assumption) ?_
      rotate_left
      · intro w' hSw
        try dsimp only at hSw
        go_simp
        try with_reducible rfl
      try simp only [Act.put, List.setIfInBounds_toArray, List.set_cons_zero, List.set_cons_succ]
      refine wpAnyH_take (i := 3) (oi := { dst := some 20, op := _, type := _, pos := _, after := _, guard := _ }) (v := ?_) rfl (by kernel_rfl) (by kernel_rfl) (by kernel_rfl) (fun _ _ _ h => h) (Or.inl ⟨by rfl, ?_⟩) (by assumption) ?_
      rotate_left
      · intro w' hSw
        try dsimp only at hSw
        go_simp
        try with_reducible rfl
      try simp only [Act.put, List.setIfInBounds_toArray, List.set_cons_zero, List.set_cons_succ]
      refine wpAnyH_take (i := 4) (oi := { dst := some 21, op := _, type := _, pos := _, after := _, guard := _ }) (v := ?_) rfl (by kernel_rfl) (by kernel_rfl) (by kernel_rfl) (fun _ _ _ h => h) (Or.inl ⟨by rfl, ?_⟩) (by assumption) ?_
      rotate_left
      · intro w' hSw
        try dsimp only at hSw
        go_simp
        try with_reducible rfl
      try simp only [Act.put, List.setIfInBounds_toArray, List.set_cons_zero, List.set_cons_succ]
      refine wpAnyH_take (i := 5) (oi := { dst := some 22, op := _, type := _, pos := _, after := _, guard := _ }) (v := ?_) rfl (by kernel_rfl) (by kernel_rfl) (by kernel_rfl) (fun _ _ _ h => h) (Or.inl ⟨by rfl, ?_⟩) (by assumption) ?_
      rotate_left
      · intro w' hSw
        try dsimp only at hSw
        go_simp
        try with_reducible rfl
      try simp only [Act.put, List.setIfInBounds_toArray, List.set_cons_zero, List.set_cons_succ]
      refine wpAnyH_take (i := 6) (oi := { dst := some 23, op := _, type := _, pos := _, after := _, guard := _ }) (v := ?_) rfl (by kernel_rfl) (by kernel_rfl) (by kernel_rfl) (fun _ _ _ h => h) (Or.inl ⟨by rfl, ?_⟩) (by assumption) ?_
      rotate_left
      · intro w' hSw
        try dsimp only at hSw
        go_simp
        try with_reducible rfl
      try simp only [Act.put, List.setIfInBounds_toArray, List.set_cons_zero, List.set_cons_succ]
      refine wpAnyH_take (i := 7) (oi := { dst := some 24, op := _, type := _, pos := _, after := _, guard := _ }) (v := ?_) rfl (by kernel_rfl) (by kernel_rfl) (by kernel_rfl) (fun _ _ _ h => h) (Or.inl ⟨by rfl, ?_⟩) (by assumption) ?_
      rotate_left
      · intro w' hSw
        try dsimp only at hSw
        go_simp
        try with_reducible rfl
      try simp only [Act.put, List.setIfInBounds_toArray, List.set_cons_zero, List.set_cons_succ]
      refine wpAnyH_ready (rs := [8]) (by kernel_rfl) (by simp) ?_
      refine AllReadyH.cons (o := { dst := some 25, op := _, type := _, pos := _, after := _, guard := _ }) rfl (fun K hK => ?_) AllReadyH.nil
      go_simp
      go_at_call 37
      refine HC.out.mono ?_
      rintro e _ ⟨rfl, q2, rfl⟩
      try go_wp2_with fail
      refine hK.out _ _ ?_ (fun hHeld => ?_)
      · exact ⟨q1, p1⟩
      clear hK K
      try simp only [Act.put, List.setIfInBounds_toArray, List.set_cons_zero, List.set_cons_succ]
      refine wpAnyH_take (i := 9) (oi := { dst := some 26, op := _, type := _, pos := _, after := _, guard := _ }) (v := ?_) rfl (by kernel_rfl) (by kernel_rfl) (by kernel_rfl) (fun _ _ _ h => h) (Or.inl ⟨by rfl, ?_⟩) (by assumption) ?_
      rotate_left
      · intro w' hSw
        try dsimp only at hSw
        go_simp
        try with_reducible rfl
      try simp only [Act.put, List.setIfInBounds_toArray, List.set_cons_zero, List.set_cons_succ]
      refine wpAnyH_done (by kernel_rfl) ?_ _
      go_wp2
      go_roundw
      case rel => exact ⟨k + 1, _, by omega, by go_num, by unfold Hid; rw [hw.out, World.drewN_drewN]⟩
      case measure => simp [intOf]; omega
    · obtain rfl : k = n := by omega
      go_wp2
      go_ret
      exact ⟨rfl, q, hw.out⟩
set_option maxHeartbeats 2000000 in
theorem as_c (N K S B I : Int) (A : Option Addr) (n cap : Nat) (w : World) : Calls Tryd.prog 11 #[.agg #[.int .i64 N, .int .i64 K, .int .i64 S, .int .i64 B, .int .i64 I, .slice A n cap]] w fun e w' => e = .returned (.agg #[.int .i64 N, .int .i64 K, .int .i64 S, .int .i64 B, .int .i64 I, .slice A n cap]) ∧ Below w.heap.size w w' := by
  have hb := (Below.refl w.heap.size w).alloc (Nat.le_refl _) (.cells #[.int .i64 N, .int .i64 K, .int .i64 S, .int .i64 B, .int .i64 I, .slice A n cap] 26)
  have hK := Blk.new w 26 #[.int .i64 N, .int .i64 K, .int .i64 S, .int .i64 B, .int .i64 I, .slice A n cap]
  have hb2 := (Below.refl (w.alloc (.cells #[.int .i64 N, .int .i64 K, .int .i64 S, .int .i64 B, .int .i64 I, .slice A n cap] 26)).heap.size (w.alloc (.cells #[.int .i64 N, .int .i64 K, .int .i64 S, .int .i64 B, .int .i64 I, .slice A n cap] 26))).alloc (Nat.le_refl _) (.cells #[.int .i64 0, .int .i64 0, .int .i64 0, .int .i64 0, .int .i64 0, .slice none 0 0] 38)
  have hK2 := hK.below hK.lt hb2
  have hR2 := Blk.new (w.alloc (.cells #[.int .i64 N, .int .i64 K, .int .i64 S, .int .i64 B, .int .i64 I, .slice A n cap] 26)) 38 #[.int .i64 0, .int .i64 0, .int .i64 0, .int .i64 0, .int .i64 0, .slice none 0 0]
  have HE0 : Hid ((w.alloc (.cells #[.int .i64 N, .int .i64 K, .int .i64 S, .int .i64 B, .int .i64 I, .slice A n cap] 26)).heap.size = w.heap.size + 1) := by unfold Hid; simp
  have z0 := (hK2.cell 0).trans (show _ = some (Value.int .i64 N) from rfl)
  have z1 := (hK2.cell 1).trans (show _ = some (Value.int .i64 K) from rfl)
  have z2 := (hK2.cell 2).trans (show _ = some (Value.int .i64 S) from rfl)
  have z3 := (hK2.cell 3).trans (show _ = some (Value.int .i64 B) from rfl)
  have z4 := (hK2.cell 4).trans (show _ = some (Value.int .i64 I) from rfl)
  have z5 := (hK2.cell 5).trans (show _ = some (Value.slice A n cap) from rfl)
  have t2 := st_sd hR2 rfl #[.int .i64 N, .int .i64 K, .int .i64 S, .int .i64 B, .int .i64 I, .slice A n cap] rfl (by simp [Value.oneCell'])
  have t3 := ld_sd (hR2.setRow #[.int .i64 N, .int .i64 K, .int .i64 S, .int .i64 B, .int .i64 I, .slice A n cap]) rfl
  have HB9 := Lib.hid (below_setRowS (g := (w.alloc (.cells #[.int .i64 N, .int .i64 K, .int .i64 S, .int .i64 B, .int .i64 I, .slice A n cap] 26)).heap.size) (hb.trans (hb2.mono hb.size)) (by have := HE0.out; omega) #[.int .i64 N, .int .i64 K, .int .i64 S, .int .i64 B, .int .i64 I, .slice A n cap])
  rw [HE0.out] at t2 t3 HB9
  clear hb hK hb2 hK2 hR2
  go_enter Tryd.func11, Tryd.ntmps11
  go_wp2_with (first | (with_reducible refine wpList_store_var _ _ _ (by with_unfolding_all rfl) (by with_unfolding_all rfl) t2 ?_))
  refine bodyPost_ret (v := .agg #[.int .i64 N, .int .i64 K, .int .i64 S, .int .i64 B, .int .i64 I, .slice A n cap]) ?_ rfl ⟨rfl, HB9.out⟩
  rw [results_cell_oneL rfl]
  simp [asAddr, Result.andThen, t3]
set_option maxHeartbeats 2000000 in
theorem same_c (N K S B I : Int) {w : World} {A A' : Option Addr} {n cap cap' : Nat} {RA RA' : Nat → Option Addr} {RL RL' RC RC' : Nat → Nat} {R R' : Nat → List G} (h : GIn w A n cap RA RL RC R) (h' : GIn w A' n cap' RA' RL' RC' R') (he : ∀ r, r < n → R r = R' r) :
    Calls Tryd.prog 21 #[.agg #[.int .i64 N, .int .i64 K, .int .i64 S, .int .i64 B, .int .i64 I, .slice A n cap], .agg #[.int .i64 N, .int .i64 K, .int .i64 S, .int .i64 B, .int .i64 I, .slice A' n cap']] w fun e w' => e = .returned (.bool true) ∧ Below w.heap.size w w' := by
  have hb := (Below.refl w.heap.size w).alloc (Nat.le_refl _) (.cells #[.int .i64 N, .int .i64 K, .int .i64 S, .int .i64 B, .int .i64 I, .slice A n cap] 38)
  have hK := Blk.new w 38 #[.int .i64 N, .int .i64 K, .int .i64 S, .int .i64 B, .int .i64 I, .slice A n cap]
  have hb2 := (Below.refl (w.alloc (.cells #[.int .i64 N, .int .i64 K, .int .i64 S, .int .i64 B, .int .i64 I, .slice A n cap] 38)).heap.size (w.alloc (.cells #[.int .i64 N, .int .i64 K, .int .i64 S, .int .i64 B, .int .i64 I, .slice A n cap] 38))).alloc (Nat.le_refl _) (.cells #[.int .i64 N, .int .i64 K, .int .i64 S, .int .i64 B, .int .i64 I, .slice A' n cap'] 38)
  have hK2 := hK.below hK.lt hb2
  have hR2 := Blk.new (w.alloc (.cells #[.int .i64 N, .int .i64 K, .int .i64 S, .int .i64 B, .int .i64 I, .slice A n cap] 38)) 38 #[.int .i64 N, .int .i64 K, .int .i64 S, .int .i64 B, .int .i64 I, .slice A' n cap']
  have HE0 : Hid ((w.alloc (.cells #[.int .i64 N, .int .i64 K, .int .i64 S, .int .i64 B, .int .i64 I, .slice A n cap] 38)).heap.size = w.heap.size + 1) := by unfold Hid; simp
  have hbb := hb.trans (hb2.mono hb.size)
  have HS := Lib.hid (SameSums_c (h.below hbb) (h'.below hbb) he)
  have HB := Lib.hid hbb
  have z0 := (hK2.cell 0).trans (show _ = some (Value.int .i64 N) from rfl)
  have z1 := (hK2.cell 1).trans (show _ = some (Value.int .i64 K) from rfl)
  have z2 := (hK2.cell 2).trans (show _ = some (Value.int .i64 S) from rfl)
  have z3 := (hK2.cell 3).trans (show _ = some (Value.int .i64 B) from rfl)
  have z4 := (hK2.cell 4).trans (show _ = some (Value.int .i64 I) from rfl)
  have z5 := (hK2.cell 5).trans (show _ = some (Value.slice A n cap) from rfl)
  have y0 := (hR2.cell 0).trans (show _ = some (Value.int .i64 N) from rfl)
  have y1 := (hR2.cell 1).trans (show _ = some (Value.int .i64 K) from rfl)
  have y2 := (hR2.cell 2).trans (show _ = some (Value.int .i64 S) from rfl)
  have y3 := (hR2.cell 3).trans (show _ = some (Value.int .i64 B) from rfl)
  have y4 := (hR2.cell 4).trans (show _ = some (Value.int .i64 I) from rfl)
  have y5 := (hR2.cell 5).trans (show _ = some (Value.slice A' n cap') from rfl)
  rw [HE0.out] at y0 y1 y2 y3 y4 y5
  clear hb hK hb2 hK2 hR2 h h' he hbb
  go_enter Tryd.func21, Tryd.ntmps21
  go_wp2_with (go_at_call 17; refine HS.out.mono ?_; rintro e _ ⟨rfl, q, rfl⟩)
  go_ret
  exact ⟨rfl, below_drewN HB.out q⟩
/-- has a seal few sums -/
def smallF (N K S B : Int) (n : Nat) (RL : Nat → Nat) : Prop := n ≤ 20 ∧ (∀ r, r < n → RL r ≤ 60) ∧ (right23 N K S B = true → S ≤ 1000 ∧ N + K ≤ 20)
def SmP (N K S B : Int) (n : Nat) (RL : Nat → Nat) (w w' : World) (e : Ending) : Prop := ∃ b : Bool, e = .returned (.bool b) ∧ (b = true → smallF N K S B n RL) ∧ Below w.heap.size w w'
theorem SmP.of {N K S B : Int} {n : Nat} {RL : Nat → Nat} {w w' : World} (b : Bool) (h : b = true → smallF N K S B n RL) (hb : Below w.heap.size w w') : SmP N K S B n RL w w' (.returned (.bool b)) := ⟨b, rfl, h, hb⟩
set_option maxHeartbeats 4000000 in
theorem small_c {N K S B I : Int} (h : Wf4 N K S B) {w : World} {A : Option Addr} {n cap : Nat} {RA : Nat → Option Addr} {RL RC : Nat → Nat} {R : Nat → List G} (hG : GIn w A n cap RA RL RC R) :
    Calls Tryd.prog 8 #[.agg #[.int .i64 N, .int .i64 K, .int .i64 S, .int .i64 B, .int .i64 I, .slice A n cap]] w fun e w' => SmP N K S B n RL w w' e := by
  have hb := (Below.refl w.heap.size w).alloc (Nat.le_refl _) (.cells #[.int .i64 N, .int .i64 K, .int .i64 S, .int .i64 B, .int .i64 I, .slice A n cap] 26)
  have hK := Blk.new w 26 #[.int .i64 N, .int .i64 K, .int .i64 S, .int .i64 B, .int .i64 I, .slice A n cap]
  have HG := Lib.hid (hG.below hb)
  have HR := Lib.hid (RRight_c h (w.alloc (.cells #[.int .i64 N, .int .i64 K, .int .i64 S, .int .i64 B, .int .i64 I, .slice A n cap] 26)))
  have HB := Lib.hid hb
  have HK := Lib.hid hK
  have hnm := hG.nmax
  have z0 := (hK.cell 0).trans (show _ = some (Value.int .i64 N) from rfl)
  have z1 := (hK.cell 1).trans (show _ = some (Value.int .i64 K) from rfl)
  have z2 := (hK.cell 2).trans (show _ = some (Value.int .i64 S) from rfl)
  have z3 := (hK.cell 3).trans (show _ = some (Value.int .i64 B) from rfl)
  have z4 := (hK.cell 4).trans (show _ = some (Value.int .i64 I) from rfl)
  have z5 := (hK.cell 5).trans (show _ = some (Value.slice A n cap) from rfl)
  clear hb hK hG
  go_enter Tryd.func8, Tryd.ntmps8
  go_wp2_with fail
  generalize w.alloc (.cells #[.int .i64 N, .int .i64 K, .int .i64 S, .int .i64 B, .int .i64 I, .slice A n cap] 26) = w0 at *
  go_loop [8] (fun i => ∃ k : Nat, k ≤ n ∧ i = .int .i64 k ∧ Hid (∀ r, r < k → RL r ≤ 60)) (fun i => n - (intOf i).toNat)
  case atStart => exact ⟨0, by omega, rfl, fun r h1 => by omega⟩
  case round =>
    obtain ⟨k, hk, rfl, hs⟩ := hrel
    by_cases hlt : k < n
    · have hkm : (k : Int) < n := by omega
      have hk0 : (0 : Int) ≤ (k : Int) := by omega
      obtain ⟨b1, o1, hA, l1, q1⟩ := GIn.at_ HG.out hlt
      subst hA
      have hrm := HG.out.rmax hlt
      obtain ⟨m, hm⟩ : ∃ m, m = RL k := ⟨_, rfl⟩
      rw [← hm] at q1 hrm
      have HM := Lib.hid hm
      clear hm
      by_cases hz : m ≤ 60
      · have hzi : ¬ (60 : Int) < (m : Int) := by omega
        go_wp2
        go_round
        case rel =>
          refine ⟨k + 1, by omega, by go_num, fun r h1 => ?_⟩
          rcases Nat.lt_or_ge r k with h3 | h3
          · exact hs.out r h3
          · rw [show r = k by omega, ← HM.out]; exact hz
        case measure => simp [intOf]; omega
      · have hzi : (60 : Int) < (m : Int) := by omega
        go_wp2
        go_ret
        exact SmP.of _ (fun e => by simp at e) HB.out
    · obtain rfl : k = n := by omega
      by_cases h20 : k ≤ 20
      case neg =>
        have h20i : ¬ (k : Int) ≤ 20 := by omega
        go_wp2
        go_ret
        exact SmP.of _ (fun e => by first | (simp at e; omega) | simp at e) HB.out
      case pos =>
        have h20i : (k : Int) ≤ 20 := by omega
        cases hr : right23 N K S B with
        | false =>
          rw [hr] at HR
          have HF : Hid (smallF N K S B k RL) := ⟨h20, hs.out, fun e => by rw [hr] at e; cases e⟩
          clear hr
          go_wp2_with (go_at_call 13; refine HR.out.mono ?_; rintro e W2 ⟨rfl, hb2⟩; have HB2 := Lib.hid (HB.out.trans (hb2.mono HB.out.size)); clear hb2)
          go_ret
          exact SmP.of _ (fun _ => HF.out) HB2.out
        | true =>
          rw [hr] at HR
          have hx := of_decide_eq_true hr
          have s1 : IntKind.i64.wrap (N + K) = N + K := IntWalk.i64_in _ (by omega)
          clear hr hx
          by_cases h1 : S ≤ 1000
          · by_cases h2 : N + K ≤ 20
            · have HF : Hid (smallF N K S B k RL) := ⟨h20, hs.out, fun _ => ⟨h1, h2⟩⟩
              go_wp2_with (go_at_call 13; refine HR.out.mono ?_; rintro e W2 ⟨rfl, hb2⟩; have HB2 := Lib.hid (HB.out.trans (hb2.mono HB.out.size)); have hk2 := HK.out.below HK.out.lt hb2; have y0 := (hk2.cell 0).trans (show _ = some (Value.int .i64 N) from rfl); have y1 := (hk2.cell 1).trans (show _ = some (Value.int .i64 K) from rfl); have y2 := (hk2.cell 2).trans (show _ = some (Value.int .i64 S) from rfl); clear hb2 hk2)
              go_ret
              exact SmP.of _ (fun _ => HF.out) HB2.out
            · go_wp2_with (go_at_call 13; refine HR.out.mono ?_; rintro e W2 ⟨rfl, hb2⟩; have HB2 := Lib.hid (HB.out.trans (hb2.mono HB.out.size)); have hk2 := HK.out.below HK.out.lt hb2; have y0 := (hk2.cell 0).trans (show _ = some (Value.int .i64 N) from rfl); have y1 := (hk2.cell 1).trans (show _ = some (Value.int .i64 K) from rfl); have y2 := (hk2.cell 2).trans (show _ = some (Value.int .i64 S) from rfl); clear hb2 hk2)
              go_ret
              exact SmP.of _ (fun e => by first | (simp at e; omega) | simp at e) HB2.out
          · go_wp2_with (go_at_call 13; refine HR.out.mono ?_; rintro e W2 ⟨rfl, hb2⟩; have HB2 := Lib.hid (HB.out.trans (hb2.mono HB.out.size)); have hk2 := HK.out.below HK.out.lt hb2; have y0 := (hk2.cell 0).trans (show _ = some (Value.int .i64 N) from rfl); have y1 := (hk2.cell 1).trans (show _ = some (Value.int .i64 K) from rfl); have y2 := (hk2.cell 2).trans (show _ = some (Value.int .i64 S) from rfl); clear hb2 hk2)
            go_ret
            exact SmP.of _ (fun e => by first | (simp at e; omega) | simp at e) HB2.out
end Go.Proofs.YtbgdoemealddpaaDoor
