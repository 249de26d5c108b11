/-
  STRIPES: are two rows of rows the same (the document's Rows). No conditions.
-/
import Derived.Test.YtfjpbbejhegcjaaJoin
import Derived.Deep.RegionHeld3
import Derived.Deep.RegionLaw
import Derived.Deep.RegionWith
namespace Go.Proofs.Ytfjpbbejhegcjaa
open Go.RowKit
set_option maxRecDepth 100000
set_option linter.unusedVariables false

theorem SameW23_c (A B : Option Addr) (n m ca cb : Nat) (a b : List F) (w : World) (ha : Row w A n a) (hb : Row w B m b) :
    Calls Try.prog 21 #[.slice A n ca, .slice B m cb] w fun e w' => e = .returned (.bool (decide (a = b))) ∧ ∃ q, w' = w.drewN q := by
  by_cases h : n = m
  · subst h
    exact Same_d A B n ca cb a b w ha hb
  · have hne : a ≠ b := fun e => h (by rw [← ha.len, ← hb.len, e])
    rw [decide_eq_false hne]
    refine (Same_len A B n m ca cb w h ha.max hb.max).mono ?_
    rintro e _ ⟨rfl, rfl⟩
    exact ⟨rfl, 0, rfl⟩
/-- the same rows -/
def sameR23 (n : Nat) (R : Nat → List F) (m : Nat) (R' : Nat → List F) : Prop := n = m ∧ ∀ r, r < n → R r = R' r
instance (n : Nat) (R : Nat → List F) (m : Nat) (R' : Nat → List F) : Decidable (sameR23 n R m R') := by unfold sameR23; infer_instance
set_option maxHeartbeats 1000000 in
theorem RowsW23_c {w : World} {A A' : Option Addr} {n m cap cap' : Nat} {RA RA' : Nat → Option Addr} {RL RL' RC RC' : Nat → Nat} {R R' : Nat → List F} (h : MIn w A n cap RA RL RC R) (h' : MIn w A' m cap' RA' RL' RC' R') :
    Calls Try.prog 8 #[.slice A n cap, .slice A' m cap'] w fun e w' => e = .returned (.bool (decide (sameR23 n R m R'))) ∧ ∃ q, w' = w.drewN q := by
  have hn := h.nmax
  have hm := h'.nmax
  have H := Lib.hid h
  have H' := Lib.hid h'
  clear h h'
  by_cases hnm : n = m
  · subst hnm
    have hne : ((n : Int) != (n : Int)) = false := by simp
    go_enter Try.func8, Try.ntmps8
    go_wp2
    go_loopw [5] (fun i wr => ∃ k q : Nat, k ≤ n ∧ i = .int .i64 k ∧ Hid (wr = w.drewN q) ∧ Hid (∀ r, r < k → R r = R' r)) (fun i _ => n - (intOf i).toNat)
    case atStart => exact ⟨0, 0, by omega, rfl, rfl, fun r hr => absurd hr (by omega)⟩
    case round =>
      obtain ⟨k, q, hk, rfl, hw, hS⟩ := hrel
      by_cases hlt : k < n
      · have hkn : (k : Int) < n := by omega
        have hi0 : (0 : Int) ≤ (k : Int) := by omega
        have hM := H.out.drewN q
        have hM' := H'.out.drewN q
        rw [← hw.out] at hM hM'
        obtain ⟨b1, o1, rfl, l1, q1⟩ := hM.at_ hlt
        obtain ⟨b2, o2, rfl, l2, p1⟩ := hM'.at_ hlt
        have HC := Lib.hid (SameW23_c (RA k) (RA' k) (RL k) (RL' k) (RC k) (RC' k) (R k) (R' k) wr.drew (hM.row k hlt).row (hM'.row k hlt).row)
        clear hM hM'
        obtain ⟨sv, hsv⟩ : ∃ sv, sv = decide (R k = R' k) := ⟨_, rfl⟩
        rw [← hsv] at HC
        have HSV := Lib.hid hsv
        clear hsv
        go_wp2_with fail
        refine wp_region_held_drew (S := fun W' => W'.cell? ⟨b1, o1 + k, none⟩ = some (.slice (RA k) (RL k) (RC k)) ∧ W'.cell? ⟨b2, o2 + k, none⟩ = some (.slice (RA' k) (RL' k) (RC' k))) (by kernel_rfl) ?_ (fun hHeld => ?_)
        · go_keep
        refine wpAnyH_take (i := 0) (oi := { dst := some 17, op := _, type := _, pos := _, after := _, guard := _ }) (v := ?_) rfl (by kernel_rfl) (by kernel_rfl) (by kernel_rfl) (fun _ _ _ h => h) (Or.inl ⟨by rfl, ?_⟩) (by assumption) ?_
        rotate_left
        · intro w' hSw
          try dsimp only at hSw
          go_simp
          try with_reducible rfl
        try simp only [Act.put, List.setIfInBounds_toArray, List.set_cons_zero, List.set_cons_succ]
        refine wpAnyH_take (i := 1) (oi := { dst := some 18, op := _, type := _, pos := _, after := _, guard := _ }) (v := ?_) rfl (by kernel_rfl) (by kernel_rfl) (by kernel_rfl) (fun _ _ _ h => h) (Or.inl ⟨by rfl, ?_⟩) (by assumption) ?_
        rotate_left
        · intro w' hSw
          try dsimp only at hSw
          go_simp
          try with_reducible rfl
        try simp only [Act.put, List.setIfInBounds_toArray, List.set_cons_zero, List.set_cons_succ]
        refine wpAnyH_take (i := 2) (oi := { dst := some 19, op := _, type := _, pos := _, after := _, guard := _ }) (v := ?_) rfl (by kernel_rfl) (by kernel_rfl) (by kernel_rfl) (fun _ _ _ h => h) (Or.inl ⟨by rfl, ?_⟩) (by assumption) ?_
        rotate_left
        · intro w' hSw
          try dsimp only at hSw
          go_simp
          try with_reducible rfl
        try simp only [Act.put, List.setIfInBounds_toArray, List.set_cons_zero, List.set_cons_succ]
        refine wpAnyH_take (i := 3) (oi := { dst := some 20, op := _, type := _, pos := _, after := _, guard := _ }) (v := ?_) rfl (by kernel_rfl) (by kernel_rfl) (by kernel_rfl) (fun _ _ _ h => h) (Or.inl ⟨by rfl, ?_⟩) (by assumption) ?_
        rotate_left
        · intro w' hSw
          try dsimp only at hSw
          go_simp
          try with_reducible rfl
        try simp only [Act.put, List.setIfInBounds_toArray, List.set_cons_zero, List.set_cons_succ]
        refine wpAnyH_take (i := 4) (oi := { dst := some 21, op := _, type := _, pos := _, after := _, guard := _ }) (v := ?_) rfl (by kernel_rfl) (by kernel_rfl) (by kernel_rfl) (fun _ _ _ h => h) (Or.inl ⟨by rfl, ?_⟩) (by assumption) ?_
        rotate_left
        · intro w' hSw
          try dsimp only at hSw
          go_simp
          try with_reducible rfl
        try simp only [Act.put, List.setIfInBounds_toArray, List.set_cons_zero, List.set_cons_succ]
        refine wpAnyH_take (i := 5) (oi := { dst := some 22, op := _, type := _, pos := _, after := _, guard := _ }) (v := ?_) rfl (by kernel_rfl) (by kernel_rfl) (by kernel_rfl) (fun _ _ _ h => h) (Or.inl ⟨by rfl, ?_⟩) (by assumption) ?_
        rotate_left
        · intro w' hSw
          try dsimp only at hSw
          go_simp
          try with_reducible rfl
        try simp only [Act.put, List.setIfInBounds_toArray, List.set_cons_zero, List.set_cons_succ]
        refine wpAnyH_take (i := 6) (oi := { dst := some 23, op := _, type := _, pos := _, after := _, guard := _ }) (v := ?_) rfl (by kernel_rfl) (by kernel_rfl) (by kernel_rfl) (fun _ _ _ h => h) (Or.inl ⟨by rfl, ?_⟩) (by assumption) ?_
        rotate_left
        · intro w' hSw
          try dsimp only at hSw
          go_simp
          try with_reducible rfl
        try simp only [Act.put, List.setIfInBounds_toArray, List.set_cons_zero, List.set_cons_succ]
        refine wpAnyH_take (i := 7) (oi := { dst := some 24, op := _, type := _, pos := _, after := _, guard := _ }) (v := ?_) rfl (by kernel_rfl) (by kernel_rfl) (by kernel_rfl) (fun _ _ _ h => h) (Or.inl ⟨by rfl, ?_⟩) (by assumption) ?_
        rotate_left
        · intro w' hSw
          try dsimp only at hSw
          go_simp
          try with_reducible rfl
        try simp only [Act.put, List.setIfInBounds_toArray, List.set_cons_zero, List.set_cons_succ]
        refine wpAnyH_ready (rs := [8]) (by kernel_rfl) (by simp) ?_
        refine AllReadyH.cons (o := { dst := some 25, op := _, type := _, pos := _, after := _, guard := _ }) rfl (fun K hK => ?_) AllReadyH.nil
        go_simp
        go_at_call 21
        refine HC.out.mono ?_
        rintro e _ ⟨rfl, q2, rfl⟩
        try go_wp2_with fail
        refine hK.out _ _ ?_ (fun hHeld => ?_)
        · exact ⟨q1, p1⟩
        clear hK K
        try simp only [Act.put, List.setIfInBounds_toArray, List.set_cons_zero, List.set_cons_succ]
        refine wpAnyH_take (i := 9) (oi := { dst := some 26, op := _, type := _, pos := _, after := _, guard := _ }) (v := ?_) rfl (by kernel_rfl) (by kernel_rfl) (by kernel_rfl) (fun _ _ _ h => h) (Or.inl ⟨by rfl, ?_⟩) (by assumption) ?_
        rotate_left
        · intro w' hSw
          try dsimp only at hSw
          go_simp
          try with_reducible rfl
        try simp only [Act.put, List.setIfInBounds_toArray, List.set_cons_zero, List.set_cons_succ]
        refine wpAnyH_done (by kernel_rfl) ?_ _
        clear hHeld q1 p1
        have HW2 : Hid (wr.drewN (1 + q2) = w.drewN (q + (1 + q2))) := by
          unfold Hid
          rw [hw.out, World.drewN_drewN]
        cases sv
        case true =>
          have hS2 : Hid (∀ r, r < k + 1 → R r = R' r) := fun r hr => by
            by_cases e : r = k
            · subst e; exact of_decide_eq_true HSV.out.symm
            · exact hS.out r (by omega)
          go_wp2
          go_roundw
          case rel => exact ⟨k + 1, _, by omega, by go_num, HW2, hS2⟩
          case measure => simp [intOf]; omega
        case false =>
          have HD : Hid (decide (sameR23 n R n R') = false) := decide_eq_false fun e => by
            have h2 := of_decide_eq_false HSV.out.symm
            exact h2 (e.2 k hlt)
          go_wp2
          go_ret
          exact ⟨ret_bool HD.out.symm, _, HW2.out⟩
      · obtain rfl : k = n := by omega
        have HD : Hid (decide (sameR23 k R k R') = true) := decide_eq_true ⟨rfl, hS.out⟩
        go_wp2
        go_ret
        exact ⟨ret_bool HD.out.symm, q, hw.out⟩
  · have hne : ((n : Int) != (m : Int)) = true := by rw [bne_iff_ne]; omega
    have HD : Hid (decide (sameR23 n R m R') = false) := decide_eq_false fun e => hnm e.1
    clear hnm
    go_enter Try.func8, Try.ntmps8
    go_wp2
    go_ret
    exact ⟨ret_bool HD.out.symm, 0, rfl⟩
end Go.Proofs.Ytfjpbbejhegcjaa
