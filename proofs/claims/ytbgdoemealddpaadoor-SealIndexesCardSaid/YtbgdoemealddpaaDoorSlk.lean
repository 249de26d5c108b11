/-
  SEALS: what stands ahead of the sums, read: front. Rows of at most 100000 bytes.
-/
import Derived.Test.YtbgdoemealddpaaDoorSlj
namespace Go.Proofs.YtbgdoemealddpaaDoor
open Go.RowKit
set_option maxRecDepth 100000
set_option linter.unusedVariables false

/-- the error of what stands ahead of the sums -/
def frE (l : List F) : Int := if l.length < 4 ∨ ¬ l.take 4 = sgn then 44 else if l.length < 20 then 20 else if ¬ (atL l 4 2 = 1 ∧ rix (atL l 6 2 : Nat) (atL l 8 2 : Nat) (atL l 12 4 : Nat) (atL l 16 4 : Nat) (atL l 10 2 : Nat) = true) then 21 else 0
def frV (l : List F) : Value := if frE l = 0 then .agg #[.int .i64 (atL l 6 2 : Nat), .int .i64 (atL l 8 2 : Nat), .int .i64 (atL l 12 4 : Nat), .int .i64 (atL l 16 4 : Nat), .int .i64 (atL l 10 2 : Nat), .slice none 0 0] else .agg #[.int .i64 0, .int .i64 0, .int .i64 0, .int .i64 0, .int .i64 0, .slice none 0 0]
theorem info_sl : (Tryd.prog.info? 26).map (·.size) = some 6 := by kernel_rfl
theorem ld_sl {w : World} {g : Nat} {C : Array Value} (h : Blk w g 26 C) (hC : C.size = 6) : Sem.run Tryd.prog (loadVar 26 ⟨g, 0, none⟩) w = .ok (.agg C) w :=
  run_loadVar_row w g _ _ _ (0, 0) _ h Tryd.underlying26 rfl (by rw [info_sl, hC])
theorem st_sl {w : World} {g : Nat} {C : Array Value} (h : Blk w g 26 C) (hC : C.size = 6) (D : Array Value) (hD : D.size = 6) (h1 : D.all (·.oneCell') = true) :
    Sem.run Tryd.prog (storeVar 26 ⟨g, 0, none⟩ (.agg D)) w = .ok () (w.setRow g D) :=
  run_storeVar_row w g _ _ _ _ h (by rw [info_sl, hD]) (by rw [hC, hD]) h1
theorem sgn_list (l : List F) : ((strB l).toList == [70, 76, 82, 86]) = decide (l = sgn) := by
  have e : (strB sgn).toList = [70, 76, 82, 86] := eq_of_beq (by decide +kernel)
  rw [← e]
  exact strB_beqL l sgn
set_option maxHeartbeats 8000000 in
theorem front_c {w : World} {A : Option Addr} {n c : Nat} {l : List F} (h : RowIn w A n c l) (hn : n ≤ 100000) :
    Calls Tryd.prog 39 #[.slice A n c] w fun e w' => e = .returned (.tuple #[frV l, .int .i64 (frE l)]) ∧ Below w.heap.size w w' := by
  have hlen := h.row.len
  have hba := (Below.refl w.heap.size w).alloc (Nat.le_refl _) (.cells #[.int .i64 0, .int .i64 0, .int .i64 0, .int .i64 0, .int .i64 0, .slice none 0 0] 26)
  have HK0 := Lib.hid (Blk.new w 26 #[.int .i64 0, .int .i64 0, .int .i64 0, .int .i64 0, .int .i64 0, .slice none 0 0])
  have HB0 := Lib.hid hba
  have H0 := Lib.hid (h.below hba)
  have hcap := h.le
  clear hba
  have fin44 : frE l = 44 → Hid (∀ W, Blk W w.heap.size 26 #[.int .i64 0, .int .i64 0, .int .i64 0, .int .i64 0, .int .i64 0, .slice none 0 0] → True) := fun _ => fun _ _ => trivial
  clear fin44
  have HL := Lib.hid hlen
  obtain ⟨E, hE⟩ : ∃ E, E = frE l := ⟨_, rfl⟩
  obtain ⟨FV, hFV⟩ : ∃ V, V = frV l := ⟨_, rfl⟩
  rw [← hE, ← hFV]
  have HE := Lib.hid hE
  have HF := Lib.hid hFV
  clear hE hFV
  by_cases h4 : n < 4
  · have hv : E = 44 := by rw [HE.out]; unfold frE; rw [if_pos (.inl (by rw [HL.out]; exact h4))]
    have hV : FV = .agg #[.int .i64 0, .int .i64 0, .int .i64 0, .int .i64 0, .int .i64 0, .slice none 0 0] := by rw [HF.out]; unfold frV; rw [← HE.out, hv]; rfl
    subst hv hV
    have h4i : (n : Int) < 4 := by omega
    have t2 := st_sl HK0.out rfl #[.int .i64 0, .int .i64 0, .int .i64 0, .int .i64 0, .int .i64 0, .slice none 0 0] rfl (by simp [Value.oneCell'])
    have t3 := ld_sl (HK0.out.setRow #[.int .i64 0, .int .i64 0, .int .i64 0, .int .i64 0, .int .i64 0, .slice none 0 0]) rfl
    have HB9 := Lib.hid (below_setRowS HB0.out (Nat.le_refl _) #[.int .i64 0, .int .i64 0, .int .i64 0, .int .i64 0, .int .i64 0, .slice none 0 0])
    clear hlen h H0 HE HF
    go_enter Tryd.func39, Tryd.ntmps39
    go_wp2_with (with_reducible refine wpList_store_var _ _ _ (by with_unfolding_all rfl) (by with_unfolding_all rfl) t2 ?_)
    refine bodyPost_ret (v := .tuple #[.agg #[.int .i64 0, .int .i64 0, .int .i64 0, .int .i64 0, .int .i64 0, .slice none 0 0], .int .i64 44]) ?_ rfl ⟨rfl, HB9.out⟩
    rw [results_cell_tmp rfl]
    simp [asAddr, Result.andThen, t3]
  · obtain ⟨b, o, rfl, _, _⟩ := h.row.2.2 (by omega : 0 < n)
    have h4n : ¬ (n : Int) < 4 := by omega
    have hcv := run_row_string c (H0.out.row.take (k := 4) (by omega))
    have hq := sgn_list (l.take 4)
    have hq2 : ((strB (l.take 4)).toList != [70, 76, 82, 86]) = !decide (l.take 4 = sgn) := by rw [bne, hq]
    have b1 : (4 : Int) ≤ (c : Int) := by omega
    by_cases hs : l.take 4 = sgn
    case neg =>
      have hv : E = 44 := by rw [HE.out]; unfold frE; rw [if_pos (.inr hs)]
      have hV : FV = .agg #[.int .i64 0, .int .i64 0, .int .i64 0, .int .i64 0, .int .i64 0, .slice none 0 0] := by rw [HF.out]; unfold frV; rw [← HE.out, hv]; rfl
      subst hv hV
      rw [decide_eq_false hs] at hq hq2
      have t2 := st_sl HK0.out rfl #[.int .i64 0, .int .i64 0, .int .i64 0, .int .i64 0, .int .i64 0, .slice none 0 0] rfl (by simp [Value.oneCell'])
      have t3 := ld_sl (HK0.out.setRow #[.int .i64 0, .int .i64 0, .int .i64 0, .int .i64 0, .int .i64 0, .slice none 0 0]) rfl
      have HB9 := Lib.hid (below_setRowS HB0.out (Nat.le_refl _) #[.int .i64 0, .int .i64 0, .int .i64 0, .int .i64 0, .int .i64 0, .slice none 0 0])
      generalize strB (l.take 4) = sv at *
      clear hlen h H0 HE HF hs
      go_enter Tryd.func39, Tryd.ntmps39
      go_wp2_with (with_reducible refine wpList_store_var _ _ _ (by with_unfolding_all rfl) (by with_unfolding_all rfl) t2 ?_)
      refine bodyPost_ret (v := .tuple #[.agg #[.int .i64 0, .int .i64 0, .int .i64 0, .int .i64 0, .int .i64 0, .slice none 0 0], .int .i64 44]) ?_ rfl ⟨rfl, HB9.out⟩
      rw [results_cell_tmp rfl]
      simp [asAddr, Result.andThen, t3]
    case pos =>
      rw [decide_eq_true hs] at hq hq2
      have HS := Lib.hid hs
      generalize strB (l.take 4) = sv at *
      by_cases h20 : n < 20
      · have hv : E = 20 := by rw [HE.out]; unfold frE; rw [if_neg (by rw [HL.out]; intro e; rcases e with e | e; exact h4 e; exact e HS.out), if_pos (by rw [HL.out]; exact h20)]
        have hV : FV = .agg #[.int .i64 0, .int .i64 0, .int .i64 0, .int .i64 0, .int .i64 0, .slice none 0 0] := by rw [HF.out]; unfold frV; rw [← HE.out, hv]; rfl
        subst hv hV
        have h20i : (n : Int) < 20 := by omega
        have t2 := st_sl HK0.out rfl #[.int .i64 0, .int .i64 0, .int .i64 0, .int .i64 0, .int .i64 0, .slice none 0 0] rfl (by simp [Value.oneCell'])
        have t3 := ld_sl (HK0.out.setRow #[.int .i64 0, .int .i64 0, .int .i64 0, .int .i64 0, .int .i64 0, .slice none 0 0]) rfl
        have HB9 := Lib.hid (below_setRowS HB0.out (Nat.le_refl _) #[.int .i64 0, .int .i64 0, .int .i64 0, .int .i64 0, .int .i64 0, .slice none 0 0])
        clear hlen h H0 HE HF hs
        go_enter Tryd.func39, Tryd.ntmps39
        go_wp2_with (with_reducible refine wpList_store_var _ _ _ (by with_unfolding_all rfl) (by with_unfolding_all rfl) t2 ?_)
        refine bodyPost_ret (v := .tuple #[.agg #[.int .i64 0, .int .i64 0, .int .i64 0, .int .i64 0, .int .i64 0, .slice none 0 0], .int .i64 20]) ?_ rfl ⟨rfl, HB9.out⟩
        rw [results_cell_tmp rfl]
        simp [asAddr, Result.andThen, t3]
      · have h20n : ¬ (n : Int) < 20 := by omega
        have b2 : (20 : Int) ≤ (c : Int) := by omega
        have HEE : Hid (E = if ¬ (atL l 4 2 = 1 ∧ rix (atL l 6 2 : Nat) (atL l 8 2 : Nat) (atL l 12 4 : Nat) (atL l 16 4 : Nat) (atL l 10 2 : Nat) = true) then 21 else 0) := by
          unfold Hid
          rw [HE.out]
          unfold frE
          rw [if_neg (by rw [HL.out]; intro e; rcases e with e | e; exact h4 e; exact e HS.out), if_neg (by rw [HL.out]; exact h20)]
        have HFF : Hid (FV = if E = 0 then .agg #[.int .i64 (atL l 6 2 : Nat), .int .i64 (atL l 8 2 : Nat), .int .i64 (atL l 12 4 : Nat), .int .i64 (atL l 16 4 : Nat), .int .i64 (atL l 10 2 : Nat), .slice none 0 0] else .agg #[.int .i64 0, .int .i64 0, .int .i64 0, .int .i64 0, .int .i64 0, .slice none 0 0]) := by
          unfold Hid
          rw [HF.out]
          unfold frV
          rw [← HE.out]
        have l1 := atL_lt2 l 4
        have l2 := atL_lt2 l 6
        have l3 := atL_lt2 l 8
        have l4 := atL_lt2 l 10
        have l5 := atL_lt4 l 12
        have l6 := atL_lt4 l 16
        have key : ∀ f s, f + s ≤ 16 → atL ((l.drop 4).take 16) f s = atL l (4 + f) s := fun f s hfs => by rw [atL_take _ _ _ _ hfs, atL_drop]
        have k1 := Lib.hid (key 0 2 (by omega))
        have k2 := Lib.hid (key 2 2 (by omega))
        have k3 := Lib.hid (key 4 2 (by omega))
        have k4 := Lib.hid (key 6 2 (by omega))
        have k5 := Lib.hid (key 8 4 (by omega))
        have k6 := Lib.hid (key 12 4 (by omega))
        have hrow16 := H0.out.row.from_ (p := 4) (m := 16) (by omega)
        generalize (l.drop 4).take 16 = l' at *
        generalize atL l 4 2 = v1 at *
        generalize atL l 6 2 = v2 at *
        generalize atL l 8 2 = v3 at *
        generalize atL l 10 2 = v4 at *
        generalize atL l 12 4 = v5 at *
        generalize atL l 16 4 = v6 at *
        change Hid (atL l' 0 2 = v1) at k1
        change Hid (atL l' 2 2 = v2) at k2
        change Hid (atL l' 4 2 = v3) at k3
        change Hid (atL l' 6 2 = v4) at k4
        change Hid (atL l' 8 4 = v5) at k5
        change Hid (atL l' 12 4 = v6) at k6
        have HROW := Lib.hid hrow16
        have u2 : IntKind.i64.wrap (v2 : Int) = (v2 : Int) := IntWalk.i64_in _ (by omega)
        have u3 : IntKind.i64.wrap (v3 : Int) = (v3 : Int) := IntWalk.i64_in _ (by omega)
        have u4 : IntKind.i64.wrap (v4 : Int) = (v4 : Int) := IntWalk.i64_in _ (by omega)
        have u5 : IntKind.i64.wrap (v5 : Int) = (v5 : Int) := IntWalk.i64_in _ (by omega)
        have u6 : IntKind.i64.wrap (v6 : Int) = (v6 : Int) := IntWalk.i64_in _ (by omega)
        clear hlen h H0 HE HF hs key hrow16
        go_enter Tryd.func39, Tryd.ntmps39
        go_wp2_with fail
        have HE0 : Hid ((w.alloc (.cells #[.int .i64 0, .int .i64 0, .int .i64 0, .int .i64 0, .int .i64 0, .slice none 0 0] 26)).heap.size = w.heap.size + 1) := by unfold Hid; simp
        have HS0 : Hid (w.heap.size < (w.alloc (.cells #[.int .i64 0, .int .i64 0, .int .i64 0, .int .i64 0, .int .i64 0, .slice none 0 0] 26)).heap.size) := by unfold Hid; simp
        rw [← HE0.out]
        generalize w.alloc (.cells #[.int .i64 0, .int .i64 0, .int .i64 0, .int .i64 0, .int .i64 0, .slice none 0 0] 26) = w0 at *
        refine (Read_d _ 16 _ l' _ (HROW.out.alloc _) (by omega)).mono ?_
        rintro e W1 ⟨p, A1, c1, rfl, hr, hp, hb, hal⟩
        have R1 : Hid (RdSt w0 W1 26 #[.int .i64 0, .int .i64 0, .int .i64 0, .int .i64 0, .int .i64 0, .slice none 0 0] p A1 16 c1 l' 0) := by
          refine ⟨(Blk.new w0 _ _).below (by simp) hb, hr, by simpa using hp, by simpa using hal, ((Below.refl w0.heap.size w0).alloc (Nat.le_refl _) _).trans (hb.mono (by simp))⟩
        clear hr hp hb hal HROW
        go_wp2_with fail
        refine (R1.out.num 2 2 rfl (by omega) (by omega)).mono ?_
        rintro e W2 ⟨rfl, r2⟩
        rw [k1.out]
        have R2 : Hid (RdSt w0 W2 _ _ p A1 16 c1 l' 2) := r2
        clear r2 R1 hcv
        obtain ⟨sm, hsm⟩ : ∃ sm, sm = decide (v1 = 1) := ⟨_, rfl⟩
        have hv1 : ((v1 : Int) == 1) = sm := by
          rw [hsm]
          by_cases e : v1 = 1
          · rw [e]; rfl
          · rw [decide_eq_false e, beq_eq_false_iff_ne]; omega
        have HSM := Lib.hid hsm
        clear hsm
        go_wp2_with fail
        refine (R2.out.num 2 2 rfl (by omega) (by omega)).mono ?_
        rintro e W3 ⟨rfl, r3⟩
        rw [k2.out]
        have R3 : Hid (RdSt w0 W3 _ _ p A1 16 c1 l' 4) := r3
        clear r3 R2
        go_wp2_with fail
        refine (R3.out.num 2 2 rfl (by omega) (by omega)).mono ?_
        rintro e W4 ⟨rfl, r4⟩
        rw [k3.out]
        have R4 : Hid (RdSt w0 W4 _ _ p A1 16 c1 l' 6) := r4
        clear r4 R3
        go_wp2_with fail
        refine (R4.out.num 2 2 rfl (by omega) (by omega)).mono ?_
        rintro e W5 ⟨rfl, r5⟩
        rw [k4.out]
        have R5 : Hid (RdSt w0 W5 _ _ p A1 16 c1 l' 8) := r5
        clear r5 R4
        have o1 := (R5.out.box.cell 0).trans rfl
        have f1 := R5.out.box.frozen 0
        have R6 : Hid (RdSt w0 _ _ #[.int .i64 (v2 : Nat), .int .i64 0, .int .i64 0, .int .i64 0, .int .i64 0, .slice none 0 0] p A1 16 c1 l' 8) := R5.out.set 0 (.int .i64 (v2 : Nat))
        have o2 := (R6.out.box.cell 1).trans rfl
        have f2 := R6.out.box.frozen 1
        have R7 : Hid (RdSt w0 _ _ #[.int .i64 (v2 : Nat), .int .i64 (v3 : Nat), .int .i64 0, .int .i64 0, .int .i64 0, .slice none 0 0] p A1 16 c1 l' 8) := R6.out.set 1 (.int .i64 (v3 : Nat))
        have o3 := (R7.out.box.cell 4).trans rfl
        have f3 := R7.out.box.frozen 4
        have R8 : Hid (RdSt w0 _ _ #[.int .i64 (v2 : Nat), .int .i64 (v3 : Nat), .int .i64 0, .int .i64 0, .int .i64 (v4 : Nat), .slice none 0 0] p A1 16 c1 l' 8) := R7.out.set 4 (.int .i64 (v4 : Nat))
        clear R5 R6 R7
        go_wp2_with fail
        refine (R8.out.num 4 4 rfl (by omega) (by omega)).mono ?_
        rintro e W9 ⟨rfl, r9⟩
        rw [k5.out]
        have R9 : Hid (RdSt w0 W9 _ _ p A1 16 c1 l' 12) := r9
        clear r9 R8 o1 f1 o2 f2 o3 f3
        go_wp2_with fail
        refine (R9.out.num 4 4 rfl (by omega) (by omega)).mono ?_
        rintro e Wa ⟨rfl, ra⟩
        rw [k6.out]
        have Ra : Hid (RdSt w0 Wa _ _ p A1 16 c1 l' 16) := ra
        clear ra R9
        have o1 := (Ra.out.box.cell 2).trans rfl
        have f1 := Ra.out.box.frozen 2
        have Rb : Hid (RdSt w0 _ _ #[.int .i64 (v2 : Nat), .int .i64 (v3 : Nat), .int .i64 (v5 : Nat), .int .i64 0, .int .i64 (v4 : Nat), .slice none 0 0] p A1 16 c1 l' 16) := Ra.out.set 2 (.int .i64 (v5 : Nat))
        have o2 := (Rb.out.box.cell 3).trans rfl
        have f2 := Rb.out.box.frozen 3
        have Rc : Hid (RdSt w0 _ _ #[.int .i64 (v2 : Nat), .int .i64 (v3 : Nat), .int .i64 (v5 : Nat), .int .i64 (v6 : Nat), .int .i64 (v4 : Nat), .slice none 0 0] p A1 16 c1 l' 16) := Rb.out.set 3 (.int .i64 (v6 : Nat))
        clear Ra Rb
        have HKc := Lib.hid (HK0.out.lowB HS0.out Rc.out.bel)
        have HBc := Lib.hid (HB0.out.trans (Rc.out.bel.mono (Nat.le_of_lt HS0.out)))
        cases sm with
        | false =>
          have hv : E = 21 := by rw [HEE.out, if_pos (fun e => by rw [decide_eq_true e.1] at HSM; exact absurd HSM.out (by simp))]
          have hV : FV = .agg #[.int .i64 0, .int .i64 0, .int .i64 0, .int .i64 0, .int .i64 0, .slice none 0 0] := by rw [HFF.out, hv]; rfl
          subst hv hV
          have t2 := st_sl HKc.out rfl #[.int .i64 0, .int .i64 0, .int .i64 0, .int .i64 0, .int .i64 0, .slice none 0 0] rfl (by simp [Value.oneCell'])
          have t3 := ld_sl (HKc.out.setRow #[.int .i64 0, .int .i64 0, .int .i64 0, .int .i64 0, .int .i64 0, .slice none 0 0]) rfl
          have HB9 := Lib.hid (below_setRowS HBc.out (Nat.le_refl _) #[.int .i64 0, .int .i64 0, .int .i64 0, .int .i64 0, .int .i64 0, .slice none 0 0])
          go_wp2_with (with_reducible refine wpList_store_var _ _ _ (by with_unfolding_all rfl) (by with_unfolding_all rfl) t2 ?_)
          refine bodyPost_ret (v := .tuple #[.agg #[.int .i64 0, .int .i64 0, .int .i64 0, .int .i64 0, .int .i64 0, .slice none 0 0], .int .i64 21]) ?_ rfl ⟨rfl, HB9.out⟩
          rw [results_cell_tmp rfl]
          simp [asAddr, Result.andThen, t3]
        | true =>
          have hw1 : v1 = 1 := of_decide_eq_true HSM.out.symm
          have hW4 : Wf4 v2 v3 v5 v6 := ⟨wfI _ (by omega), wfI _ (by omega), wfI _ (by omega), wfI _ (by omega)⟩
          have HRI := Lib.hid (rightIndex_c (I := v4) hW4 none 0 0)
          have z0 := (Rc.out.box.cell 0).trans (show _ = some (Value.int .i64 (v2 : Nat)) from rfl)
          have z1 := (Rc.out.box.cell 1).trans (show _ = some (Value.int .i64 (v3 : Nat)) from rfl)
          have z2 := (Rc.out.box.cell 2).trans (show _ = some (Value.int .i64 (v5 : Nat)) from rfl)
          have z3 := (Rc.out.box.cell 3).trans (show _ = some (Value.int .i64 (v6 : Nat)) from rfl)
          have z4 := (Rc.out.box.cell 4).trans (show _ = some (Value.int .i64 (v4 : Nat)) from rfl)
          have z5 := (Rc.out.box.cell 5).trans (show _ = some (Value.slice none 0 0) from rfl)
          go_wp2_with fail
          refine (HRI.out _).mono ?_
          rintro e Wd ⟨rfl, hbd⟩
          have HKd := Lib.hid (HKc.out.below HKc.out.lt hbd)
          have HBd := Lib.hid (HBc.out.trans (hbd.mono HBc.out.size))
          have HXd := Lib.hid (Rc.out.box.below Rc.out.lt hbd)
          clear z0 z1 z2 z3 z4 z5 hbd HKc HBc Rc o1 f1 o2 f2
          cases hr : rix v2 v3 v5 v6 v4 with
          | false =>
            have hv : E = 21 := by rw [HEE.out, hr]; simp
            have hV : FV = .agg #[.int .i64 0, .int .i64 0, .int .i64 0, .int .i64 0, .int .i64 0, .slice none 0 0] := by rw [HFF.out, hv]; rfl
            subst hv hV
            have t2 := st_sl HKd.out rfl #[.int .i64 0, .int .i64 0, .int .i64 0, .int .i64 0, .int .i64 0, .slice none 0 0] rfl (by simp [Value.oneCell'])
            have t3 := ld_sl (HKd.out.setRow #[.int .i64 0, .int .i64 0, .int .i64 0, .int .i64 0, .int .i64 0, .slice none 0 0]) rfl
            have HB9 := Lib.hid (below_setRowS HBd.out (Nat.le_refl _) #[.int .i64 0, .int .i64 0, .int .i64 0, .int .i64 0, .int .i64 0, .slice none 0 0])
            clear hr
            go_wp2_with (with_reducible refine wpList_store_var _ _ _ (by with_unfolding_all rfl) (by with_unfolding_all rfl) t2 ?_)
            refine bodyPost_ret (v := .tuple #[.agg #[.int .i64 0, .int .i64 0, .int .i64 0, .int .i64 0, .int .i64 0, .slice none 0 0], .int .i64 21]) ?_ rfl ⟨rfl, HB9.out⟩
            rw [results_cell_tmp rfl]
            simp [asAddr, Result.andThen, t3]
          | true =>
            have hv : E = 0 := by rw [HEE.out, if_neg (fun e => e ⟨hw1, hr⟩)]
            have hV : FV = .agg #[.int .i64 (v2 : Nat), .int .i64 (v3 : Nat), .int .i64 (v5 : Nat), .int .i64 (v6 : Nat), .int .i64 (v4 : Nat), .slice none 0 0] := by rw [HFF.out, if_pos hv]
            subst hv hV
            have t2 := st_sl HKd.out rfl #[.int .i64 (v2 : Nat), .int .i64 (v3 : Nat), .int .i64 (v5 : Nat), .int .i64 (v6 : Nat), .int .i64 (v4 : Nat), .slice none 0 0] rfl (by simp [Value.oneCell'])
            have t3 := ld_sl (HKd.out.setRow #[.int .i64 (v2 : Nat), .int .i64 (v3 : Nat), .int .i64 (v5 : Nat), .int .i64 (v6 : Nat), .int .i64 (v4 : Nat), .slice none 0 0]) rfl
            have HB9 := Lib.hid (below_setRowS HBd.out (Nat.le_refl _) #[.int .i64 (v2 : Nat), .int .i64 (v3 : Nat), .int .i64 (v5 : Nat), .int .i64 (v6 : Nat), .int .i64 (v4 : Nat), .slice none 0 0])
            have z0 := (HXd.out.cell 0).trans (show _ = some (Value.int .i64 (v2 : Nat)) from rfl)
            have z1 := (HXd.out.cell 1).trans (show _ = some (Value.int .i64 (v3 : Nat)) from rfl)
            have z2 := (HXd.out.cell 2).trans (show _ = some (Value.int .i64 (v5 : Nat)) from rfl)
            have z3 := (HXd.out.cell 3).trans (show _ = some (Value.int .i64 (v6 : Nat)) from rfl)
            have z4 := (HXd.out.cell 4).trans (show _ = some (Value.int .i64 (v4 : Nat)) from rfl)
            have z5 := (HXd.out.cell 5).trans (show _ = some (Value.slice none 0 0) from rfl)
            clear hr
            go_wp2_with (with_reducible refine wpList_store_var _ _ _ (by with_unfolding_all rfl) (by with_unfolding_all rfl) t2 ?_)
            refine bodyPost_ret (v := .tuple #[.agg #[.int .i64 (v2 : Nat), .int .i64 (v3 : Nat), .int .i64 (v5 : Nat), .int .i64 (v6 : Nat), .int .i64 (v4 : Nat), .slice none 0 0], .int .i64 0]) ?_ rfl ⟨rfl, HB9.out⟩
            rw [results_cell_tmp rfl]
            simp [asAddr, Result.andThen, t3]
end Go.Proofs.YtbgdoemealddpaaDoor
