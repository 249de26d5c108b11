/-
  SPAN: Record: a record is laid in one volume, or told too long. Conditions: a writer of right volumes.
-/
import Derived.Test.YtkijagodedmipaaSpf
namespace Go.Proofs.Ytkijagodedmipaa
open Go.RowKit
set_option maxRecDepth 100000
set_option linter.unusedVariables false

/-- behind a record: the volumes, where it stands, the error's number -/
def recF (S : Nat) (v : Vs) (b : List F) : Vs × Nat × Nat × Nat :=
  if b.length = 0 ∨ S < b.length then (v, 0, 0, 50) else (vput S v b, (vat S v b.length).1, (vat S v b.length).2, 0)
/-- what Record answers, and does -/
def RcR (w : World) (base p S : Nat) (v : Vs) (Fp : Nat → Prop) (b : List F) (e : Ending) (w' : World) : Prop :=
  e = .returned (.tuple #[plV (((recF S v b).2.1 : Nat) : Int) (((recF S v b).2.2.1 : Nat) : Int), .int .i64 (((recF S v b).2.2.2 : Nat) : Int)]) ∧ KeepF Fp w w' ∧ Spw w' base p S (recF S v b).1 (Fgrow Fp w.heap.size w'.heap.size)
theorem RcR.of {w : World} {base p S : Nat} {v v' : Vs} {Fp : Nat → Prop} {b : List F} {e : Ending} {w' : World} (d o k : Nat) (hp : recF S v b = (v', d, o, k)) (he : e = .returned (.tuple #[plV (d : Int) (o : Int), .int .i64 (k : Int)])) (hk : KeepF Fp w w') (hs : Spw w' base p S v' (Fgrow Fp w.heap.size w'.heap.size)) : RcR w base p S v Fp b e w' := by
  unfold RcR
  rw [hp]
  exact ⟨he, hk, hs⟩
theorem Spw.fp {w : World} {base p S : Nat} {v : Vs} {Fp : Nat → Prop} (h : Spw w base p S v Fp) : Fp p := by
  obtain ⟨g, c, RA, RC, h⟩ := h
  exact h.fp
theorem Spw.size {w : World} {base p S : Nat} {v : Vs} {Fp : Nat → Prop} (h : Spw w base p S v Fp) : w.cell? ⟨p, 0, none⟩ = some (.int .i64 S) := by
  obtain ⟨g, c, RA, RC, h⟩ := h
  exact h.blk.cell 0
theorem Spw.plt {w : World} {base p S : Nat} {v : Vs} {Fp : Nat → Prop} (h : Spw w base p S v Fp) : base ≤ p ∧ p < w.heap.size := h.sub p h.fp
theorem Fgrow.mono {Fp : Nat → Prop} {a b a' b' : Nat} (ha : a' ≤ a) (hb : b ≤ b') : ∀ k, Fgrow Fp a b k → Fgrow Fp a' b' k := fun k h => by
  rcases h with h | h
  · exact .inl h
  · exact .inr ⟨by omega, by omega⟩
theorem Spw.grow {w w0 : World} {base p S : Nat} {v : Vs} {Fp : Nat → Prop} {a a' : Nat} (h : Spw w base p S v (Fgrow Fp a w.heap.size)) (ha : a' ≤ a) (hF : ∀ k, Fp k → base ≤ k ∧ k < w.heap.size) (hb : base ≤ a') : Spw w base p S v (Fgrow Fp a' w.heap.size) :=
  h.wider (Fgrow.mono ha (Nat.le_refl _)) fun k hk => by
    rcases hk with hk | hk
    · exact hF k hk
    · exact ⟨by omega, hk.2⟩
theorem KeepF.blk {Fp : Nat → Prop} {w w' : World} {g : Nat} {t : TypeId} {C : Array Value} (h : KeepF Fp w w') (hb : Blk w g t C) (hn : ¬ Fp g) : Blk w' g t C := by
  have := h.block g hb.lt hn
  unfold Blk at hb ⊢
  rw [this]
  exact hb
set_option maxHeartbeats 2000000 in
theorem Record_c {w : World} {base p S n c : Nat} {v : Vs} {Fp : Nat → Prop} {B : Option Addr} {b : List F} (h : Spw w base p S v Fp) (hv : VOk S v) (hS : S ≤ 16777216) (hm : v.P.length ≤ 1000000) (hb : Row w B n b) (hBn : 0 < n → ∀ x o, B = some ⟨x, o, none⟩ → ¬ Fp x) :
    Calls Try.prog 11 #[.pointer (some ⟨p, 0, none⟩), .slice B n c] w fun e w' => RcR w base p S v Fp b e w' := by
  have hlen := hb.len
  have hmax := hb.max
  have hbp := h.plt
  have hb0 := (Below.refl w.heap.size w).alloc (Nat.le_refl _) (.cells (plC 0 0) 37)
  have HK := Lib.hid (Blk.new w 37 (plC 0 0))
  have H0 := Lib.hid (h.below hb0)
  have hz := H0.out.size
  have hsub := h.sub
  by_cases hno : n = 0 ∨ S < n
  · have HR : Hid (recF S v b = (v, 0, 0, 50)) := if_pos (by omega)
    have t2 := st_pl HK.out rfl (plC 0 0) rfl (by simp [plC, Value.oneCell'])
    have t3 := ld_pl (HK.out.setRow (plC 0 0)) rfl
    have HS9 := Lib.hid (H0.out.setRow (q := w.heap.size) (fun e => by have := (hsub _ e).2; omega) (plC 0 0))
    have HB9 := Lib.hid (below_setRowV hb0 (Nat.le_refl _) (plC 0 0))
    have HSUB := Lib.hid hsub
    have hsz : ((w.alloc (.cells (plC 0 0) 37)).setRow w.heap.size (plC 0 0)).heap.size = w.heap.size + 1 := by simp [World.setRow]
    have HSZ := Lib.hid hsz
    clear hlen hsub hb0 hsz
    rcases hno with rfl | hno
    · unfold plC at *
      go_enter Try.func11, Try.ntmps11
      go_wp2_with (with_reducible refine wpList_store_var _ _ _ (by with_unfolding_all rfl) (by with_unfolding_all rfl) t2 ?_)
      refine bodyPost_ret (v := .tuple #[.agg #[.int .i64 0, .int .i64 0], .int .i64 50]) ?_ rfl (RcR.of 0 0 50 HR.out rfl (KeepF.ofBelow HB9.out) (HS9.out.wider (fun k hk => .inl hk) fun k hk => ?_))
      · rw [results_cell_tmp rfl]
        simp [asAddr, Result.andThen, t3]
      · rw [HSZ.out] at hk ⊢
        rcases hk with hk | hk
        · have := HSUB.out k hk; omega
        · omega
    · by_cases hn0 : n = 0
      · subst hn0; omega
      have i1 : ((n : Int) == 0) = false := by rw [beq_eq_false_iff_ne]; omega
      have i2 : (S : Int) < (n : Int) := by omega
      unfold plC at *
      go_enter Try.func11, Try.ntmps11
      go_wp2_with (with_reducible refine wpList_store_var _ _ _ (by with_unfolding_all rfl) (by with_unfolding_all rfl) t2 ?_)
      refine bodyPost_ret (v := .tuple #[.agg #[.int .i64 0, .int .i64 0], .int .i64 50]) ?_ rfl (RcR.of 0 0 50 HR.out rfl (KeepF.ofBelow HB9.out) (HS9.out.wider (fun k hk => .inl hk) fun k hk => ?_))
      · rw [results_cell_tmp rfl]
        simp [asAddr, Result.andThen, t3]
      · rw [HSZ.out] at hk ⊢
        rcases hk with hk | hk
        · have := HSUB.out k hk; omega
        · omega
  · have HR : Hid (recF S v b = (vput S v b, (vat S v b.length).1, (vat S v b.length).2, 0)) := if_neg (by omega)
    have i1 : ((n : Int) == 0) = false := by rw [beq_eq_false_iff_ne]; omega
    have i2 : ¬ (S : Int) < (n : Int) := by omega
    have HP := Lib.hid (put_c (c := c) H0.out hv hS hm (hb.below hb0) (by omega) (by omega) (hBn (by omega)))
    have HB0 := Lib.hid hb0
    have HSUB := Lib.hid hsub
    clear hlen hsub hb0 hno
    unfold plC at *
    go_enter Try.func11, Try.ntmps11
    go_wp2_with fail
    refine HP.out.mono ?_
    rintro e w1 ⟨rfl, hk1, hs1⟩
    have hK1 := hk1.blk HK.out (fun e => by have := (HSUB.out _ e).2; omega)
    generalize hvv : vat S v b.length = xx at *
    obtain ⟨d, o⟩ := xx
    clear hvv
    simp only at HR
    have t2 := st_pl hK1 rfl (plC d o) rfl (by simp [plC, Value.oneCell'])
    have t3 := ld_pl (hK1.setRow (plC d o)) rfl
    have HKF := Lib.hid (((KeepF.ofBelow (Fp := Fp) HB0.out).trans hk1 (fun _ _ h => h)).setRow (Nat.le_refl _) (plC d o))
    have hsz := hk1.size
    rw [World.size_alloc] at hsz
    have HS1 := Lib.hid ((hs1.setRow (q := w.heap.size) (fun e => by
      rcases e with e | e
      · have := (HSUB.out _ e).2; omega
      · have := e.1; rw [World.size_alloc] at this; omega) (plC d o)))
    unfold plV plC at *
    clear hk1 hs1
    go_wp2_with (with_reducible refine wpList_store_var _ _ _ (by with_unfolding_all rfl) (by with_unfolding_all rfl) t2 ?_)
    refine bodyPost_ret (v := .tuple #[.agg #[.int .i64 d, .int .i64 o], .int .i64 0]) ?_ rfl (RcR.of d o 0 HR.out rfl HKF.out (HS1.out.wider (fun k hk => ?_) fun k hk => ?_))
    · rw [results_cell_tmp rfl]
      simp [asAddr, Result.andThen, t3]
    · rw [World.size_setRow]
      exact Fgrow.mono (by simp) (Nat.le_refl _) k hk
    · rw [World.size_setRow] at hk ⊢
      rcases hk with hk | hk
      · have := HSUB.out k hk; omega
      · omega
end Go.Proofs.Ytkijagodedmipaa
