/-
  SPAN: the writer's box; Next. No conditions.
-/
import Derived.Test.YtkijagodedmipaaSpa
import Derived.Deep.RegionWith
namespace Go.Proofs.Ytkijagodedmipaa
open Go.RowKit
set_option maxRecDepth 100000
set_option linter.unusedVariables false

def plC (d o : Int) : Array Value := #[.int .i64 d, .int .i64 o]
def plV (d o : Int) : Value := .agg (plC d o)
theorem info_pl : (Try.prog.info? 37).map (·.size) = some 2 := by kernel_rfl
theorem ld_pl {w : World} {g : Nat} {C : Array Value} (h : Blk w g 37 C) (hC : C.size = 2) : Sem.run Try.prog (loadVar 37 ⟨g, 0, none⟩) w = .ok (.agg C) w :=
  run_loadVar_row w g _ _ _ (0, 0) _ h Try.underlying37 rfl (by rw [info_pl, hC])
theorem st_pl {w : World} {g : Nat} {C : Array Value} (h : Blk w g 37 C) (hC : C.size = 2) (D : Array Value) (hD : D.size = 2) (h1 : D.all (·.oneCell') = true) :
    Sem.run Try.prog (storeVar 37 ⟨g, 0, none⟩ (.agg D)) w = .ok () (w.setRow g D) :=
  run_storeVar_row w g _ _ _ _ h (by rw [info_pl, hD]) (by rw [hC, hD]) h1
theorem below_setRowV {B : Nat} {a w : World} (h : Below B a w) {g : Nat} (hg : B ≤ g) (D : Array Value) : Below B a (w.setRow g D) :=
  ⟨h.os, h.tape, h.output, by simpa [World.setRow] using h.size, fun k hk => by
    have e : (w.setRow g D).heap[k]? = w.heap[k]? := by
      simp [World.setRow, Array.getElem?_modify]
      intro e
      omega
    exact e.trans (h.block k hk)⟩
theorem results_cell_oneV {P : Program} {fn : Func} {p : Tmp} {ty : TypeId} (h : fn.results = #[.cell p ty]) (tmps : Array Value) (w : World) :
    (results fn tmps).run P w = ((asAddr (tmps.getD p undef)).run P w).andThen fun a w₁ => (loadVar ty a).run P w₁ := by
  simp only [results, h]
  simp [Sem.run_bind, Result.andThen]
/-- where the next record stands -/
def NxS (S l L : Nat) (x : Int) (d o : Nat) : Prop :=
  (min (max x 1) S ≤ (S : Int) - L ∧ d = l ∧ o = L) ∨ (¬ min (max x 1) S ≤ (S : Int) - L ∧ d = l + 1 ∧ o = 0)
def NxR (w : World) (S l L : Nat) (x : Int) (e : Ending) (w' : World) : Prop :=
  ∃ d o : Nat, e = .returned (plV (d : Nat) (o : Nat)) ∧ NxS S l L x d o ∧ Below w.heap.size w w'
theorem NxR.of {w : World} {S l L : Nat} {x : Int} {e : Ending} {w' : World} (d o : Nat) (h1 : e = .returned (plV (d : Nat) (o : Nat))) (h2 : NxS S l L x d o) (h3 : Below w.heap.size w w') : NxR w S l L x e w' := ⟨d, o, h1, h2, h3⟩
set_option maxHeartbeats 2000000 in
theorem Next_c {w : World} {p g S l c L cL : Nat} {A : Option Addr} (hK : Blk w p 62 #[.int .i64 S, .slice (some ⟨g, 0, none⟩) (l + 1 : Nat) c]) (hT : w.cell? ⟨g, l, none⟩ = some (.slice A L cL)) (hg : g < w.heap.size) (hS : S ≤ 16777216) (hl : l ≤ 1048576) (hS1 : 1 ≤ S) (hL : L ≤ S) (x : Int) (hx : (Lit.int .i64 x).wf = true) :
    Calls Try.prog 17 #[.pointer (some ⟨p, 0, none⟩), .int .i64 x] w fun e w' => NxR w S l L x e w' := by
  have hw := wf_i64 hx
  have hp := hK.lt
  have hba := (Below.refl w.heap.size w).alloc (Nat.le_refl _) (.cells (plC 0 0) 37)
  have HK := Lib.hid (Blk.new w 37 (plC 0 0))
  have HB := Lib.hid hba
  have c0 : (w.alloc (.cells (plC 0 0) 37)).cell? ⟨p, 0, none⟩ = some (.int .i64 S) := (hba.cell (p := ⟨p, 0, none⟩) hp).trans (hK.cell 0)
  have c1 : (w.alloc (.cells (plC 0 0) 37)).cell? ⟨p, 1, none⟩ = some (.slice (some ⟨g, 0, none⟩) (l + 1 : Nat) c) := (hba.cell (p := ⟨p, 1, none⟩) hp).trans (hK.cell 1)
  have c2 : (w.alloc (.cells (plC 0 0) 37)).cell? ⟨g, l, none⟩ = some (.slice A L cL) := (hba.cell (p := ⟨g, l, none⟩) hg).trans hT
  clear hK hT hba hx
  rcases (show x < 1 ∨ x = 1 ∨ (1 < x ∧ x ≤ S) ∨ (S : Int) < x by omega) with hc | hc | hc | hc
  · -- x < 1
    have m1 : ¬ (1 : Int) < x := by omega
    have m3 : x < 1 := hc
    have m4 : ¬ (S : Int) < 1 := by omega
    by_cases hr : (1 : Int) ≤ (S : Int) - L
    · have r1 : (1 : Int) + L ≤ S := by omega
      have r2 : decide ((1 : Int) ≤ (S : Int) - L) = true := decide_eq_true hr
      have hN : Hid (NxS S l L x l L) := .inl ⟨by omega, rfl, rfl⟩
      have t2 := st_pl HK.out.drew rfl (plC l L) rfl (by simp [plC, Value.oneCell'])
      have t3 := ld_pl (HK.out.drew.setRow (plC l L)) rfl
      have HB9 := Lib.hid (below_setRowV (below_drewN HB.out 1) (Nat.le_refl _) (plC l L))
      unfold plC at *
      have ix1 : (0 : Int) ≤ l := by omega
      have ix2 : (l : Int) < (l : Int) + 1 := by omega
      have s1 : IntKind.i64.wrap ((S : Int) - (L : Int)) = (S : Int) - (L : Int) := IntWalk.i64_in _ (by omega)
      go_enter Try.func17, Try.ntmps17
      go_wp2_with fail
      generalize w.alloc (.cells #[.int .i64 0, .int .i64 0] 37) = W at *
      go_region_held3 (fun W' => W'.cell? ⟨p, 0, none⟩ = some (.int .i64 S) ∧ W'.cell? ⟨p, 1, none⟩ = some (.slice (some ⟨g, 0, none⟩) (l + 1) c) ∧ W'.cell? ⟨g, l, none⟩ = some (.slice A L cL)) (go_keep) (fail)
      go_wp2_with (with_reducible refine wpList_store_var _ _ _ (by with_unfolding_all rfl) (by with_unfolding_all rfl) t2 ?_)
      refine bodyPost_ret (v := .agg #[.int .i64 l, .int .i64 L]) ?_ rfl (NxR.of l L rfl hN.out HB9.out)
      rw [results_cell_oneV rfl]
      simp [asAddr, Result.andThen, t3]
    · have r1 : ¬ (1 : Int) + L ≤ S := by omega
      have r2 : decide ((1 : Int) ≤ (S : Int) - L) = false := decide_eq_false hr
      have hN : Hid (NxS S l L x (l + 1) 0) := .inr ⟨by omega, rfl, rfl⟩
      have t2 := st_pl HK.out.drew rfl (plC (l + 1) 0) rfl (by simp [plC, Value.oneCell'])
      have t3 := ld_pl (HK.out.drew.setRow (plC (l + 1) 0)) rfl
      have HB9 := Lib.hid (below_setRowV (below_drewN HB.out 1) (Nat.le_refl _) (plC (l + 1) 0))
      unfold plC at *
      have ix1 : (0 : Int) ≤ l := by omega
      have ix2 : (l : Int) < (l : Int) + 1 := by omega
      have s1 : IntKind.i64.wrap ((S : Int) - (L : Int)) = (S : Int) - (L : Int) := IntWalk.i64_in _ (by omega)
      go_enter Try.func17, Try.ntmps17
      go_wp2_with fail
      generalize w.alloc (.cells #[.int .i64 0, .int .i64 0] 37) = W at *
      go_region_held3 (fun W' => W'.cell? ⟨p, 0, none⟩ = some (.int .i64 S) ∧ W'.cell? ⟨p, 1, none⟩ = some (.slice (some ⟨g, 0, none⟩) (l + 1) c) ∧ W'.cell? ⟨g, l, none⟩ = some (.slice A L cL)) (go_keep) (fail)
      go_wp2_with (with_reducible refine wpList_store_var _ _ _ (by with_unfolding_all rfl) (by with_unfolding_all rfl) t2 ?_)
      refine bodyPost_ret (v := .agg #[.int .i64 (l + 1), .int .i64 0]) ?_ rfl (NxR.of (l + 1) 0 rfl hN.out HB9.out)
      rw [results_cell_oneV rfl]
      simp [asAddr, Result.andThen, t3]
  · -- x = 1
    subst hc
    have m4 : ¬ (S : Int) < 1 := by omega
    by_cases hr : (1 : Int) ≤ (S : Int) - L
    · have r1 : (1 : Int) + L ≤ S := by omega
      have r2 : decide ((1 : Int) ≤ (S : Int) - L) = true := decide_eq_true hr
      have hN : Hid (NxS S l L 1 l L) := .inl ⟨by omega, rfl, rfl⟩
      have t2 := st_pl HK.out.drew rfl (plC l L) rfl (by simp [plC, Value.oneCell'])
      have t3 := ld_pl (HK.out.drew.setRow (plC l L)) rfl
      have HB9 := Lib.hid (below_setRowV (below_drewN HB.out 1) (Nat.le_refl _) (plC l L))
      unfold plC at *
      have ix1 : (0 : Int) ≤ l := by omega
      have ix2 : (l : Int) < (l : Int) + 1 := by omega
      have s1 : IntKind.i64.wrap ((S : Int) - (L : Int)) = (S : Int) - (L : Int) := IntWalk.i64_in _ (by omega)
      go_enter Try.func17, Try.ntmps17
      go_wp2_with fail
      generalize w.alloc (.cells #[.int .i64 0, .int .i64 0] 37) = W at *
      go_region_held3 (fun W' => W'.cell? ⟨p, 0, none⟩ = some (.int .i64 S) ∧ W'.cell? ⟨p, 1, none⟩ = some (.slice (some ⟨g, 0, none⟩) (l + 1) c) ∧ W'.cell? ⟨g, l, none⟩ = some (.slice A L cL)) (go_keep) (fail)
      go_wp2_with (with_reducible refine wpList_store_var _ _ _ (by with_unfolding_all rfl) (by with_unfolding_all rfl) t2 ?_)
      refine bodyPost_ret (v := .agg #[.int .i64 l, .int .i64 L]) ?_ rfl (NxR.of l L rfl hN.out HB9.out)
      rw [results_cell_oneV rfl]
      simp [asAddr, Result.andThen, t3]
    · have r1 : ¬ (1 : Int) + L ≤ S := by omega
      have r2 : decide ((1 : Int) ≤ (S : Int) - L) = false := decide_eq_false hr
      have hN : Hid (NxS S l L 1 (l + 1) 0) := .inr ⟨by omega, rfl, rfl⟩
      have t2 := st_pl HK.out.drew rfl (plC (l + 1) 0) rfl (by simp [plC, Value.oneCell'])
      have t3 := ld_pl (HK.out.drew.setRow (plC (l + 1) 0)) rfl
      have HB9 := Lib.hid (below_setRowV (below_drewN HB.out 1) (Nat.le_refl _) (plC (l + 1) 0))
      unfold plC at *
      have ix1 : (0 : Int) ≤ l := by omega
      have ix2 : (l : Int) < (l : Int) + 1 := by omega
      have s1 : IntKind.i64.wrap ((S : Int) - (L : Int)) = (S : Int) - (L : Int) := IntWalk.i64_in _ (by omega)
      go_enter Try.func17, Try.ntmps17
      go_wp2_with fail
      generalize w.alloc (.cells #[.int .i64 0, .int .i64 0] 37) = W at *
      go_region_held3 (fun W' => W'.cell? ⟨p, 0, none⟩ = some (.int .i64 S) ∧ W'.cell? ⟨p, 1, none⟩ = some (.slice (some ⟨g, 0, none⟩) (l + 1) c) ∧ W'.cell? ⟨g, l, none⟩ = some (.slice A L cL)) (go_keep) (fail)
      go_wp2_with (with_reducible refine wpList_store_var _ _ _ (by with_unfolding_all rfl) (by with_unfolding_all rfl) t2 ?_)
      refine bodyPost_ret (v := .agg #[.int .i64 (l + 1), .int .i64 0]) ?_ rfl (NxR.of (l + 1) 0 rfl hN.out HB9.out)
      rw [results_cell_oneV rfl]
      simp [asAddr, Result.andThen, t3]
  · -- 1 < x ∧ x ≤ S
    have m1 : (1 : Int) < x := hc.1
    have m2 : ¬ (S : Int) < x := by omega
    by_cases hr : (x : Int) ≤ (S : Int) - L
    · have r1 : (x : Int) + L ≤ S := by omega
      have r2 : decide ((x : Int) ≤ (S : Int) - L) = true := decide_eq_true hr
      have hN : Hid (NxS S l L x l L) := .inl ⟨by omega, rfl, rfl⟩
      have t2 := st_pl HK.out.drew rfl (plC l L) rfl (by simp [plC, Value.oneCell'])
      have t3 := ld_pl (HK.out.drew.setRow (plC l L)) rfl
      have HB9 := Lib.hid (below_setRowV (below_drewN HB.out 1) (Nat.le_refl _) (plC l L))
      unfold plC at *
      have ix1 : (0 : Int) ≤ l := by omega
      have ix2 : (l : Int) < (l : Int) + 1 := by omega
      have s1 : IntKind.i64.wrap ((S : Int) - (L : Int)) = (S : Int) - (L : Int) := IntWalk.i64_in _ (by omega)
      go_enter Try.func17, Try.ntmps17
      go_wp2_with fail
      generalize w.alloc (.cells #[.int .i64 0, .int .i64 0] 37) = W at *
      go_region_held3 (fun W' => W'.cell? ⟨p, 0, none⟩ = some (.int .i64 S) ∧ W'.cell? ⟨p, 1, none⟩ = some (.slice (some ⟨g, 0, none⟩) (l + 1) c) ∧ W'.cell? ⟨g, l, none⟩ = some (.slice A L cL)) (go_keep) (fail)
      go_wp2_with (with_reducible refine wpList_store_var _ _ _ (by with_unfolding_all rfl) (by with_unfolding_all rfl) t2 ?_)
      refine bodyPost_ret (v := .agg #[.int .i64 l, .int .i64 L]) ?_ rfl (NxR.of l L rfl hN.out HB9.out)
      rw [results_cell_oneV rfl]
      simp [asAddr, Result.andThen, t3]
    · have r1 : ¬ (x : Int) + L ≤ S := by omega
      have r2 : decide ((x : Int) ≤ (S : Int) - L) = false := decide_eq_false hr
      have hN : Hid (NxS S l L x (l + 1) 0) := .inr ⟨by omega, rfl, rfl⟩
      have t2 := st_pl HK.out.drew rfl (plC (l + 1) 0) rfl (by simp [plC, Value.oneCell'])
      have t3 := ld_pl (HK.out.drew.setRow (plC (l + 1) 0)) rfl
      have HB9 := Lib.hid (below_setRowV (below_drewN HB.out 1) (Nat.le_refl _) (plC (l + 1) 0))
      unfold plC at *
      have ix1 : (0 : Int) ≤ l := by omega
      have ix2 : (l : Int) < (l : Int) + 1 := by omega
      have s1 : IntKind.i64.wrap ((S : Int) - (L : Int)) = (S : Int) - (L : Int) := IntWalk.i64_in _ (by omega)
      go_enter Try.func17, Try.ntmps17
      go_wp2_with fail
      generalize w.alloc (.cells #[.int .i64 0, .int .i64 0] 37) = W at *
      go_region_held3 (fun W' => W'.cell? ⟨p, 0, none⟩ = some (.int .i64 S) ∧ W'.cell? ⟨p, 1, none⟩ = some (.slice (some ⟨g, 0, none⟩) (l + 1) c) ∧ W'.cell? ⟨g, l, none⟩ = some (.slice A L cL)) (go_keep) (fail)
      go_wp2_with (with_reducible refine wpList_store_var _ _ _ (by with_unfolding_all rfl) (by with_unfolding_all rfl) t2 ?_)
      refine bodyPost_ret (v := .agg #[.int .i64 (l + 1), .int .i64 0]) ?_ rfl (NxR.of (l + 1) 0 rfl hN.out HB9.out)
      rw [results_cell_oneV rfl]
      simp [asAddr, Result.andThen, t3]
  · -- (S : Int) < x
    have m1 : (1 : Int) < x := by omega
    have m2 : (S : Int) < x := hc
    by_cases hr : (S : Int) ≤ (S : Int) - L
    · have r1 : (S : Int) + L ≤ S := by omega
      have r2 : decide ((S : Int) ≤ (S : Int) - L) = true := decide_eq_true hr
      have hN : Hid (NxS S l L x l L) := .inl ⟨by omega, rfl, rfl⟩
      have t2 := st_pl HK.out.drew rfl (plC l L) rfl (by simp [plC, Value.oneCell'])
      have t3 := ld_pl (HK.out.drew.setRow (plC l L)) rfl
      have HB9 := Lib.hid (below_setRowV (below_drewN HB.out 1) (Nat.le_refl _) (plC l L))
      unfold plC at *
      have ix1 : (0 : Int) ≤ l := by omega
      have ix2 : (l : Int) < (l : Int) + 1 := by omega
      have s1 : IntKind.i64.wrap ((S : Int) - (L : Int)) = (S : Int) - (L : Int) := IntWalk.i64_in _ (by omega)
      go_enter Try.func17, Try.ntmps17
      go_wp2_with fail
      generalize w.alloc (.cells #[.int .i64 0, .int .i64 0] 37) = W at *
      go_region_held3 (fun W' => W'.cell? ⟨p, 0, none⟩ = some (.int .i64 S) ∧ W'.cell? ⟨p, 1, none⟩ = some (.slice (some ⟨g, 0, none⟩) (l + 1) c) ∧ W'.cell? ⟨g, l, none⟩ = some (.slice A L cL)) (go_keep) (fail)
      go_wp2_with (with_reducible refine wpList_store_var _ _ _ (by with_unfolding_all rfl) (by with_unfolding_all rfl) t2 ?_)
      refine bodyPost_ret (v := .agg #[.int .i64 l, .int .i64 L]) ?_ rfl (NxR.of l L rfl hN.out HB9.out)
      rw [results_cell_oneV rfl]
      simp [asAddr, Result.andThen, t3]
    · have r1 : ¬ (S : Int) + L ≤ S := by omega
      have r2 : decide ((S : Int) ≤ (S : Int) - L) = false := decide_eq_false hr
      have hN : Hid (NxS S l L x (l + 1) 0) := .inr ⟨by omega, rfl, rfl⟩
      have t2 := st_pl HK.out.drew rfl (plC (l + 1) 0) rfl (by simp [plC, Value.oneCell'])
      have t3 := ld_pl (HK.out.drew.setRow (plC (l + 1) 0)) rfl
      have HB9 := Lib.hid (below_setRowV (below_drewN HB.out 1) (Nat.le_refl _) (plC (l + 1) 0))
      unfold plC at *
      have ix1 : (0 : Int) ≤ l := by omega
      have ix2 : (l : Int) < (l : Int) + 1 := by omega
      have s1 : IntKind.i64.wrap ((S : Int) - (L : Int)) = (S : Int) - (L : Int) := IntWalk.i64_in _ (by omega)
      go_enter Try.func17, Try.ntmps17
      go_wp2_with fail
      generalize w.alloc (.cells #[.int .i64 0, .int .i64 0] 37) = W at *
      go_region_held3 (fun W' => W'.cell? ⟨p, 0, none⟩ = some (.int .i64 S) ∧ W'.cell? ⟨p, 1, none⟩ = some (.slice (some ⟨g, 0, none⟩) (l + 1) c) ∧ W'.cell? ⟨g, l, none⟩ = some (.slice A L cL)) (go_keep) (fail)
      go_wp2_with (with_reducible refine wpList_store_var _ _ _ (by with_unfolding_all rfl) (by with_unfolding_all rfl) t2 ?_)
      refine bodyPost_ret (v := .agg #[.int .i64 (l + 1), .int .i64 0]) ?_ rfl (NxR.of (l + 1) 0 rfl hN.out HB9.out)
      rw [results_cell_oneV rfl]
      simp [asAddr, Result.andThen, t3]
end Go.Proofs.Ytkijagodedmipaa
