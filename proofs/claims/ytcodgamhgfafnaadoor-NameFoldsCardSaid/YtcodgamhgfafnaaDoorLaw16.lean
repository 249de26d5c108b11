/-
  LAW 16: the law's own example, as a walk; what comes in. No conditions.
-/
import Derived.Test.YtcodgamhgfafnaaDoorNamK
namespace Go.Proofs.YtcodgamhgfafnaaDoor
open Go.RowKit Go.Shelf
set_option maxRecDepth 1000000
set_option linter.unusedVariables false

theorem ck1 : nokE [97, 47, 98] = 0 := by decide +kernel
theorem ck2 : nokE [97, 47, 47, 98] = 40 := by decide +kernel
theorem ck3 : nokE [47, 97] = 40 := by decide +kernel
theorem ck4 : nokE [97, 47, 46, 46] = 40 := by decide +kernel
theorem ck5 : nokE [97, 92, 98] = 40 := by decide +kernel
theorem pt1 : ptsF [97, 47, 98] = [[97], [98]] := by decide +kernel
theorem ru1 : cnt [97, 195, 169] = 2 := by decide +kernel
theorem fo1 : fol [65, 195, 137, 255] = [97, 195, 137, 255] := by decide +kernel
theorem un1 : undB [97, 47, 98] [97] = true := by decide +kernel
theorem un2 : undB [97, 98] [97] = false := by decide +kernel
theorem tw1 : TwS [[97], [98], [97]] 2 := ⟨.inr ⟨2, by decide, rfl, by decide, fun j hj => by
  rcases (by omega : j = 0 ∨ j = 1) with rfl | rfl <;> decide⟩⟩
theorem belS {w w' : World} {o : Obj} (b : Below (w.alloc o).heap.size (w.alloc o) w') : Below w.heap.size w w' := ((Below.refl w.heap.size w).alloc (Nat.le_refl _) o).trans (b.mono (by simp))
theorem SRow.lit3 (w : World) (a b c : List UInt8) : SRow (w.alloc (.cells #[.string (S a), .string (S b), .string (S c)] 9)) (some ⟨w.heap.size, 0, none⟩) 3 [a, b, c] :=
  ⟨rfl, fun _ => ⟨w.heap.size, 0, rfl, by simp, fun i hi => by
    have hh := World.alloc_heap_new w (.cells #[.string (S a), .string (S b), .string (S c)] 9)
    unfold World.cell?
    simp only [hh]
    rcases (by omega : i = 0 ∨ i = 1 ∨ i = 2) with rfl | rfl | rfl <;> rfl⟩⟩
set_option maxHeartbeats 4000000 in
theorem alive16_c (w : World) : Calls Tryd.prog 8 #[] w fun e w' => e = .returned (.bool true) ∧ Below w.heap.size w w' := by
  have h1 : Hid (∀ W, Calls Tryd.prog 11 #[.string ⟨#[97, 47, 98]⟩] W fun e w' => e = .returned (.int .i64 0) ∧ Below W.heap.size W w') := fun W => by have := Check_c [97, 47, 98] (by decide) W; rw [ck1] at this; exact this
  have h2 : Hid (∀ W, Calls Tryd.prog 11 #[.string ⟨#[97, 47, 47, 98]⟩] W fun e w' => e = .returned (.int .i64 40) ∧ Below W.heap.size W w') := fun W => by have := Check_c [97, 47, 47, 98] (by decide) W; rw [ck2] at this; exact this
  have h3 : Hid (∀ W, Calls Tryd.prog 11 #[.string ⟨#[47, 97]⟩] W fun e w' => e = .returned (.int .i64 40) ∧ Below W.heap.size W w') := fun W => by have := Check_c [47, 97] (by decide) W; rw [ck3] at this; exact this
  have h4 : Hid (∀ W, Calls Tryd.prog 11 #[.string ⟨#[97, 47, 46, 46]⟩] W fun e w' => e = .returned (.int .i64 40) ∧ Below W.heap.size W w') := fun W => by have := Check_c [97, 47, 46, 46] (by decide) W; rw [ck4] at this; exact this
  have h5 : Hid (∀ W, Calls Tryd.prog 11 #[.string ⟨#[97, 92, 98]⟩] W fun e w' => e = .returned (.int .i64 40) ∧ Below W.heap.size W w') := fun W => by have := Check_c [97, 92, 98] (by decide) W; rw [ck5] at this; exact this
  have h6 : Hid (∀ W, Calls Tryd.prog 13 #[.string ⟨#[97, 47, 98]⟩] W fun e w' => ∃ A c, e = .returned (.slice A 2 c) ∧ Below W.heap.size W w') := fun W => (Parts_c [97, 47, 98] (by decide) W).mono (by
    rintro e w' ⟨A, n, c, rfl, h, hb⟩
    rw [pt1] at h
    have hn : 2 = n := by have := h.1; simpa [strs] using this
    subst hn
    exact ⟨A, c, rfl, hb⟩)
  have h7 : Hid (∀ W, Calls Tryd.prog 14 #[.string ⟨#[97, 195, 169]⟩] W fun e w' => e = .returned (.int .i64 2) ∧ Below W.heap.size W w') := fun W => by have := Runes_c [97, 195, 169] (by decide) W; rw [ru1] at this; exact this
  have h8 : Hid (∀ (W : World) (c : Nat), Calls Tryd.prog 19 #[.slice (some ⟨W.heap.size, 0, none⟩) 3 c] (W.alloc (.cells #[.string ⟨#[97]⟩, .string ⟨#[98]⟩, .string ⟨#[97]⟩] 9)) fun e w' => e = .returned (.int .i64 2) ∧ Below W.heap.size W w') := fun W c => (Twice_c _ 3 c [[97], [98], [97]] _ (SRow.lit3 W [97] [98] [97]) (by omega) (fun i hi => by
      rcases (by omega : i = 0 ∨ i = 1 ∨ i = 2) with rfl | rfl | rfl <;> decide)).mono (by
    rintro e w' ⟨z, rfl, hz, hb⟩
    rw [hz.unique tw1]
    exact ⟨rfl, belS hb⟩)
  have h9 : Hid (∀ W, Calls Tryd.prog 16 #[.string ⟨#[65, 195, 137, 255]⟩] W fun e w' => e = .returned (.string ⟨#[97, 195, 137, 255]⟩) ∧ Below W.heap.size W w') := fun W => by have := Fold_c [65, 195, 137, 255] (by decide) W; rw [fo1] at this; exact this
  have h10 : Hid (∀ W, Calls Tryd.prog 18 #[.string ⟨#[97, 47, 98]⟩, .string ⟨#[97]⟩] W fun e w' => e = .returned (.bool true) ∧ Below W.heap.size W w') := fun W => by have := Under_c [97, 47, 98] [97] (by decide) (by decide) W; rw [un1] at this; exact this
  have h11 : Hid (∀ W, Calls Tryd.prog 18 #[.string ⟨#[97, 98]⟩, .string ⟨#[97]⟩] W fun e w' => e = .returned (.bool false) ∧ Below W.heap.size W w') := fun W => by have := Under_c [97, 98] [97] (by decide) (by decide) W; rw [un2] at this; exact this
  go_enter Tryd.func8, Tryd.ntmps8
  go_wp2_with fail
  refine (h1.out _).mono ?_
  rintro e w1 ⟨rfl, hb⟩
  have B1 := Lib.hid hb
  clear hb
  go_wp2_with fail
  refine (h2.out _).mono ?_
  rintro e w2 ⟨rfl, hb⟩
  have B2 := Lib.hid (B1.out.trans (hb.mono B1.out.size))
  clear hb
  go_wp2_with fail
  refine (h3.out _).mono ?_
  rintro e w3 ⟨rfl, hb⟩
  have B3 := Lib.hid (B2.out.trans (hb.mono B2.out.size))
  clear hb
  go_wp2_with fail
  refine (h4.out _).mono ?_
  rintro e w4 ⟨rfl, hb⟩
  have B4 := Lib.hid (B3.out.trans (hb.mono B3.out.size))
  clear hb
  go_wp2_with fail
  refine (h5.out _).mono ?_
  rintro e w5 ⟨rfl, hb⟩
  have B5 := Lib.hid (B4.out.trans (hb.mono B4.out.size))
  clear hb
  go_wp2_with fail
  refine (h6.out _).mono ?_
  rintro e w6 ⟨A6, c6, rfl, hb⟩
  have B6 := Lib.hid (B5.out.trans (hb.mono B5.out.size))
  clear hb
  go_wp2_with fail
  refine (h7.out _).mono ?_
  rintro e w7 ⟨rfl, hb⟩
  have B7 := Lib.hid (B6.out.trans (hb.mono B6.out.size))
  clear hb
  go_wp2_with fail
  refine (h8.out w7 _).mono ?_
  rintro e w8 ⟨rfl, hb⟩
  have B8 := Lib.hid (B7.out.trans (hb.mono B7.out.size))
  clear hb
  go_wp2_with fail
  refine (h9.out _).mono ?_
  rintro e w9 ⟨rfl, hb⟩
  have B9 := Lib.hid (B8.out.trans (hb.mono B8.out.size))
  clear hb
  go_wp2_with fail
  refine (h10.out _).mono ?_
  rintro e w10 ⟨rfl, hb⟩
  have B10 := Lib.hid (B9.out.trans (hb.mono B9.out.size))
  clear hb
  go_wp2_with fail
  refine (h11.out _).mono ?_
  rintro e w11 ⟨rfl, hb⟩
  have B11 := Lib.hid (B10.out.trans (hb.mono B10.out.size))
  clear hb
  go_wp2
  go_ret
  exact ⟨rfl, B11.out⟩
end Go.Proofs.YtcodgamhgfafnaaDoor
