/-
  VOLUMES: Place, Index. No conditions (but for how many volumes there are, and bytes).
-/
import Derived.Test.YtfjpbbejhegcjaaVla
namespace Go.Proofs.Ytfjpbbejhegcjaa
open Go.RowKit
set_option maxRecDepth 100000
set_option linter.unusedVariables false

/-- the place at which so many stand ahead -/
def PlS (RL : Nat → Nat) (n : Nat) (a : Int) (d o : Nat) (ok : Bool) : Prop :=
  (ok = false ∧ d = 0 ∧ o = 0 ∧ (a < 0 ∨ (lenTo RL n : Int) < a)) ∨ (ok = true ∧ d = n ∧ o = 0 ∧ a = (lenTo RL n : Nat)) ∨ (ok = true ∧ d < n ∧ o < RL d ∧ a = (lenTo RL d + o : Nat))
theorem lenTo_mono {RL : Nat → Nat} {i j : Nat} (h : i ≤ j) : lenTo RL i ≤ lenTo RL j := by
  induction j with
  | zero =>
    obtain rfl : i = 0 := by omega
    exact Nat.le_refl _
  | succ k ih =>
    rcases (show i ≤ k ∨ i = k + 1 by omega) with e | e
    · exact Nat.le_trans (ih e) (Nat.le_add_right _ _)
    · subst e; exact Nat.le_refl _
theorem lenTo_in {RL : Nat → Nat} {n d o : Nat} (hd : d < n) (ho : o < RL d) : lenTo RL d + o < lenTo RL n := by
  have h1 : lenTo RL (d + 1) ≤ lenTo RL n := lenTo_mono hd
  have h2 : lenTo RL (d + 1) = lenTo RL d + RL d := rfl
  omega
theorem PlS.unique {RL : Nat → Nat} {n : Nat} {a : Int} {d o d' o' : Nat} {k k' : Bool} (h : PlS RL n a d o k) (h' : PlS RL n a d' o' k') : d = d' ∧ o = o' ∧ k = k' := by
  rcases h with ⟨e1, e2, e3, e4⟩ | ⟨e1, e2, e3, e4⟩ | ⟨e1, e2, e3, e4⟩ <;> rcases h' with ⟨f1, f2, f3, f4⟩ | ⟨f1, f2, f3, f4⟩ | ⟨f1, f2, f3, f4⟩
  · exact ⟨by omega, by omega, by rw [e1, f1]⟩
  · exfalso; omega
  · exfalso; have := lenTo_in f2 f3; omega
  · exfalso; omega
  · exact ⟨by omega, by omega, by rw [e1, f1]⟩
  · exfalso; have := lenTo_in f2 f3; omega
  · exfalso; have := lenTo_in e2 e3; omega
  · exfalso; have := lenTo_in e2 e3; omega
  · have hd : d = d' := by
      rcases (show d < d' ∨ d = d' ∨ d' < d by omega) with g | g | g
      · exfalso
        have h1 : lenTo RL (d + 1) ≤ lenTo RL d' := lenTo_mono g
        have h2 : lenTo RL (d + 1) = lenTo RL d + RL d := rfl
        omega
      · exact g
      · exfalso
        have h1 : lenTo RL (d' + 1) ≤ lenTo RL d := lenTo_mono g
        have h2 : lenTo RL (d' + 1) = lenTo RL d' + RL d' := rfl
        omega
    subst hd
    exact ⟨rfl, by omega, by rw [e1, f1]⟩
/-- what Place answers -/
def PlR (w : World) (RL : Nat → Nat) (n : Nat) (a : Int) (e : Ending) (w' : World) : Prop := ∃ d o ok, e = .returned (.tuple #[plV (d : Nat) (o : Nat), .bool ok]) ∧ PlS RL n a d o ok ∧ Below w.heap.size w w'
theorem PlR.of {w : World} {RL : Nat → Nat} {n : Nat} {a : Int} {e : Ending} {w' : World} (d o : Nat) (ok : Bool) (h1 : e = .returned (.tuple #[plV (d : Nat) (o : Nat), .bool ok])) (h2 : PlS RL n a d o ok) (h3 : Below w.heap.size w w') : PlR w RL n a e w' := ⟨d, o, ok, h1, h2, h3⟩
set_option maxHeartbeats 1000000 in
theorem Place_c {w : World} {A : Option Addr} {n cap : Nat} {RA : Nat → Option Addr} {RL RC : Nat → Nat} {R : Nat → List F} (h : MIn w A n cap RA RL RC R) (hn : n ≤ 1048576) (hl : ∀ r, r < n → RL r ≤ 1048576) (a : Int) (ha : (Lit.int .i64 a).wf = true) :
    Calls Try.prog 13 #[.slice A n cap, .int .i64 a] w fun e w' => PlR w RL n a e w' := by
  have HL := Lib.hid hl
  have H := Lib.hid h
  have hw := wf_i64 ha
  have hba := (Below.refl w.heap.size w).alloc (Nat.le_refl _) (.cells (plC 0 0) 40)
  have HK := Lib.hid (Blk.new w 40 (plC 0 0))
  have HB := Lib.hid hba
  clear hl h ha hba
  by_cases h0 : a < 0
  · have HP : Hid (PlS RL n a 0 0 false) := .inl ⟨rfl, rfl, rfl, .inl h0⟩
    have t2 := st_pl HK.out rfl (plC 0 0) rfl (by simp [plC, Value.oneCell'])
    have t3 := ld_pl (HK.out.setRow (plC 0 0)) rfl
    have HB9 := Lib.hid (below_setRowV HB.out (Nat.le_refl _) (plC 0 0))
    unfold plC at *
    go_enter Try.func13, Try.ntmps13
    go_wp2_with (with_reducible refine wpList_store_var _ _ _ (by with_unfolding_all rfl) (by with_unfolding_all rfl) t2 ?_)
    refine bodyPost_ret (v := .tuple #[.agg #[.int .i64 0, .int .i64 0], .bool false]) ?_ rfl (PlR.of 0 0 false rfl HP.out HB9.out)
    rw [results_cell_tmp rfl]
    simp [asAddr, Result.andThen, t3]
  · obtain ⟨a0, rfl⟩ : ∃ a0 : Nat, a = (a0 : Int) := ⟨a.toNat, by omega⟩
    have i0 : ¬ ((a0 : Int) < 0) := by omega
    have ha0 : a0 ≤ 9223372036854775807 := by omega
    clear h0 hw
    unfold plC at *
    go_enter Try.func13, Try.ntmps13
    go_wp2
    generalize w.alloc (.cells #[.int .i64 0, .int .i64 0] 40) = w1 at *
    go_loop [1, 13] (fun av iv => ∃ k b : Nat, k ≤ n ∧ iv = .int .i64 k ∧ av = .int .i64 b ∧ Hid (lenTo RL k + b = a0)) (fun _ iv => n - (intOf iv).toNat)
    case atStart => exact ⟨0, a0, by omega, rfl, rfl, by show 0 + a0 = a0; omega⟩
    case round =>
      obtain ⟨k, b, hk, rfl, rfl, hb⟩ := hrel
      have hb9 : b ≤ 9223372036854775807 := by have := hb.out; omega
      by_cases hlt : k < n
      · have hkn : (k : Int) < n := by omega
        obtain ⟨b1, o1, rfl, _, q1⟩ := (H.out.below HB.out).at_ hlt
        have hlk := HL.out k hlt
        by_cases hin : b < RL k
        · have i1 : (b : Int) < (RL k : Int) := by omega
          have HP : Hid (PlS RL n (a0 : Int) k b true) := .inr (.inr ⟨rfl, hlt, hin, by rw [hb.out]⟩)
          have t2 := st_pl HK.out rfl (plC k b) rfl (by simp [plC, Value.oneCell'])
          have t3 := ld_pl (HK.out.setRow (plC k b)) rfl
          have HB9 := Lib.hid (below_setRowV HB.out (Nat.le_refl _) (plC k b))
          unfold plC at *
          go_wp2_with (with_reducible refine wpList_store_var _ _ _ (by with_unfolding_all rfl) (by with_unfolding_all rfl) t2 ?_)
          refine bodyPost_ret (v := .tuple #[.agg #[.int .i64 k, .int .i64 b], .bool true]) ?_ rfl (PlR.of k b true rfl HP.out HB9.out)
          rw [results_cell_tmp rfl]
          simp [asAddr, Result.andThen, t3]
        · have i1 : ¬ (b : Int) < (RL k : Int) := by omega
          have hnext : Hid (lenTo RL (k + 1) + (b - RL k) = a0) := by
            have := hb.out
            have e : lenTo RL (k + 1) = lenTo RL k + RL k := rfl
            unfold Hid
            omega
          have i2 : (b : Int) - (RL k : Int) = ((b - RL k : Nat) : Int) := by omega
          generalize b - RL k = b2 at *
          go_wp2
          go_round
          case rel => exact ⟨k + 1, b2, by omega, by go_num, by go_num, hnext⟩
          case measure => simp [intOf]; omega
      · obtain rfl : k = n := by omega
        by_cases hz : 0 < b
        · have i1 : (0 : Int) < (b : Int) := by omega
          have HP : Hid (PlS RL k (a0 : Int) 0 0 false) := .inl ⟨rfl, rfl, rfl, .inr (by have := hb.out; omega)⟩
          have t2 := st_pl HK.out rfl (plC 0 0) rfl (by simp [plC, Value.oneCell'])
          have t3 := ld_pl (HK.out.setRow (plC 0 0)) rfl
          have HB9 := Lib.hid (below_setRowV HB.out (Nat.le_refl _) (plC 0 0))
          unfold plC at *
          go_wp2_with (with_reducible refine wpList_store_var _ _ _ (by with_unfolding_all rfl) (by with_unfolding_all rfl) t2 ?_)
          refine bodyPost_ret (v := .tuple #[.agg #[.int .i64 0, .int .i64 0], .bool false]) ?_ rfl (PlR.of 0 0 false rfl HP.out HB9.out)
          rw [results_cell_tmp rfl]
          simp [asAddr, Result.andThen, t3]
        · have i1 : ¬ (0 : Int) < (b : Int) := by omega
          have HP : Hid (PlS RL k (a0 : Int) k 0 true) := .inr (.inl ⟨rfl, rfl, rfl, by have := hb.out; omega⟩)
          go_wp2_with fail
          refine (End_c A k cap _).mono ?_
          rintro e w2 ⟨rfl, hb2⟩
          unfold plV plC
          have HK2 := Lib.hid (HK.out.below HK.out.lt hb2)
          have HB2 := Lib.hid (HB.out.trans (hb2.mono HB.out.size))
          have t2 := st_pl HK2.out rfl (plC k 0) rfl (by simp [plC, Value.oneCell'])
          have t3 := ld_pl (HK2.out.setRow (plC k 0)) rfl
          have HB9 := Lib.hid (below_setRowV HB2.out (Nat.le_refl _) (plC k 0))
          unfold plC at *
          go_wp2_with (with_reducible refine wpList_store_var _ _ _ (by with_unfolding_all rfl) (by with_unfolding_all rfl) t2 ?_)
          refine bodyPost_ret (v := .tuple #[.agg #[.int .i64 k, .int .i64 0], .bool true]) ?_ rfl (PlR.of k 0 true rfl HP.out HB9.out)
          rw [results_cell_tmp rfl]
          simp [asAddr, Result.andThen, t3]
end Go.Proofs.Ytfjpbbejhegcjaa
