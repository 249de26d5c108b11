/-
  STAMPS: the document's Pack, Unpack, numbers, Compare. No conditions.
-/
import Derived.Test.YtacllgglpjdobaaDoorSts
namespace Go.Proofs.YtacllgglpjdobaaDoor
open Go.RowKit
set_option maxRecDepth 100000
set_option linter.unusedVariables false

set_option maxHeartbeats 1000000 in
theorem RefPackS_c (t : St) (hok : okP t) (w : World) :
    Calls Tryd.prog 25 #[stV t] w fun e w' => e = .returned (.tuple #[.int .i64 (datN t : Nat), .int .i64 (timN t : Nat)]) ∧ Below w.heap.size w w' := by
  have h6 := hok.six
  have hd := datN_eq h6
  have hm := timN_eq h6
  generalize datN t = D at *
  generalize timN t = M at *
  obtain ⟨y, mo, d, h, mi, s⟩ := t
  obtain ⟨⟨h1, h2⟩, ⟨h3, h4⟩, ⟨h5, h6⟩, ⟨h7, h8⟩, ⟨h9, h10⟩, ⟨h11, h12, h13⟩⟩ := h6
  unfold stV
  dsimp only at *
  have HDD := Lib.hid hd
  have HMM := Lib.hid hm
  have HB := Lib.hid ((Below.refl w.heap.size w).alloc (Nat.le_refl _) (.cells #[.int .i64 y, .int .i64 mo, .int .i64 d, .int .i64 h, .int .i64 mi, .int .i64 s] 23))
  clear hd hm hok h13
  go_enter Tryd.func25, Tryd.ntmps25
  go_wp2
  go_quiet (fail)
  go_wp2
  go_ret2
  rw [HDD.out, HMM.out]
  exact ⟨rfl, below_drewN HB.out _⟩
/-- what the document's Unpack answers -/
def runV (d m : Nat) : Value := if okP (unSt d m) then .tuple #[stV (unSt d m), .bool true] else .tuple #[stV st0, .bool false]
set_option maxHeartbeats 2000000 in
theorem RefUnpackS_c (d m : Nat) (hd : d < 65536) (hm : m < 65536) (w : World) :
    Calls Tryd.prog 34 #[.int .u16 d, .int .u16 m] w fun e w' => e = .returned (runV d m) ∧ Below w.heap.size w w' := by
  obtain ⟨q1, e1⟩ : ∃ q : Nat, q = d / 512 := ⟨_, rfl⟩
  obtain ⟨q2, e2⟩ : ∃ q : Nat, q = d / 32 % 16 := ⟨_, rfl⟩
  obtain ⟨q3, e3⟩ : ∃ q : Nat, q = d % 32 := ⟨_, rfl⟩
  obtain ⟨q4, e4⟩ : ∃ q : Nat, q = m / 2048 := ⟨_, rfl⟩
  obtain ⟨q5, e5⟩ : ∃ q : Nat, q = m / 32 % 64 := ⟨_, rfl⟩
  obtain ⟨q6, e6⟩ : ∃ q : Nat, q = m % 32 := ⟨_, rfl⟩
  have ht2 : unSt d m = ⟨1980 + (q1 : Int), q2, q3, q4, q5, 2 * (q6 : Int)⟩ := by
    unfold unSt
    rw [← e1, ← e2, ← e3, ← e4, ← e5, ← e6, show ((2 * q6 : Nat) : Int) = 2 * (q6 : Int) by omega]
  have f1 : (d : Int) / 512 = (q1 : Int) := by omega
  have f2 : (d : Int) / 32 % 16 = (q2 : Int) := by omega
  have f3 : (d : Int) % 32 = (q3 : Int) := by omega
  have f4 : (m : Int) / 2048 = (q4 : Int) := by omega
  have f5 : (m : Int) / 32 % 64 = (q5 : Int) := by omega
  have f6 : (m : Int) % 32 = (q6 : Int) := by omega
  have b1 : q1 < 128 := by omega
  have b6 : q6 < 32 := by omega
  have hv : runV d m = if okP ⟨1980 + (q1 : Int), q2, q3, q4, q5, 2 * (q6 : Int)⟩ then .tuple #[stV ⟨1980 + (q1 : Int), q2, q3, q4, q5, 2 * (q6 : Int)⟩, .bool true] else .tuple #[stV st0, .bool false] := by
    unfold runV
    rw [ht2]
  have HC := RefRight_c ⟨1980 + (q1 : Int), q2, q3, q4, q5, 2 * (q6 : Int)⟩ (by
    show (Lit.int .i64 (1980 + (q1 : Int))).wf = true
    rw [show 1980 + (q1 : Int) = ((1980 + q1 : Nat) : Int) by omega]
    exact wfI _ (by omega))
  have hk0 := Blk.new w 23 #[.int .i64 0, .int .i64 0, .int .i64 0, .int .i64 0, .int .i64 0, .int .i64 0]
  obtain ⟨w1, hw1⟩ : ∃ w1, w1 = w.alloc (.cells #[.int .i64 0, .int .i64 0, .int .i64 0, .int .i64 0, .int .i64 0, .int .i64 0] 23) := ⟨_, rfl⟩
  unfold stV at HC hv
  dsimp only [st0] at HC hv
  by_cases hok : okP ⟨1980 + (q1 : Int), q2, q3, q4, q5, 2 * (q6 : Int)⟩
  · rw [if_pos hok] at hv
    rw [show okSt ⟨1980 + (q1 : Int), q2, q3, q4, q5, 2 * (q6 : Int)⟩ = true from decide_eq_true hok] at HC
    have HCH := Lib.hid HC
    have HV := Lib.hid hv
    clear HC hv hok ht2 e1 e2 e3 e4 e5 e6 hk0 hw1
    go_enter Tryd.func34, Tryd.ntmps34
    go_wp2_with fail
    refine (HCH.out _).mono ?_
    rintro e w2 ⟨rfl, hb2⟩
    have k0 : Blk w2 w.heap.size 23 #[.int .i64 0, .int .i64 0, .int .i64 0, .int .i64 0, .int .i64 0, .int .i64 0] := ((Blk.new w 23 #[.int .i64 0, .int .i64 0, .int .i64 0, .int .i64 0, .int .i64 0, .int .i64 0]).below (w' := w2) (by simp) (by
      refine Below.trans ((Below.refl _ _).alloc (Nat.le_refl _) _) (hb2.mono ?_)
      simp))
    have k1 : Blk w2 (w.heap.size + 1) 23 #[.int .i64 (1980 + (q1 : Int)), .int .i64 q2, .int .i64 q3, .int .i64 q4, .int .i64 q5, .int .i64 (2 * (q6 : Int))] := by
      have := (Blk.new (w.alloc (.cells #[.int .i64 0, .int .i64 0, .int .i64 0, .int .i64 0, .int .i64 0, .int .i64 0] 23)) 23 #[.int .i64 (1980 + (q1 : Int)), .int .i64 q2, .int .i64 q3, .int .i64 q4, .int .i64 q5, .int .i64 (2 * (q6 : Int))]).below (by simp) hb2
      rwa [World.size_alloc] at this
    have hbel : Below w.heap.size w w2 := (((Below.refl w.heap.size w).alloc (Nat.le_refl _) _).alloc (by simp) _).trans (hb2.mono (by simp; omega))
    have t1 := ld_stp k1 rfl
    have t2 := st_stp k0 rfl ⟨1980 + (q1 : Int), q2, q3, q4, q5, 2 * (q6 : Int)⟩
    unfold stV at t2
    dsimp only at t2
    have t3 := ld_stp (k0.setRow #[.int .i64 (1980 + (q1 : Int)), .int .i64 q2, .int .i64 q3, .int .i64 q4, .int .i64 q5, .int .i64 (2 * (q6 : Int))]) rfl
    have HB9 := Lib.hid (below_setRowS hbel (Nat.le_refl _) #[.int .i64 (1980 + (q1 : Int)), .int .i64 q2, .int .i64 q3, .int .i64 q4, .int .i64 q5, .int .i64 (2 * (q6 : Int))])
    clear k0 k1 hb2 hbel
    go_wp2_with (first
      | (with_reducible refine wpList_load_var _ _ (by with_unfolding_all rfl) t1 ?_)
      | (with_reducible refine wpList_store_var _ _ _ (by with_unfolding_all rfl) (by with_unfolding_all rfl) t2 ?_))
    refine bodyPost_ret (v := .tuple #[.agg #[.int .i64 (1980 + (q1 : Int)), .int .i64 q2, .int .i64 q3, .int .i64 q4, .int .i64 q5, .int .i64 (2 * (q6 : Int))], .bool true]) ?_ rfl ⟨by rw [HV.out], HB9.out⟩
    rw [results_cell_tmp rfl]
    simp [asAddr, Result.andThen, t3]
  · rw [if_neg hok] at hv
    rw [show okSt ⟨1980 + (q1 : Int), q2, q3, q4, q5, 2 * (q6 : Int)⟩ = false from decide_eq_false hok] at HC
    have HCH := Lib.hid HC
    have HV := Lib.hid hv
    clear HC hv hok ht2 e1 e2 e3 e4 e5 e6 hk0 hw1
    go_enter Tryd.func34, Tryd.ntmps34
    go_wp2_with fail
    refine (HCH.out _).mono ?_
    rintro e w2 ⟨rfl, hb2⟩
    have k0 : Blk w2 w.heap.size 23 #[.int .i64 0, .int .i64 0, .int .i64 0, .int .i64 0, .int .i64 0, .int .i64 0] := ((Blk.new w 23 #[.int .i64 0, .int .i64 0, .int .i64 0, .int .i64 0, .int .i64 0, .int .i64 0]).below (w' := w2) (by simp) (by
      refine Below.trans ((Below.refl _ _).alloc (Nat.le_refl _) _) (hb2.mono ?_)
      simp))
    have hbel : Below w.heap.size w w2 := (((Below.refl w.heap.size w).alloc (Nat.le_refl _) _).alloc (by simp) _).trans (hb2.mono (by simp; omega))
    have t2 := st_stp k0 rfl st0
    unfold stV st0 at t2
    dsimp only at t2
    have t3 := ld_stp (k0.setRow #[.int .i64 0, .int .i64 0, .int .i64 0, .int .i64 0, .int .i64 0, .int .i64 0]) rfl
    have HB9 := Lib.hid (below_setRowS hbel (Nat.le_refl _) #[.int .i64 0, .int .i64 0, .int .i64 0, .int .i64 0, .int .i64 0, .int .i64 0])
    clear k0 hb2 hbel
    go_wp2_with (with_reducible refine wpList_store_var _ _ _ (by with_unfolding_all rfl) (by with_unfolding_all rfl) t2 ?_)
    refine bodyPost_ret (v := .tuple #[.agg #[.int .i64 0, .int .i64 0, .int .i64 0, .int .i64 0, .int .i64 0, .int .i64 0], .bool false]) ?_ rfl ⟨by rw [HV.out], HB9.out⟩
    rw [results_cell_tmp rfl]
    simp [asAddr, Result.andThen, t3]
end Go.Proofs.YtacllgglpjdobaaDoor
