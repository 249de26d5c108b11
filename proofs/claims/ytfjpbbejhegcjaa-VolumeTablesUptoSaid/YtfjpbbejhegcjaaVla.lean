/-
  VOLUMES: few, Size, end. No conditions (but for how many volumes there are, and bytes).
-/
import Derived.Test.YtfjpbbejhegcjaaJoin
import Derived.Lib.Hide
import Derived.Lib.MinMax
import Derived.Laws.ResultCell
import Derived.Deep.RegionHeld3
import Derived.BigQuiet
namespace Go.Proofs.Ytfjpbbejhegcjaa
open Go.RowKit
set_option maxRecDepth 100000
set_option linter.unusedVariables false

/-- rows that are few, of few bytes -/
def fewP (n : Nat) (RL : Nat → Nat) : Prop := n ≤ 20 ∧ ∀ r, r < n → RL r ≤ 60
instance (n : Nat) (RL : Nat → Nat) : Decidable (fewP n RL) := by unfold fewP; infer_instance
theorem lenTo_few {n : Nat} {RL : Nat → Nat} (h : fewP n RL) (k : Nat) (hk : k ≤ n) : lenTo RL k ≤ 1200 := by
  have h1 := lenTo_le h.2 k hk
  have h2 : k * 60 ≤ 20 * 60 := Nat.mul_le_mul_right _ (by have := h.1; omega)
  omega
theorem few_c {w : World} {A : Option Addr} {n cap : Nat} {RA : Nat → Option Addr} {RL RC : Nat → Nat} {R : Nat → List F} (h : MIn w A n cap RA RL RC R) :
    Calls Try.prog 5 #[.slice A n cap] w fun e w' => e = .returned (.bool (decide (fewP n RL))) ∧ w = w' := by
  have hn := h.nmax
  go_enter Try.func5, Try.ntmps5
  go_wp2
  go_loop [7] (fun i => ∃ k : Nat, k ≤ n ∧ i = .int .i64 k ∧ Hid (∀ r, r < k → RL r ≤ 60)) (fun i => n - (intOf i).toNat)
  case atStart => exact ⟨0, by omega, rfl, fun r hr => absurd hr (by omega)⟩
  case round =>
    obtain ⟨k, hk, rfl, hL⟩ := hrel
    by_cases hlt : k < n
    · have hkn : (k : Int) < n := by omega
      obtain ⟨b1, o1, rfl, _, q1⟩ := h.at_ hlt
      by_cases h60 : 60 < RL k
      · have i60 : (60 : Int) < (RL k : Int) := by omega
        have hno : ¬ fewP n RL := fun e => by have := e.2 k hlt; omega
        have hd : decide (fewP n RL) = false := decide_eq_false hno
        have HD := Lib.hid hd
        clear hd hno
        go_wp2
        go_ret
        exact ⟨ret_bool HD.out.symm, rfl⟩
      · have i60 : ¬ (60 : Int) < (RL k : Int) := by omega
        have hL2 : Hid (∀ r, r < k + 1 → RL r ≤ 60) := fun r hr => by
          by_cases e : r = k
          · subst e; omega
          · exact hL.out r (by omega)
        go_wp2
        go_round
        case rel => exact ⟨k + 1, by omega, by go_num, hL2⟩
        case measure => simp [intOf]; omega
    · obtain rfl : k = n := by omega
      by_cases h20 : k ≤ 20
      · have i20 : (k : Int) ≤ 20 := by omega
        have hd : decide (fewP k RL) = true := decide_eq_true ⟨h20, hL.out⟩
        have HD := Lib.hid hd
        clear hd
        go_wp2
        go_ret
        exact ⟨ret_bool HD.out.symm, rfl⟩
      · have i20 : ¬ (k : Int) ≤ 20 := by omega
        have hd : decide (fewP k RL) = false := decide_eq_false fun e => h20 e.1
        have HD := Lib.hid hd
        clear hd
        go_wp2
        go_ret
        exact ⟨ret_bool HD.out.symm, rfl⟩
theorem Size_c {w : World} {A : Option Addr} {n cap : Nat} {RA : Nat → Option Addr} {RL RC : Nat → Nat} {R : Nat → List F} (h : MIn w A n cap RA RL RC R) (hn : n ≤ 1048576) (hl : ∀ r, r < n → RL r ≤ 1048576) :
    Calls Try.prog 17 #[.slice A n cap] w fun e w' => e = .returned (.int .i64 (lenTo RL n : Nat)) ∧ w = w' := by
  have HL := Lib.hid hl
  clear hl
  go_enter Try.func17, Try.ntmps17
  go_wp2
  go_loop [3, 8] (fun s i => ∃ k t : Nat, k ≤ n ∧ i = .int .i64 k ∧ s = .int .i64 t ∧ Hid (t = lenTo RL k)) (fun _ i => n - (intOf i).toNat)
  case atStart => exact ⟨0, 0, by omega, rfl, rfl, rfl⟩
  case round =>
    obtain ⟨k, t, hk, rfl, rfl, ht⟩ := hrel
    by_cases hlt : k < n
    · have hkn : (k : Int) < n := by omega
      obtain ⟨b1, o1, rfl, _, q1⟩ := h.at_ hlt
      have hlk := HL.out k hlt
      have htb : t ≤ 1099511627776 := by
        have h1 := lenTo_le HL.out k hk
        rw [ht.out]
        have h3 : k * 1048576 ≤ 1048576 * 1048576 := Nat.mul_le_mul_right _ (by omega)
        omega
      have hnext : Hid (t + RL k = lenTo RL (k + 1)) := by unfold Hid; rw [ht.out]; rfl
      go_wp2
      go_round
      case rel => exact ⟨k + 1, t + RL k, by omega, by go_num, by go_num, hnext⟩
      case measure => simp [intOf]; omega
    · obtain rfl : k = n := by omega
      go_wp2
      go_ret
      exact ⟨by rw [ht.out]; rfl, rfl⟩
def plC (d o : Int) : Array Value := #[.int .i64 d, .int .i64 o]
def plV (d o : Int) : Value := .agg (plC d o)
theorem info_pl : (Try.prog.info? 40).map (·.size) = some 2 := by kernel_rfl
theorem ld_pl {w : World} {g : Nat} {C : Array Value} (h : Blk w g 40 C) (hC : C.size = 2) : Sem.run Try.prog (loadVar 40 ⟨g, 0, none⟩) w = .ok (.agg C) w :=
  run_loadVar_row w g _ _ _ (0, 0) _ h Try.underlying40 rfl (by rw [info_pl, hC])
theorem st_pl {w : World} {g : Nat} {C : Array Value} (h : Blk w g 40 C) (hC : C.size = 2) (D : Array Value) (hD : D.size = 2) (h1 : D.all (·.oneCell') = true) :
    Sem.run Try.prog (storeVar 40 ⟨g, 0, none⟩ (.agg D)) w = .ok () (w.setRow g D) :=
  run_storeVar_row w g _ _ _ _ h (by rw [info_pl, hD]) (by rw [hC, hD]) h1
theorem below_setRowV {B : Nat} {a w : World} (h : Below B a w) {g : Nat} (hg : B ≤ g) (D : Array Value) : Below B a (w.setRow g D) :=
  ⟨h.os, h.tape, h.output, by simpa [World.setRow] using h.size, fun k hk => by
    have e : (w.setRow g D).heap[k]? = w.heap[k]? := by
      simp [World.setRow, Array.getElem?_modify]
      intro e
      omega
    exact e.trans (h.block k hk)⟩
theorem results_cell_oneV {P : Program} {fn : Func} {p : Tmp} {ty : TypeId} (h : fn.results = #[.cell p ty]) (tmps : Array Value) (w : World) :
    (results fn tmps).run P w = ((asAddr (tmps.getD p undef)).run P w).andThen fun a w₁ => (loadVar ty a).run P w₁ := by
  simp only [results, h]
  simp [Sem.run_bind, Result.andThen]
theorem End_c (A : Option Addr) (n cap : Nat) (w : World) :
    Calls Try.prog 26 #[.slice A n cap] w fun e w' => e = .returned (plV n 0) ∧ Below w.heap.size w w' := by
  have HK := Blk.new w 40 (plC 0 0)
  have t2 := st_pl HK rfl (plC n 0) rfl (by simp [plC, Value.oneCell'])
  have t3 := ld_pl (HK.setRow (plC n 0)) rfl
  have HB9 := Lib.hid (below_setRowV ((Below.refl w.heap.size w).alloc (Nat.le_refl _) (.cells (plC 0 0) 40)) (Nat.le_refl _) (plC n 0))
  unfold plV plC at *
  go_enter Try.func26, Try.ntmps26
  go_wp2_with (with_reducible refine wpList_store_var _ _ _ (by with_unfolding_all rfl) (by with_unfolding_all rfl) t2 ?_)
  refine bodyPost_ret (v := .agg #[.int .i64 n, .int .i64 0]) ?_ rfl ⟨rfl, HB9.out⟩
  rw [results_cell_oneV rfl]
  simp [asAddr, Result.andThen, t3]
end Go.Proofs.Ytfjpbbejhegcjaa
