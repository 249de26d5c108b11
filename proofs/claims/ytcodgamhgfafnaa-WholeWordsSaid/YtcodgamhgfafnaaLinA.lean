/-
  THE CONTRACTS OF PACKAGE linear: Right, width, take, and of slices.IndexFunc. No conditions but that memory lets rows be.
-/
import Derived.Test.YtcodgamhgfafnaaMat
import Derived.Test.YtcodgamhgfafnaaLin2
namespace Go.Proofs.Ytcodgamhgfafnaa
open Go.RowKit
set_option maxRecDepth 100000
set_option linter.unusedVariables false

theorem ret_bool' {a b : Bool} (h : a = b) : Ending.returned (.bool a) = .returned (.bool b) := by rw [h]
/-- are all rows as long as the first? -/
def isR (n : Nat) (RL : Nat → Nat) : Prop := ∀ r, r < n → RL r = RL 0
instance (n : Nat) (RL : Nat → Nat) : Decidable (isR n RL) := inferInstanceAs (Decidable (∀ r, r < n → RL r = RL 0))
set_option maxHeartbeats 1000000 in
theorem Right_c {w : World} {A : Option Addr} {n cap : Nat} {RA : Nat → Option Addr} {RL RC : Nat → Nat} {R : Nat → List F} (h : MIn w A n cap RA RL RC R) :
    Calls Try.prog 42 #[.slice A n cap] w fun e w' => e = .returned (.bool (decide (isR n RL))) ∧ w = w' := by
  have hm := h.nmax
  have hlm : ∀ r, r < n → RL r ≤ 9223372036854775807 := fun r hr => (h.row r hr).row.max
  have HLM := Lib.hid hlm
  clear hlm
  go_enter Try.func42, Try.ntmps42
  go_wp2
  go_loop [7] (fun i => ∃ k : Nat, k ≤ n ∧ i = .int .i64 k ∧ Hid (∀ r, r < k → RL r = RL 0)) (fun i => n - (intOf i).toNat)
  case atStart => exact ⟨0, by omega, rfl, fun r hr => by omega⟩
  case round =>
    obtain ⟨k, hk, rfl, hs⟩ := hrel
    by_cases hlt : k < n
    · obtain ⟨b, o, e, _, q1⟩ := h.at_ hlt
      obtain ⟨b', o', e', _, q0⟩ := h.at_ (r := 0) (by omega)
      rw [e] at e'
      injection e' with e'
      injection e' with e1 e2
      subst e1 e2 e
      rw [Nat.add_zero] at q0
      have hkn : (k : Int) < n := by omega
      have hn0 : (0 : Int) < n := by omega
      have hk1 := HLM.out k hlt
      have hk2 := HLM.out 0 (by omega)
      by_cases he : RL k = RL 0
      · have hne : ((RL k : Int) != (RL 0 : Int)) = false := by rw [he]; simp
        have HE := Lib.hid he
        clear he
        go_wp2
        go_round
        case rel =>
          refine ⟨k + 1, by omega, by go_num, fun r hr => ?_⟩
          rcases Nat.lt_or_ge r k with h1 | h1
          · exact hs.out r h1
          · rw [show r = k by omega]; exact HE.out
        case measure => simp [intOf]; omega
      · have hne : ((RL k : Int) != (RL 0 : Int)) = true := by rw [bne_iff_ne]; omega
        have HE : Hid (false = decide (isR n RL)) := (decide_eq_false fun e => he (e k hlt)).symm
        clear he
        go_wp2
        go_ret
        exact ⟨ret_bool' HE.out, rfl⟩
    · have HE : Hid (true = decide (isR n RL)) := (decide_eq_true fun r hr => hs.out r (by omega)).symm
      go_wp2
      go_ret
      exact ⟨ret_bool' HE.out, rfl⟩
theorem width_c {w : World} {A : Option Addr} {n cap : Nat} {RA : Nat → Option Addr} {RL RC : Nat → Nat} {R : Nat → List F} (h : MIn w A n cap RA RL RC R) :
    Calls Try.prog 43 #[.slice A n cap] w fun e w' => e = .returned (.int .i64 (if n = 0 then 0 else RL 0 : Nat)) ∧ w = w' := by
  have hm := h.nmax
  by_cases hn : n = 0
  · subst hn
    go_enter Try.func43, Try.ntmps43
    go_wp2
    go_ret
    exact ⟨rfl, rfl⟩
  · obtain ⟨b', o', rfl, _, q0⟩ := h.at_ (r := 0) (by omega)
    have hk2 : RL 0 ≤ 9223372036854775807 := (h.row 0 (by omega)).row.max
    have hn0 : (0 : Int) < n := by omega
    have e0 : ((n : Int) == 0) = false := by rw [beq_eq_false_iff_ne]; omega
    rw [Nat.add_zero] at q0
    rw [if_neg hn]
    clear hn
    go_enter Try.func43, Try.ntmps43
    go_wp2
    go_ret
    exact ⟨rfl, rfl⟩
set_option maxHeartbeats 1000000 in
theorem take_c (b off tn tc C : Nat) (B : Option Addr) (m cb : Nat) (f : Nat → F) (q : List F) (w : World) (hR : RowV w b C fun j => .int .u8 (f j).n) (hq : Row w B m q)
    (hB : ∀ z, B = some z → z.block ≠ b) (h1 : m ≤ tn) (h2 : off + m ≤ C) (h3 : C ≤ 9223372036854775807) (h4 : tn ≤ 9223372036854775807) :
    Calls Try.prog 50 #[.slice (some ⟨b, off, none⟩) tn tc, .slice B m cb] w fun e w' => e = .returned (.tuple #[]) ∧ RowV w' b C (fun j => .int .u8 (if off ≤ j ∧ j < off + m then f j + gt q (j - off) else f j).n) ∧ w.grownBy w' (some b) := by
  have hqm := hq.max
  go_enter Try.func50, Try.ntmps50
  go_wp2
  go_loopw [8] (fun i wr => ∃ k : Nat, k ≤ m ∧ i = .int .i64 k ∧ RowV wr b C (fun j => .int .u8 (if off ≤ j ∧ j < off + k then f j + gt q (j - off) else f j).n) ∧ w.grownBy wr (some b)) (fun i _ => m - (intOf i).toNat)
  case atStart => exact ⟨0, by omega, rfl, hR.congr fun j hj => by rw [if_neg (by omega)], World.grownBy.refl _ _⟩
  case round =>
    clear hR
    obtain ⟨k, hk, rfl, hR, hgr⟩ := hrel
    by_cases hlt : k < m
    · obtain ⟨b1, o1, rfl, hb, hc⟩ := hq.at_ hlt
      have hc1 : wr.cell? ⟨b1, o1 + k, none⟩ = some (.int .u8 (gt q k).n) := hgr.cell hc (fun e => hB _ rfl (by injection e))
      have hf := hR.frozen (off + k)
      have hc2 := hR.cell (i := off + k) (by omega)
      rw [if_neg (by omega)] at hc2
      have hst := Lib.hid (hR.set (off + k) (.int .u8 (f (off + k) + gt q k).n))
      have hgs := Lib.hid (hgr.trans (setCell_grown wr b (off + k) (.int .u8 (f (off + k) + gt q k).n)))
      have hkt : (k : Int) < tn := by omega
      clear hc hB
      go_wp2_with (go_at_call 21; refine (Add_c _ _ _).mono ?_; rintro e w' ⟨rfl, rfl⟩)
      go_roundw
      case rel =>
        refine ⟨k + 1, by omega, by go_num, hst.out.congr fun j hj => ?_, hgs.out⟩
        by_cases e : j = off + k
        · subst e
          rw [if_pos rfl, if_pos (by omega), show off + k - off = k by omega]
        · rw [if_neg e]
          by_cases h5 : off ≤ j ∧ j < off + k
          · rw [if_pos h5, if_pos (by omega)]
          · rw [if_neg h5, if_neg (by omega)]
      case measure => simp [intOf]; omega
    · obtain rfl : k = m := by omega
      go_wp2
      go_end0
      exact ⟨rfl, hR, hgr⟩
end Go.Proofs.Ytcodgamhgfafnaa
