/-
  LAW 10's WALK: CanonOrders: it returns true, and writes nothing that was there. No conditions.
-/
import Derived.Test.YtanhgjaokgnlhaaLaw10
import Derived.Test.YtanhgjaokgnlhaaCanD
namespace Go.Proofs.Ytanhgjaokgnlhaa
open Go.RowKit
set_option maxRecDepth 100000
set_option linter.unusedVariables false

set_option maxRecDepth 1000000 in
set_option maxHeartbeats 8000000 in
theorem walk_CanonOrders (w : World) (A : Option Addr) (n ca : Nat) (l : List Int) (hl : IRow w A n .i64 l) :
    Calls Try.prog 6 #[.slice A n ca] w fun e w' => e = .returned (.bool true) ∧ Below w.heap.size w w' := by
  have hnm := hl.max'
  by_cases h300 : (300 : Int) < (n : Int)
  · go_enter Try.func6, Try.ntmps6
    go_wp2_with (go_at_call 8; refine (alive10_c _).mono ?_; rintro e w1 ⟨rfl, hb1⟩)
    go_ret
    exact ⟨rfl, hb1⟩
  have d1 : decide ((300 : Int) < (n : Int)) = false := decide_eq_false h300
  have hn300 : n ≤ 300 := by omega
  by_cases herr : errC l n = 0
  · obtain ⟨hn, hrb, hk, hop⟩ := errC_zero herr
    have hri : RightL l := by have := RightB_all hrb; unfold RightL; rw [hl.len]; exact this
    have HOK : Hid (TabOk l n) := ⟨hl.len, hn, hri, hk, hop⟩
    have HE := Lib.hid herr
    clear herr hrb hk hop hri
    go_enter Try.func6, Try.ntmps6
    go_wp2_with (go_at_call 8; refine (alive10_c _).mono ?_; rintro e w1 ⟨rfl, hB1⟩)
    have hl1 := hl.below hB1
    refine (Codes_ok A n ca l w1 hl1 HE.out).mono ?_
    rintro e w2 ⟨g1, rfl, hr1, hb2⟩
    have hB2 := hB1.trans (hb2.mono hB1.size)
    have hl2 := hl1.below hb2
    have HC : Hid (∀ i, i < n → w2.cell? ⟨g1, i, none⟩ = some (.int .u32 ((codeN l i : Nat) : Int))) := fun i hi => by
      rw [hr1.cellAt i (by omega), us_at _ hi]
    clear hb2 hl1 hB1 hr1 hl
    go_wp2
    go_loopw [26] (fun i wr => ∃ k q : Nat, k ≤ n ∧ i = .int .i64 k ∧ Hid (wr = w2.drewN q)) (fun i _ => n - (intOf i).toNat)
    case atStart => exact ⟨0, 0, by omega, rfl, rfl⟩
    case round =>
      obtain ⟨k, q, hk, rfl, hw⟩ := hrel
      by_cases hlt : k < n
      · have hkn : (k : Int) < n := by omega
        have c1 : wr.cell? ⟨g1, k, none⟩ = some (.int .u32 ((codeN l k : Nat) : Int)) := by rw [hw.out]; exact HC.out k hlt
        have hl4 : IRow wr A n .i64 l := by rw [hw.out]; exact hl2.drewN q
        obtain ⟨b1, o1, rfl, hbl, q1⟩ := hl4.at_ hlt
        have z3 := lnN_int HOK.out.right (i := k) (by rw [HOK.out.len]; exact hlt)
        rw [← z3.1] at q1
        have HB2 := Lib.hid hB2
        clear hl4
        by_cases hz : lnN l k = 0
        · have z4 : codeN l k = 0 := by unfold codeN; rw [if_pos (by omega)]
          have HZ : Hid (lnN l k = 0) := hz
          have HZK : Hid (((0 : Nat) : Int) = gi l k) := by unfold Hid; rw [← z3.1, hz]
          rw [hz] at q1
          rw [z4] at c1
          clear hz z3 z4
          go_wp2
          go_quiet (fail)
          go_wp2
          go_loopw [62] (fun i W => ∃ j q2 : Nat, j ≤ n ∧ i = .int .i64 j ∧ Hid (W = w2.drewN q2)) (fun i _ => n - (intOf i).toNat)
          case atStart => exact ⟨0, q + nq, by omega, rfl, by unfold Hid; rw [hw.out, World.drewN_drewN]⟩
          case round =>
            clear hw q1 c1
            obtain ⟨j, q2, hj, rfl, hw⟩ := hrel
            by_cases hlj : j < n
            · have hjn : (j : Int) < n := by omega
              have hl4 : IRow wr (some ⟨b1, o1, none⟩) n .i64 l := by rw [hw.out]; exact hl2.drewN q2
              have q1 : wr.cell? ⟨b1, o1 + k, none⟩ = some (.int .i64 ((0 : Nat) : Int)) := by
                have h1 := hl4.cells (by omega)
                obtain ⟨b', o', e, _, hc⟩ := h1
                injection e with e
                injection e with e1 e2
                subst e1 e2
                rw [hc k hlt, ← HZK.out]
              clear hl4
              go_wp2
              go_roundw
              case rel => exact ⟨j + 1, q2, by omega, by go_num, hw⟩
              case measure => simp [intOf]; omega
            · obtain rfl : j = n := by omega
              go_wp2
              go_roundw
              case rel => exact ⟨k + 1, q2, by omega, by go_num, hw⟩
              case measure => simp [intOf]; omega
        · have hy15 := z3.2
          have hxl := (codeN_lt HOK.out.right (by rw [HOK.out.len]; exact HOK.out.fit) (i := k) (by rw [HOK.out.len]; exact hlt) (by omega)).2
          have HXK : Hid (codeN l k = codeN l k) := rfl
          obtain ⟨x, hx⟩ : ∃ x, x = codeN l k := ⟨_, rfl⟩
          obtain ⟨y, hy⟩ : ∃ y, y = lnN l k := ⟨_, rfl⟩
          rw [← hx] at c1 hxl
          rw [← hy] at q1 hxl hy15 hz
          have HX := Lib.hid hx
          have HY := Lib.hid hy
          have hy0 : (0 : Int) < (y : Int) := by omega
          obtain ⟨pw, hpw⟩ : ∃ pw, pw = 2 ^ y := ⟨_, rfl⟩
          rw [← hpw] at hxl
          have hyz : ((y : Int) == 0) = false := by rw [beq_eq_false_iff_ne]; omega
          have hpi : (2 : Int) ^ y = (pw : Int) := by rw [hpw]; simp
          have hp15 : pw ≤ 32768 := by rw [hpw]; exact Nat.pow_le_pow_right (by decide) (by omega : y ≤ 15)
          have hge : decide ((pw : Int) ≤ (x : Int)) = false := decide_eq_false (by omega)
          have hge2 : decide (pw ≤ x) = false := decide_eq_false (by omega)
          have hyd : decide (0 < y) = true := decide_eq_true (by omega)
          have hyd2 : decide ((0 : Int) < (y : Int)) = true := decide_eq_true hy0
          have hye : decide (y = 0) = false := decide_eq_false (by omega)
          have HQ : Hid (gi l k = (y : Int)) := by unfold Hid; rw [← z3.1, hy]
          have HP := Lib.hid hpw
          clear hx hy hpw z3 hz
          go_wp2
          go_quiet (fail)
          clear hpi hge hge2 hxl
          go_wp2
          go_loopw [62] (fun i W => ∃ j q2 : Nat, j ≤ n ∧ i = .int .i64 j ∧ Hid (W = w2.drewN q2)) (fun i _ => n - (intOf i).toNat)
          case atStart => exact ⟨0, q + nq, by omega, rfl, by unfold Hid; rw [hw.out, World.drewN_drewN]⟩
          case round =>
            clear hw q1 c1
            obtain ⟨j, q2, hj, rfl, hw⟩ := hrel
            by_cases hlj : j < n
            · have hjn : (j : Int) < n := by omega
              have hl4 : IRow wr (some ⟨b1, o1, none⟩) n .i64 l := by rw [hw.out]; exact hl2.drewN q2
              have hqs : ∀ i, i < n → wr.cell? ⟨b1, o1 + i, none⟩ = some (.int .i64 (gi l i)) := by
                obtain ⟨b', o', e, _, hc⟩ := hl4.cells (by omega)
                injection e with e
                injection e with e1 e2
                subst e1 e2
                exact hc
              have q1 := hqs k hlt
              rw [HQ.out] at q1
              have qj := hqs j hlj
              have c1 : wr.cell? ⟨g1, k, none⟩ = some (.int .u32 ((codeN l k : Nat) : Int)) := by rw [hw.out]; exact HC.out k hlt
              have cj : wr.cell? ⟨g1, j, none⟩ = some (.int .u32 ((codeN l j : Nat) : Int)) := by rw [hw.out]; exact HC.out j hlj
              have z3 := lnN_int HOK.out.right (i := j) (by rw [HOK.out.len]; exact hlj)
              rw [← z3.1] at qj
              rw [← HX.out] at c1
              clear hl4 hqs
              by_cases hz : lnN l j = 0
              · rw [hz] at qj
                clear z3 hz c1 cj
                go_wp2
                go_roundw
                case rel => exact ⟨j + 1, q2, by omega, by go_num, hw⟩
                case measure => simp [intOf]; omega
              · have hord := codeN_order HOK.out.right (by rw [HOK.out.len]; exact HOK.out.fit) (i := k) (j := j) (by rw [HOK.out.len]; exact hlt) (by rw [HOK.out.len]; exact hlj) (by rw [HQ.out]; exact hy0) (by omega)
                have hjl := (codeN_lt HOK.out.right (by rw [HOK.out.len]; exact HOK.out.fit) (i := j) (by rw [HOK.out.len]; exact hlj) (by omega)).2
                have hkl := (codeN_lt HOK.out.right (by rw [HOK.out.len]; exact HOK.out.fit) (i := k) (by rw [HOK.out.len]; exact hlt) (by rw [HQ.out]; exact hy0)).2
                obtain ⟨u, hu⟩ : ∃ u, u = codeN l j := ⟨_, rfl⟩
                obtain ⟨v, hv⟩ : ∃ v, v = lnN l j := ⟨_, rfl⟩
                rw [← HX.out, ← HY.out, ← hu, ← hv] at hord
                rw [← HX.out, ← HY.out] at hkl
                rw [← hu, ← hv] at hjl
                rw [← hu] at cj
                rw [← hv] at qj z3 hz
                have hlk : gi l k < gi l j ∨ (gi l k = gi l j ∧ k < j) ↔ y < v ∨ (y = v ∧ k < j) := by
                  have := HQ.out
                  have := z3.1
                  omega
                rw [hlk] at hord
                have hv15 := z3.2
                clear hu hv z3 hlk
                obtain ⟨P, hP⟩ : ∃ P, P = 2 ^ (15 - y) := ⟨_, rfl⟩
                obtain ⟨Q, hQ⟩ : ∃ Q, Q = 2 ^ (15 - v) := ⟨_, rfl⟩
                have hPi : (2 : Int) ^ (15 - y) = (P : Int) := by rw [hP]; simp
                have hQi : (2 : Int) ^ (15 - v) = (Q : Int) := by rw [hQ]; simp
                obtain ⟨s, hs⟩ : ∃ s, s = x * P := ⟨_, rfl⟩
                obtain ⟨t, ht⟩ : ∃ t, t = u * Q := ⟨_, rfl⟩
                have hsl : s < 32768 := by
                  rw [hs, hP]
                  have h1 : x * 2 ^ (15 - y) < 2 ^ y * 2 ^ (15 - y) := Nat.mul_lt_mul_of_pos_right hkl (Nat.pow_pos (by decide))
                  rw [← Nat.pow_add, show y + (15 - y) = 15 by omega] at h1
                  exact h1
                have htl : t < 32768 := by
                  rw [ht, hQ]
                  have h1 : u * 2 ^ (15 - v) < 2 ^ v * 2 ^ (15 - v) := Nat.mul_lt_mul_of_pos_right hjl (Nat.pow_pos (by decide))
                  rw [← Nat.pow_add, show v + (15 - v) = 15 by omega] at h1
                  exact h1
                rw [← hP, ← hQ, ← hs, ← ht] at hord
                have hsi : (x : Int) * (P : Int) % 4294967296 = (s : Int) := by
                  rw [← Int.natCast_mul, ← hs]
                  omega
                have hti : (u : Int) * (Q : Int) % 4294967296 = (t : Int) := by
                  rw [← Int.natCast_mul, ← ht]
                  omega
                have hvz : ((v : Int) == 0) = false := by rw [beq_eq_false_iff_ne]; omega
                have hord2 : (decide (y < v) = true ∧ decide (t ≤ s) = false) ∨ (y = v ∧ decide (k < j) = true ∧ decide (t ≤ s) = false) ∨ (y = v ∧ decide (k < j) = false) ∨ (decide (y < v) = false ∧ ((y : Int) == (v : Int)) = false) := by
                  rcases Nat.lt_trichotomy y v with h1 | h1 | h1
                  · exact .inl ⟨decide_eq_true h1, decide_eq_false (by have := hord (.inl h1); omega)⟩
                  · by_cases h2 : k < j
                    · exact .inr (.inl ⟨h1, decide_eq_true h2, decide_eq_false (by have := hord (.inr ⟨h1, h2⟩); omega)⟩)
                    · exact .inr (.inr (.inl ⟨h1, decide_eq_false h2⟩))
                  · exact .inr (.inr (.inr ⟨decide_eq_false (by omega), by rw [beq_eq_false_iff_ne]; omega⟩))
                have HS := Lib.hid hs
                clear hs ht hP hQ hord hjl hkl hz HS
                have hyv0 : decide (0 < v) = true := decide_eq_true (by have := beq_eq_false_iff_ne.1 hvz; omega)
                rcases hord2 with ⟨e1, e2⟩ | ⟨rfl, e2, e3⟩ | ⟨rfl, e2⟩ | ⟨e1, e2⟩
                · have f1 : decide ((y : Int) < (v : Int)) = true := decide_eq_true (by have := of_decide_eq_true e1; omega)
                  have f2 : decide ((t : Int) ≤ (s : Int)) = false := decide_eq_false (by have := of_decide_eq_false e2; omega)
                  go_wp2
                  go_quiet (fail)
                  go_wp2
                  go_quiet (fail)
                  go_wp2
                  go_roundw
                  case rel => exact ⟨j + 1, _, by omega, by go_num, by unfold Hid; rw [hw.out, World.drewN_drewN]⟩
                  case measure => simp [intOf]; omega
                · obtain rfl : P = Q := by have := hPi.symm.trans hQi; omega
                  have f2 : decide ((k : Int) < (j : Int)) = true := decide_eq_true (by have := of_decide_eq_true e2; omega)
                  have f3 : decide ((t : Int) ≤ (s : Int)) = false := decide_eq_false (by have := of_decide_eq_false e3; omega)
                  have f4 : decide (y < y) = false := decide_eq_false (by omega)
                  have f5 : ((y : Int) == (y : Int)) = true := by simp
                  clear hQi
                  go_wp2
                  go_quiet (fail)
                  go_wp2
                  go_quiet (fail)
                  go_wp2
                  go_roundw
                  case rel => exact ⟨j + 1, _, by omega, by go_num, by unfold Hid; rw [hw.out, World.drewN_drewN]⟩
                  case measure => simp [intOf]; omega
                · obtain rfl : P = Q := by have := hPi.symm.trans hQi; omega
                  have f2 : decide ((k : Int) < (j : Int)) = false := decide_eq_false (by have := of_decide_eq_false e2; omega)
                  have f4 : decide (y < y) = false := decide_eq_false (by omega)
                  have f5 : ((y : Int) == (y : Int)) = true := by simp
                  clear hQi
                  go_wp2
                  go_quiet (fail)
                  go_wp2
                  go_quiet (fail)
                  go_wp2
                  go_roundw
                  case rel => exact ⟨j + 1, _, by omega, by go_num, by unfold Hid; rw [hw.out, World.drewN_drewN]⟩
                  case measure => simp [intOf]; omega
                · have f1 : decide ((y : Int) < (v : Int)) = false := decide_eq_false (by have := of_decide_eq_false e1; omega)
                  go_wp2
                  go_quiet (fail)
                  go_wp2
                  go_quiet (fail)
                  go_wp2
                  go_roundw
                  case rel => exact ⟨j + 1, _, by omega, by go_num, by unfold Hid; rw [hw.out, World.drewN_drewN]⟩
                  case measure => simp [intOf]; omega
            · obtain rfl : j = n := by omega
              go_wp2
              go_roundw
              case rel => exact ⟨k + 1, q2, by omega, by go_num, hw⟩
              case measure => simp [intOf]; omega
      · obtain rfl : k = n := by omega
        go_wp2
        go_ret
        exact ⟨rfl, by rw [hw.out]; exact below_drewN hB2 q⟩
  · obtain ⟨x, hx⟩ : ∃ x, x = errC l n := ⟨_, rfl⟩
    have hcod := fun W h => Codes_no A n ca l W h herr
    rw [← hx] at herr hcod
    have HC := Lib.hid hcod
    have hne : ((x : Int) != 0) = true := by rw [bne_iff_ne]; omega
    clear hx herr hcod
    go_enter Try.func6, Try.ntmps6
    go_wp2_with (go_at_call 8; refine (alive10_c _).mono ?_; rintro e w1 ⟨rfl, hB1⟩)
    have hl1 := hl.below hB1
    refine (HC.out w1 hl1).mono ?_
    rintro e w2 ⟨rfl, hb2⟩
    have hB2 := hB1.trans (hb2.mono hB1.size)
    go_wp2
    go_ret
    exact ⟨rfl, hB2⟩
end Go.Proofs.Ytanhgjaokgnlhaa
