/-
  LAW 10's WALK: CanonCodes: it returns true, and writes nothing that was there. No conditions.
-/
import Derived.Test.YtanhgjaokgnlhaaLaw10
import Derived.Test.YtanhgjaokgnlhaaCanD
namespace Go.Proofs.Ytanhgjaokgnlhaa
open Go.RowKit
set_option maxRecDepth 100000
set_option linter.unusedVariables false

set_option maxHeartbeats 4000000 in
theorem walk_CanonCodes (w : World) (A : Option Addr) (n ca : Nat) (l : List Int) (hl : IRow w A n .i64 l) (s : Int) (_ : (Lit.int .i64 s).wf = true) :
    Calls Try.prog 3 #[.slice A n ca, .int .i64 s] w fun e w' => e = .returned (.bool true) ∧ Below w.heap.size w w' := by
  have hnm := hl.max'
  by_cases h300 : (300 : Int) < (n : Int)
  · go_enter Try.func3, Try.ntmps3
    go_wp2_with (go_at_call 8; refine (alive10_c _).mono ?_; rintro e w1 ⟨rfl, hb1⟩)
    go_ret
    exact ⟨rfl, hb1⟩
  have d1 : decide ((300 : Int) < (n : Int)) = false := decide_eq_false h300
  have hn300 : n ≤ 300 := by omega
  by_cases herr : errC l n = 0
  · have HE := Lib.hid herr
    clear herr
    go_enter Try.func3, Try.ntmps3
    go_wp2_with (go_at_call 8; refine (alive10_c _).mono ?_; rintro e w1 ⟨rfl, hB1⟩)
    have hl1 := hl.below hB1
    refine (Codes_ok A n ca l w1 hl1 HE.out).mono ?_
    rintro e w2 ⟨g1, rfl, hr1, hb2⟩
    have hB2 := hB1.trans (hb2.mono hB1.size)
    have hl2 := hl1.below hb2
    clear hb2 hl1 hB1
    go_wp2_with fail
    refine (RefCodes_c A n ca l w2 hl2).mono ?_
    rintro e w3 (⟨he, _⟩ | ⟨_, g2, rfl, hr2, hb3⟩)
    · exact absurd HE.out he
    have hB3 := hB2.trans (hb3.mono hB2.size)
    have hr13 := own_below hr1 hb3
    have hl3 := hl2.below hb3
    clear hl2 hb3 hB2 hr1
    go_wp2
    go_loopw [41] (fun i wr => ∃ k q : Nat, k ≤ n ∧ i = .int .i64 k ∧ Hid (wr = w3.drewN q)) (fun i _ => n - (intOf i).toNat)
    case atStart => exact ⟨0, 0, by omega, rfl, rfl⟩
    case round =>
      obtain ⟨k, q, hk, rfl, hw⟩ := hrel
      by_cases hlt : k < n
      · have hkn : (k : Int) < n := by omega
        have c1 := hr13.cellAt k (by omega)
        have c2 := hr2.cellAt k (by omega)
        rw [us_at _ hlt] at c1 c2
        replace c1 : wr.cell? ⟨g1, k, none⟩ = some (.int .u32 ((codeN l k : Nat) : Int)) := by rw [hw.out]; exact c1
        replace c2 : wr.cell? ⟨g2, k, none⟩ = some (.int .u32 ((codeN l k : Nat) : Int)) := by rw [hw.out]; exact c2
        generalize codeN l k = x at *
        have hxx : ((x : Int) != (x : Int)) = false := by simp
        go_wp2
        go_quiet (fail)
        go_wp2
        go_roundw
        case rel => exact ⟨k + 1, q + nq, by omega, by go_num, by unfold Hid; rw [hw.out, World.drewN_drewN]⟩
        case measure => simp [intOf]; omega
      · obtain rfl : k = n := by omega
        have hB4 : Below w.heap.size w wr := by rw [hw.out]; exact below_drewN hB3 q
        have hr4 : wr.ownsRow w2.heap.size 30 1 (.slice (some ⟨g2, 0, none⟩) k k) k (us (codeN l) k) := by rw [hw.out]; exact hr2
        have hl4 : IRow wr A k .i64 l := by rw [hw.out]; exact hl3.drewN q
        clear hr2 hr13 hl3 hB3 hw
        go_wp2_with fail
        refine (New_ok A k ca l wr hl4 HE.out).mono ?_
        rintro e w5 ⟨p, gc, LA, lc, S, rfl, hT5, hb5⟩
        have hB5 := hB4.trans (hb5.mono hB4.size)
        have hr5 := own_below hr4 hb5
        have hl5 := hl4.below hb5
        have HCT := Lib.hid (CodeT_c hT5 s)
        have HOK := Lib.hid hT5.ok
        clear hr4 hl4 hb5 hB4 hT5
        by_cases h0 : s < 0
        · have z1 : codeAt l s = 0 := if_neg (by omega)
          have z2 : lenAt l s = 0 := if_neg (by omega)
          rw [z1, z2] at HCT
          go_wp2_with (go_at_call 12; refine HCT.out.mono ?_; rintro e _ ⟨rfl, q5, rfl⟩)
          go_ret
          exact ⟨rfl, below_drewN hB5 q5⟩
        · by_cases h1 : (k : Int) ≤ s
          · have z1 : codeAt l s = 0 := if_neg (by have := HOK.out.len; omega)
            have z2 : lenAt l s = 0 := if_neg (by have := HOK.out.len; omega)
            rw [z1, z2] at HCT
            go_wp2_with (go_at_call 12; refine HCT.out.mono ?_; rintro e _ ⟨rfl, q5, rfl⟩)
            go_ret
            exact ⟨rfl, below_drewN hB5 q5⟩
          · obtain ⟨i, rfl⟩ : ∃ i : Nat, s = i := ⟨s.toNat, by omega⟩
            have hi : i < k := by omega
            have hii : (i : Int) < (k : Int) := by omega
            have hlen := HOK.out.len
            have z1 : codeAt l i = codeN l i := by unfold codeAt; rw [if_pos (by omega)]; rfl
            have z2 : lenAt l i = lnN l i := by unfold lenAt; rw [if_pos (by omega)]; rfl
            have z3 := lnN_int HOK.out.right (i := i) (by omega)
            obtain ⟨b1, o1, rfl, hbl, q1⟩ := hl5.at_ hi
            have c2 := hr5.cellAt i (by omega)
            rw [us_at _ hi] at c2
            rw [z1, z2] at HCT
            rw [← z3.1] at q1
            clear hr5 hl5 hlen h0 h1
            by_cases hz : lnN l i = 0
            · have z4 : codeN l i = 0 := by unfold codeN; rw [if_pos (by omega)]
              rw [hz, z4] at HCT
              rw [hz] at q1
              clear z1 z2 z3 z4 hz c2
              go_wp2_with (go_at_call 12; refine HCT.out.mono ?_; rintro e _ ⟨rfl, q5, rfl⟩)
              go_ret
              exact ⟨rfl, below_drewN hB5 q5⟩
            · have hzz : ((lnN l i : Int) == 0) = false := by rw [beq_eq_false_iff_ne]; omega
              clear z1 z2 z3 hz
              generalize codeN l i = x at *
              generalize lnN l i = y at *
              go_wp2_with (go_at_call 12; refine HCT.out.mono ?_; rintro e _ ⟨rfl, q5, rfl⟩)
              go_ret
              exact ⟨rfl, below_drewN hB5 q5⟩
  · obtain ⟨x, hx⟩ : ∃ x, x = errC l n := ⟨_, rfl⟩
    have hcod := fun W h => Codes_no A n ca l W h herr
    have hnew := fun W h => New_no A n ca l W h herr
    have href := fun W h => RefCodes_c A n ca l W h
    rw [← hx] at hnew href herr hcod
    have HN := Lib.hid hnew
    have HF := Lib.hid href
    have HC := Lib.hid hcod
    have hne : ((x : Int) != 0) = true := by rw [bne_iff_ne]; omega
    have HX := Lib.hid herr
    clear hnew href hx herr hcod
    go_enter Try.func3, Try.ntmps3
    go_wp2_with (go_at_call 8; refine (alive10_c _).mono ?_; rintro e w1 ⟨rfl, hB1⟩)
    have hl1 := hl.below hB1
    refine (HC.out w1 hl1).mono ?_
    rintro e w2 ⟨rfl, hb2⟩
    have hB2 := hB1.trans (hb2.mono hB1.size)
    have hl2 := hl1.below hb2
    clear hb2 hl1 hB1
    go_wp2_with fail
    refine (HF.out w2 hl2).mono ?_
    rintro e w3 (⟨_, rfl, rfl⟩ | ⟨he, _⟩)
    · go_wp2
      go_loopw [41] (fun i wr => i = .int .i64 0 ∧ wr = w2) (fun i _ => 0)
      case atStart => exact ⟨rfl, rfl⟩
      case round =>
        obtain ⟨rfl, rfl⟩ := hrel
        go_wp2_with fail
        refine (HN.out _ hl2).mono ?_
        rintro e w4 ⟨rfl, hb4⟩
        have hB4 := hB2.trans (hb4.mono hB2.size)
        go_wp2
        go_ret
        exact ⟨rfl, hB4⟩
    · exact absurd he HX.out
end Go.Proofs.Ytanhgjaokgnlhaa
