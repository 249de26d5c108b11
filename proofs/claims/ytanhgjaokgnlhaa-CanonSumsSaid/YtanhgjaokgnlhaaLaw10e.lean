/-
  LAW 10's WALK: CanonSums: it returns true, and writes nothing that was there. No conditions.
-/
import Derived.Test.YtanhgjaokgnlhaaLaw10
import Derived.Test.YtanhgjaokgnlhaaCanD
import Derived.Lib.MinMax
namespace Go.Proofs.Ytanhgjaokgnlhaa
open Go.RowKit
set_option maxRecDepth 100000
set_option linter.unusedVariables false

theorem no_sym {l : List Int} {b : Nat → Bool} {a : Nat} (h : RightL l) (hk : kr l l.length = 32768) (hle : fK l l.length (mxL l l.length) + cN l l.length (mxL l l.length) ≤ cv b a (mxL l l.length)) : False := by
  have h1 := full_most h hk
  have h2 := cv_lt b a (mxL l l.length)
  omega
theorem pos_most {l : List Int} (h : RightL l) (hk : kr l l.length = 32768) : 1 ≤ mxL l l.length := by
  by_cases e : mxL l l.length = 0
  · have h1 := full_most h hk
    rw [e] at h1
    have h2 : fK l l.length 0 + cN l l.length 0 = 0 := rfl
    rw [h2] at h1
    cases h1
  · omega
set_option maxHeartbeats 4000000 in
theorem walk_CanonSums (w : World) (A : Option Addr) (n ca : Nat) (l : List Int) (hl : IRow w A n .i64 l) (B : Option Addr) (m cb : Nat) (bl : List F) (hb : RowIn w B m cb bl) :
    Calls Try.prog 7 #[.slice A n ca, .slice B m cb] w fun e w' => e = .returned (.bool true) ∧ Below w.heap.size w w' := by
  have hnm := hl.max'
  have hmm := hb.row.max
  by_cases h40 : (40 : Int) < (n : Int)
  · go_enter Try.func7, Try.ntmps7
    go_wp2_with (go_at_call 8; refine (alive10_c _).mono ?_; rintro e w1 ⟨rfl, hb1⟩)
    go_ret
    exact ⟨rfl, hb1⟩
  by_cases h30 : (30 : Int) < (m : Int)
  · go_enter Try.func7, Try.ntmps7
    go_wp2_with (go_at_call 8; refine (alive10_c _).mono ?_; rintro e w1 ⟨rfl, hb1⟩)
    go_ret
    exact ⟨rfl, hb1⟩
  have d1 : decide ((40 : Int) < (n : Int)) = false := decide_eq_false h40
  have d2 : decide ((30 : Int) < (m : Int)) = false := decide_eq_false h30
  have hn40 : n ≤ 40 := by omega
  have hm30 : m ≤ 30 := by omega
  by_cases herr : errC l n = 0
  · have HE := Lib.hid herr
    clear herr
    go_enter Try.func7, Try.ntmps7
    go_wp2_with (go_at_call 8; refine (alive10_c _).mono ?_; rintro e w1 ⟨rfl, hB1⟩)
    have hl1 := hl.below hB1
    refine (New_ok A n ca l w1 hl1 HE.out).mono ?_
    rintro e w2 ⟨p, gc, LA, lc, S, rfl, hT2, hb2⟩
    have hB2 := hB1.trans (hb2.mono hB1.size)
    have hl2 := hl1.below hb2
    have HRI : Hid (∀ i, i < n → 0 ≤ gi l i ∧ gi l i ≤ 15) := by have := hT2.ok.right; unfold RightL at this; rw [hT2.ok.len] at this; exact this
    have HOK := Lib.hid hT2.ok
    clear hb2 hl1 hB1
    go_wp2
    go_loopw [7, 8, 34] (fun u v i wr => ∃ k : Nat, k ≤ n ∧ i = .int .i64 k ∧ u = .int .i64 (usedL l k) ∧ v = .int .i64 (mxL l k) ∧ wr = w2) (fun _ _ i _ => n - (intOf i).toNat)
    case atStart => exact ⟨0, by omega, rfl, rfl, rfl, rfl⟩
    case round =>
      obtain ⟨k, hk, rfl, rfl, rfl, rfl⟩ := hrel
      by_cases hlt : k < n
      · have hkn : (k : Int) < n := by omega
        obtain ⟨b1, o1, rfl, _, q1⟩ := hl2.at_ hlt
        have hg := HRI.out k hlt
        obtain ⟨a, ha⟩ : ∃ a : Nat, gi l k = a := ⟨(gi l k).toNat, by omega⟩
        have hla : lnN l k = a := by unfold lnN; omega
        have hul := used_le l k
        rw [ha] at q1
        by_cases ha0 : 0 < a
        · have hai : (0 : Int) < (a : Int) := by omega
          have hs : Hid (usedL l (k + 1) = usedL l k + 1) := by unfold Hid; rw [usedL, if_pos (by omega)]
          have hx : Hid (mxL l (k + 1) = max (mxL l k) a) := by unfold Hid; rw [mxL, hla]
          generalize usedL l k = u at *
          generalize mxL l k = v at *
          clear ha hla hg
          go_wp2
          go_roundw
          case rel => exact ⟨k + 1, by omega, by go_num, by rw [hs.out]; go_num, by rw [hx.out]; exact congrArg _ (by omega), trivial⟩
          case measure => simp [intOf]; omega
        · obtain rfl : a = 0 := by omega
          have hs : Hid (usedL l (k + 1) = usedL l k) := by unfold Hid; rw [usedL, if_neg (by omega)]; rfl
          have hx : Hid (mxL l (k + 1) = mxL l k) := by unfold Hid; rw [mxL, hla]; omega
          clear ha hla hg
          go_wp2
          go_roundw
          case rel => exact ⟨k + 1, by omega, by go_num, by rw [hs.out], by rw [hx.out], trivial⟩
          case measure => simp [intOf]; omega
      · obtain rfl : k = n := by omega
        have hul := used_le l k
        have HU := Lib.hid (used_facts l HRI.out k (Nat.le_refl _))
        by_cases hu : usedL l k < 2
        · have hui : ((usedL l k : Nat) : Int) < 2 := by omega
          clear hu
          generalize usedL l k = u at *
          go_wp2
          go_ret
          exact ⟨rfl, hB2⟩
        · have hfull : Hid (kr l l.length = 32768) := by
            have h1 := HU.out.1
            have h2 := HOK.out.shut
            unfold Hid
            rw [HOK.out.len]
            omega
          have hui : ¬ ((usedL l k : Nat) : Int) < 2 := by omega
          obtain ⟨M, hM⟩ : ∃ M, M = mxL l k := ⟨_, rfl⟩
          have HM := Lib.hid hM
          rw [← hM]
          clear hu hM
          generalize usedL l k = u at *
          have hrow2 := (hb.below hB2).row
          go_wp2_with fail
          refine (ReadB_c B m cb bl _ hrow2 (by omega)).mono ?_
          rintro e w3 ⟨r, RA, rc, rfl, hR3, hr3, hb3⟩
          have hT3 := hT2.below hb3
          have hfar := hT2.far hr3
          have hB3 := hB2.trans (hb3.mono hB2.size)
          have hlow : w.heap.size ≤ r := Nat.le_trans hB2.size hr3
          clear hb3 hT2 hl2 hrow2 hB2
          go_wp2
          go_loopw [58] (fun i wr => ∃ j a : Nat, j ≤ a ∧ a ≤ 8 * m ∧ i = .int .i64 j ∧ TabIn wr p k l gc LA lc S ∧ RdB wr r RA m rc bl a ∧ Below w.heap.size w wr) (fun i _ => 8 * m + 1 - (intOf i).toNat)
          case atStart => exact ⟨0, 0, by omega, by omega, rfl, hT3, hR3, hB3⟩
          case round =>
            clear hT3 hR3 hB3
            obtain ⟨j, a, hja, ham, rfl, hT, hR, hB⟩ := hrel
            have hjm : (j : Int) < 8 * (m : Int) + 1 := by omega
            go_wp2_with (go_at_call 17; refine (AtB_c hR).mono ?_; rintro e _ ⟨rfl, rfl⟩)
            refine (ReadT_c hT hR hfar).mono ?_
            rintro e w5 ⟨s, q, er, rfl, hrd, hR5, hO5⟩
            have hT5 := hT.out hfar hO5
            have hB5 := hB.trans (hO5.lowAt hlow hR.lt)
            have hle := hR5.le
            clear hT hR hB hO5
            obtain ⟨hno, hrd⟩ := hrd
            have HNO := Lib.hid hno
            clear hno
            rcases hrd with ⟨rfl, hq1, hq2, hs, hsq, hcv⟩ | ⟨rfl, rfl, hq1, hq2, hq3⟩ | ⟨rfl, rfl, hq1, hq2, hq3⟩
            · have z1 : lenAt l (s : Int) = q := by
                unfold lenAt
                rw [if_pos (by omega)]
                unfold lnN
                rw [show ((s : Int)).toNat = s by omega, hsq]
                omega
              have HCT := Lib.hid (CodeT_c hT5 (s : Int))
              rw [z1] at HCT
              have HRq := fun x => Lib.hid (AtB_c (hR5.drewN x))
              have hqz : ((q : Int) == 0) = false := by rw [beq_eq_false_iff_ne]; omega
              clear z1 hs hsq hcv
              go_wp2_with (first
                | (go_at_call 12; refine HCT.out.mono ?_; rintro e _ ⟨rfl, x5, rfl⟩)
                | (go_at_call 17; refine (HRq _).out.mono ?_; rintro e _ ⟨rfl, rfl⟩))
              go_roundw
              case rel => exact ⟨j + 1, a + q, by omega, by omega, by go_num, hT5.drewN x5, hR5.drewN x5, below_drewN hB5 x5⟩
              case measure => simp [intOf]; omega
            · have hqM : Hid ((8 * (m : Int)) - (a : Int) < (M : Int)) := by
                unfold Hid
                have := HM.out
                have := HOK.out.len
                rw [this] at hq1
                omega
              have hqd : decide ((8 * (m : Int)) - (a : Int) < (M : Int)) = true := decide_eq_true hqM.out
              have hwr : IntKind.i64.wrap (8 * (m : Int) - (a : Int)) = 8 * (m : Int) - (a : Int) := IntWalk.i64_in _ (by omega)
              clear hq1 hq3 hqM
              go_wp2
              go_ret
              exact ⟨rfl, hB5⟩
            · exfalso
              have h1 : 1 ≤ mxL l l.length := pos_most HOK.out.right hfull.out
              subst hq1
              exact no_sym HOK.out.right hfull.out (hq3 h1)
  · obtain ⟨x, hx⟩ : ∃ x, x = errC l n := ⟨_, rfl⟩
    have hnew := fun W h => New_no A n ca l W h herr
    rw [← hx] at hnew herr
    have HN := Lib.hid hnew
    have hne : ((x : Int) != 0) = true := by rw [bne_iff_ne]; omega
    clear hnew hx herr
    go_enter Try.func7, Try.ntmps7
    go_wp2_with (go_at_call 8; refine (alive10_c _).mono ?_; rintro e w1 ⟨rfl, hB1⟩)
    have hl1 := hl.below hB1
    refine (HN.out w1 hl1).mono ?_
    rintro e w2 ⟨rfl, hb2⟩
    have hB2 := hB1.trans (hb2.mono hB1.size)
    have hl2 := hl1.below hb2
    clear hb2 hl1 hB1
    go_wp2
    go_loopw [7, 8, 34] (fun u v i wr => ∃ (k c : Nat) (z : Int), k ≤ n ∧ c ≤ k ∧ i = .int .i64 k ∧ u = .int .i64 c ∧ v = .int .i64 z ∧ Hid (wr = w2)) (fun _ _ i _ => n - (intOf i).toNat)
    case atStart => exact ⟨0, 0, 0, by omega, by omega, rfl, rfl, rfl, rfl⟩
    case round =>
      obtain ⟨k, c, z, hk, hc, rfl, rfl, rfl, hw⟩ := hrel
      by_cases hlt : k < n
      · have hkn : (k : Int) < n := by omega
        have hl3 : IRow wr A n .i64 l := by rw [hw.out]; exact hl2
        obtain ⟨b1, o1, rfl, _, q1⟩ := hl3.at_ hlt
        generalize gi l k = y at *
        clear hl3
        by_cases hy : 0 < y
        · go_wp2
          go_roundw
          case rel => exact ⟨k + 1, c + 1, _, by omega, by omega, by go_num, by go_num, rfl, hw⟩
          case measure => simp [intOf]; omega
        · go_wp2
          go_roundw
          case rel => exact ⟨k + 1, c, z, by omega, by omega, by go_num, rfl, rfl, hw⟩
          case measure => simp [intOf]; omega
      · obtain rfl : k = n := by omega
        go_wp2
        go_ret
        exact ⟨rfl, by rw [hw.out]; exact hB2⟩
end Go.Proofs.Ytanhgjaokgnlhaa
