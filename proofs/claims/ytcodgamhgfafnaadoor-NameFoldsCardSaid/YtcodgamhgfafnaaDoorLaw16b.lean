/-
  LAW 16: NameChecks, as a walk. No conditions. (WRITTEN by wip/gen16x.py.)
-/
import Derived.Test.YtcodgamhgfafnaaDoorLaw16
namespace Go.Proofs.YtcodgamhgfafnaaDoor
open Go.RowKit Go.Shelf
set_option maxRecDepth 1000000
set_option linter.unusedVariables false

theorem of_S (s : ByteArray) : ∃ l : List UInt8, s = S l := ⟨s.data.toList, (S_of s).symm⟩
/-- one within another: by the byte behind it -/
theorem preB_slash (a d : List UInt8) : preB a (d ++ [47]) = (decide (d.length < a.length) && (a.take d.length == d && decide (gb a d.length = 47))) := by
  unfold preB
  rw [List.length_append, List.length_singleton]
  by_cases h : d.length + 1 ≤ a.length
  · have h2 : d.length < a.length := by omega
    rw [decide_eq_true h, decide_eq_true h2, Bool.true_and, Bool.true_and, List.take_succ_eq_append_getElem h2]
    rw [Bool.eq_iff_iff, Bool.and_eq_true, beq_iff_eq, beq_iff_eq, decide_eq_true_iff]
    have hl : (a.take d.length).length = d.length := by rw [List.length_take]; omega
    have hg : gb a d.length = (a[d.length]).toNat := by unfold gb; rw [List.getD_eq_getElem?_getD, List.getElem?_eq_getElem h2]; rfl
    constructor
    · intro e
      obtain ⟨e1, e2⟩ := List.append_inj e hl
      refine ⟨e1, ?_⟩
      injection e2 with e2
      rw [hg, e2]
      rfl
    · rintro ⟨e1, e2⟩
      rw [e1]
      congr 2
      apply UInt8.toNat_inj.1
      rw [← hg, e2]
      rfl
  · rw [decide_eq_false h, decide_eq_false (by omega), Bool.false_and, Bool.false_and]

theorem belW {w0 w w' : World} (h : Below w0.heap.size w0 w) (hb : Below w.heap.size w w') : Below w.heap.size w w' := hb
theorem ptsF_len (l : List UInt8) : (ptsF l).length ≤ l.length + 1 := by
  unfold ptsF
  split
  · exact spl_len l
  · simp
set_option maxHeartbeats 4000000 in
theorem walk_NameChecks (w : World) (_ : True) (s0 : ByteArray) (_ : s0.size ≤ maxLen) (d0 : ByteArray) (_ : d0.size ≤ maxLen) :
    Calls Tryd.prog 3 #[.string s0, .string d0] w fun e w' => e = .returned (.bool true) ∧ Below w.heap.size w w' := by
  obtain ⟨l, rfl⟩ := of_S s0
  obtain ⟨d, rfl⟩ := of_S d0
  have z1 := S_size l
  have z2 := S_size d
  by_cases hl : 300 < l.length
  · generalize S l = s at *
    generalize S d = t at *
    go_enter Tryd.func3, Tryd.ntmps3
    go_wp2_with fail
    refine (alive16_c _).mono ?_
    rintro e w1 ⟨rfl, hb⟩
    go_wp2
    go_ret
    exact ⟨rfl, hb⟩
  by_cases hd : 300 < d.length
  · generalize S l = s at *
    generalize S d = t at *
    go_enter Tryd.func3, Tryd.ntmps3
    go_wp2_with fail
    refine (alive16_c _).mono ?_
    rintro e w1 ⟨rfl, hb⟩
    go_wp2
    go_ret
    exact ⟨rfl, hb⟩
  have HCK := Lib.hid (fun W => Check_c l (by omega) W)
  have HRC := Lib.hid (fun W => RCheck_c l (by omega) W)
  have HRD := Lib.hid (fun W => RCheck_c d (by omega) W)
  have HRP := Lib.hid (fun W => RParts_c l (by omega) W)
  have HPT := Lib.hid (fun W => Parts_c l (by omega) W)
  have HPL : Hid ((ptsF l).length ≤ 1000) := by have := ptsF_len l; unfold Hid; omega
  have HRU := Lib.hid (fun W => Runes_c l (by omega) W)
  have HRR := Lib.hid (fun W => RRunes_c l (by omega) W)
  have HFO := Lib.hid (fun W => Fold_c l (by omega) W)
  have HRF := Lib.hid (fun W => RFold_c l (by omega) W)
  have HUN := Lib.hid (fun W => Under_c l d (by omega) (by omega) W)
  have HTK : Hid (d.length ≤ l.length → (S l).extract 0 d.length = S (l.take d.length)) := fun h => by rw [S_extract _ _ _ h, List.drop_zero]
  have HBY := Lib.hid (byte_S l d.length)
  have hts := toList_S2 d
  have htt := toList_S2 (l.take d.length)
  have HPS := Lib.hid (preB_slash l d)
  generalize S (l.take d.length) = pv at *
  generalize S (fol l) = fv at *
  generalize S l = s at *
  generalize S d = t at *
  cases hnk : nok l with
  | false =>
    have hz := nokE_no hnk
    have hun : undB l d = false := by unfold undB; rw [hnk]; rfl
    have hpt : Hid (ptsF l = []) := if_neg (by rw [hnk]; decide)
    rw [hz] at HCK HRC
    rw [hun] at HUN
    clear hz hnk hun
    go_enter Tryd.func3, Tryd.ntmps3
    go_wp2_with fail
    refine (alive16_c _).mono ?_
    rintro e w1 ⟨rfl, hb⟩
    have B1 := Lib.hid hb
    clear hb
    go_wp2_with fail
    refine (HRC.out w1).mono ?_
    rintro e w2 ⟨rfl, hb⟩
    have B2 := Lib.hid (B1.out.trans (hb.mono B1.out.size))
    clear hb
    go_wp2_with fail
    have B3 : Hid (Below w.heap.size w (w2.alloc (.cells #[] 9))) := B2.out.alloc B2.out.size _
    have SM : Hid (SRow (w2.alloc (.cells #[] 9)) (some ⟨w2.heap.size, 0, none⟩) 0 (ptsF l)) := ⟨by rw [hpt.out]; rfl, fun h => by omega⟩
    generalize w2.alloc (.cells #[] 9) = w3 at *
    refine (HCK.out w3).mono ?_
    rintro e w4 ⟨rfl, hb⟩
    have B4 := Lib.hid (B3.out.trans (hb.mono B3.out.size))
    have S1 := Lib.hid (SM.out.below hb)
    clear hb
    go_wp2_with fail
    refine (HPT.out w4).mono ?_
    rintro e w5 ⟨A5, n5, c5, rfl, hown5, hb⟩
    have B5 := Lib.hid (B4.out.trans (hb.mono B4.out.size))
    have S5 := Lib.hid (SRow.of_own hown5)
    have S6 := Lib.hid (S1.out.below hb)
    have hn5 : n5 ≤ 1000000 := by have h8 := S5.out.len; have h9 := HPL.out; omega
    clear hb hown5
    go_wp2_with fail
    refine (SameS_c A5 _ n5 _ c5 _ (ptsF l) (ptsF l) w5 S5.out S6.out hn5).mono ?_
    rw [decide_eq_true rfl]
    rintro e w6 ⟨rfl, hb⟩
    have B6 := Lib.hid (B5.out.trans (hb.mono B5.out.size))
    clear hb
    go_wp2_with fail
    refine (HRU.out w6).mono ?_
    rintro e w7 ⟨rfl, hb⟩
    have B7 := Lib.hid (B6.out.trans (hb.mono B6.out.size))
    clear hb
    go_wp2_with fail
    refine (HRR.out w7).mono ?_
    rintro e w8 ⟨rfl, rfl⟩
    go_wp2_with fail
    refine (HFO.out w7).mono ?_
    rintro e w9 ⟨rfl, hb⟩
    have B9 := Lib.hid (B7.out.trans (hb.mono B7.out.size))
    clear hb
    go_wp2_with fail
    refine (HRF.out w9).mono ?_
    rintro e w10 ⟨rfl, hb⟩
    have B10 := Lib.hid (B9.out.trans (hb.mono B9.out.size))
    clear hb
    go_wp2_with fail
    refine (HUN.out w10).mono ?_
    rintro e w11 ⟨rfl, hb⟩
    have B11 := Lib.hid (B10.out.trans (hb.mono B10.out.size))
    clear hb
    go_wp2
    go_ret
    exact ⟨rfl, B11.out⟩
  | true =>
    have hz := nokE_ok hnk
    have hpt : Hid (ptsF l = spl l) := if_pos hnk
    have HUD : Hid (undB l d = (nok d && preB l (d ++ [47]))) := by unfold Hid undB; rw [hnk, Bool.true_and]
    have HHZ := Lib.hid hnk
    rw [hz] at HCK HRC
    clear hz hnk
    cases hnd : nok d with
    | false =>
      have hzd := nokE_no hnd
      have hun : undB l d = false := by rw [HUD.out, hnd]; rfl
      rw [hzd] at HRD
      rw [hun] at HUN
      clear hzd hun hnd
      go_enter Tryd.func3, Tryd.ntmps3
      go_wp2_with fail
      refine (alive16_c _).mono ?_
      rintro e w1 ⟨rfl, hb⟩
      have B1 := Lib.hid hb
      clear hb
      go_wp2_with fail
      refine (HRC.out w1).mono ?_
      rintro e w2 ⟨rfl, hb⟩
      have B2 := Lib.hid (B1.out.trans (hb.mono B1.out.size))
      clear hb
      go_wp2_with fail
      have B3 : Hid (Below w.heap.size w (w2.alloc (.cells #[] 9))) := B2.out.alloc B2.out.size _
      generalize w2.alloc (.cells #[] 9) = w3 at *
      refine (HRP.out w3).mono ?_
      rintro e w4 ⟨g6, n6, c6, rfl, hown6, hb⟩
      have B4 := Lib.hid (B3.out.trans (hb.mono B3.out.size))
      rw [← hpt.out] at hown6
      have SM0 := Lib.hid (SRow.of_own hown6)
      clear hb hown6
      go_wp2_with fail
      refine (HRD.out w4).mono ?_
      rintro e w5 ⟨rfl, hb⟩
      have B5 := Lib.hid (B4.out.trans (hb.mono B4.out.size))
      have SM := Lib.hid (SM0.out.below hb)
      clear hb
      go_wp2_with fail
      refine (HCK.out w5).mono ?_
      rintro e w6 ⟨rfl, hb⟩
      have B6 := Lib.hid (B5.out.trans (hb.mono B5.out.size))
      have S1 := Lib.hid (SM.out.below hb)
      clear hb
      go_wp2_with fail
      refine (HPT.out w6).mono ?_
      rintro e w7 ⟨A5, n5, c5, rfl, hown5, hb⟩
      have B7 := Lib.hid (B6.out.trans (hb.mono B6.out.size))
      have S5 := Lib.hid (SRow.of_own hown5)
      have S6 := Lib.hid (S1.out.below hb)
      have hn5 : n5 ≤ 1000000 := by have h8 := S5.out.len; have h9 := HPL.out; omega
      clear hb hown5
      go_wp2_with fail
      refine (SameS_c A5 _ n5 _ c5 _ (ptsF l) (ptsF l) w7 S5.out S6.out hn5).mono ?_
      rw [decide_eq_true rfl]
      rintro e w8 ⟨rfl, hb⟩
      have B8 := Lib.hid (B7.out.trans (hb.mono B7.out.size))
      clear hb
      go_wp2_with fail
      refine (HRU.out w8).mono ?_
      rintro e w9 ⟨rfl, hb⟩
      have B9 := Lib.hid (B8.out.trans (hb.mono B8.out.size))
      clear hb
      go_wp2_with fail
      refine (HRR.out w9).mono ?_
      rintro e w10 ⟨rfl, rfl⟩
      go_wp2_with fail
      refine (HFO.out w9).mono ?_
      rintro e w11 ⟨rfl, hb⟩
      have B11 := Lib.hid (B9.out.trans (hb.mono B9.out.size))
      clear hb
      go_wp2_with fail
      refine (HRF.out w11).mono ?_
      rintro e w12 ⟨rfl, hb⟩
      have B12 := Lib.hid (B11.out.trans (hb.mono B11.out.size))
      clear hb
      go_wp2_with fail
      refine (HUN.out w12).mono ?_
      rintro e w13 ⟨rfl, hb⟩
      have B13 := Lib.hid (B12.out.trans (hb.mono B12.out.size))
      clear hb
      go_wp2
      go_ret
      exact ⟨rfl, B13.out⟩
    | true =>
      have hzd := nokE_ok hnd
      rw [hzd] at HRD
      have hun : Hid (undB l d = (decide (d.length < l.length) && (l.take d.length == d && decide (gb l d.length = 47)))) := by unfold Hid; rw [HUD.out, hnd, Bool.true_and, HPS.out]
      clear hzd hnd
      by_cases hlt : d.length < l.length
      · have htk := HTK.out (by omega)
        rw [decide_eq_true hlt, Bool.true_and] at hun
        cases hpq : (l.take d.length == d) with
        | false =>
          rw [hpq, Bool.false_and] at hun
          rw [hun.out] at HUN
          go_enter Tryd.func3, Tryd.ntmps3
          go_wp2_with fail
          refine (alive16_c _).mono ?_
          rintro e w1 ⟨rfl, hb⟩
          have B1 := Lib.hid hb
          clear hb
          go_wp2_with fail
          refine (HRC.out w1).mono ?_
          rintro e w2 ⟨rfl, hb⟩
          have B2 := Lib.hid (B1.out.trans (hb.mono B1.out.size))
          clear hb
          go_wp2_with fail
          have B3 : Hid (Below w.heap.size w (w2.alloc (.cells #[] 9))) := B2.out.alloc B2.out.size _
          generalize w2.alloc (.cells #[] 9) = w3 at *
          refine (HRP.out w3).mono ?_
          rintro e w4 ⟨g6, n6, c6, rfl, hown6, hb⟩
          have B4 := Lib.hid (B3.out.trans (hb.mono B3.out.size))
          rw [← hpt.out] at hown6
          have SM0 := Lib.hid (SRow.of_own hown6)
          clear hb hown6
          go_wp2_with fail
          refine (HRD.out w4).mono ?_
          rintro e w5 ⟨rfl, hb⟩
          have B5 := Lib.hid (B4.out.trans (hb.mono B4.out.size))
          have SM := Lib.hid (SM0.out.below hb)
          clear hb
          go_wp2_with fail
          refine (HCK.out w5).mono ?_
          rintro e w6 ⟨rfl, hb⟩
          have B6 := Lib.hid (B5.out.trans (hb.mono B5.out.size))
          have S1 := Lib.hid (SM.out.below hb)
          clear hb
          go_wp2_with fail
          refine (HPT.out w6).mono ?_
          rintro e w7 ⟨A5, n5, c5, rfl, hown5, hb⟩
          have B7 := Lib.hid (B6.out.trans (hb.mono B6.out.size))
          have S5 := Lib.hid (SRow.of_own hown5)
          have S6 := Lib.hid (S1.out.below hb)
          have hn5 : n5 ≤ 1000000 := by have h8 := S5.out.len; have h9 := HPL.out; omega
          clear hb hown5
          go_wp2_with fail
          refine (SameS_c A5 _ n5 _ c5 _ (ptsF l) (ptsF l) w7 S5.out S6.out hn5).mono ?_
          rw [decide_eq_true rfl]
          rintro e w8 ⟨rfl, hb⟩
          have B8 := Lib.hid (B7.out.trans (hb.mono B7.out.size))
          clear hb
          go_wp2_with fail
          refine (HRU.out w8).mono ?_
          rintro e w9 ⟨rfl, hb⟩
          have B9 := Lib.hid (B8.out.trans (hb.mono B8.out.size))
          clear hb
          go_wp2_with fail
          refine (HRR.out w9).mono ?_
          rintro e w10 ⟨rfl, rfl⟩
          go_wp2_with fail
          refine (HFO.out w9).mono ?_
          rintro e w11 ⟨rfl, hb⟩
          have B11 := Lib.hid (B9.out.trans (hb.mono B9.out.size))
          clear hb
          go_wp2_with fail
          refine (HRF.out w11).mono ?_
          rintro e w12 ⟨rfl, hb⟩
          have B12 := Lib.hid (B11.out.trans (hb.mono B11.out.size))
          clear hb
          go_wp2_with fail
          refine (HUN.out w12).mono ?_
          rintro e w13 ⟨rfl, hb⟩
          have B13 := Lib.hid (B12.out.trans (hb.mono B12.out.size))
          clear hb
          go_wp2
          go_ret
          exact ⟨rfl, B13.out⟩
        | true =>
          rw [hpq, Bool.true_and] at hun
          obtain ⟨x, hx⟩ : ∃ x, x = gb l d.length := ⟨_, rfl⟩
          rw [← hx] at HBY hun
          have hby := HBY.out
          clear hx
          by_cases hx47 : x = 47
          · rw [decide_eq_true hx47] at hun
            rw [hun.out] at HUN
            have hxb : ((x : Int) == 47) = true := by rw [beq_iff_eq]; omega
            clear hx47
            go_enter Tryd.func3, Tryd.ntmps3
            go_wp2_with fail
            refine (alive16_c _).mono ?_
            rintro e w1 ⟨rfl, hb⟩
            have B1 := Lib.hid hb
            clear hb
            go_wp2_with fail
            refine (HRC.out w1).mono ?_
            rintro e w2 ⟨rfl, hb⟩
            have B2 := Lib.hid (B1.out.trans (hb.mono B1.out.size))
            clear hb
            go_wp2_with fail
            have B3 : Hid (Below w.heap.size w (w2.alloc (.cells #[] 9))) := B2.out.alloc B2.out.size _
            generalize w2.alloc (.cells #[] 9) = w3 at *
            refine (HRP.out w3).mono ?_
            rintro e w4 ⟨g6, n6, c6, rfl, hown6, hb⟩
            have B4 := Lib.hid (B3.out.trans (hb.mono B3.out.size))
            rw [← hpt.out] at hown6
            have SM0 := Lib.hid (SRow.of_own hown6)
            clear hb hown6
            go_wp2_with fail
            refine (HRD.out w4).mono ?_
            rintro e w5 ⟨rfl, hb⟩
            have B5 := Lib.hid (B4.out.trans (hb.mono B4.out.size))
            have SM := Lib.hid (SM0.out.below hb)
            clear hb
            go_wp2_with fail
            refine (HCK.out w5).mono ?_
            rintro e w6 ⟨rfl, hb⟩
            have B6 := Lib.hid (B5.out.trans (hb.mono B5.out.size))
            have S1 := Lib.hid (SM.out.below hb)
            clear hb
            go_wp2_with fail
            refine (HPT.out w6).mono ?_
            rintro e w7 ⟨A5, n5, c5, rfl, hown5, hb⟩
            have B7 := Lib.hid (B6.out.trans (hb.mono B6.out.size))
            have S5 := Lib.hid (SRow.of_own hown5)
            have S6 := Lib.hid (S1.out.below hb)
            have hn5 : n5 ≤ 1000000 := by have h8 := S5.out.len; have h9 := HPL.out; omega
            clear hb hown5
            go_wp2_with fail
            refine (SameS_c A5 _ n5 _ c5 _ (ptsF l) (ptsF l) w7 S5.out S6.out hn5).mono ?_
            rw [decide_eq_true rfl]
            rintro e w8 ⟨rfl, hb⟩
            have B8 := Lib.hid (B7.out.trans (hb.mono B7.out.size))
            clear hb
            go_wp2_with fail
            refine (HRU.out w8).mono ?_
            rintro e w9 ⟨rfl, hb⟩
            have B9 := Lib.hid (B8.out.trans (hb.mono B8.out.size))
            clear hb
            go_wp2_with fail
            refine (HRR.out w9).mono ?_
            rintro e w10 ⟨rfl, rfl⟩
            go_wp2_with fail
            refine (HFO.out w9).mono ?_
            rintro e w11 ⟨rfl, hb⟩
            have B11 := Lib.hid (B9.out.trans (hb.mono B9.out.size))
            clear hb
            go_wp2_with fail
            refine (HRF.out w11).mono ?_
            rintro e w12 ⟨rfl, hb⟩
            have B12 := Lib.hid (B11.out.trans (hb.mono B11.out.size))
            clear hb
            go_wp2_with fail
            refine (HUN.out w12).mono ?_
            rintro e w13 ⟨rfl, hb⟩
            have B13 := Lib.hid (B12.out.trans (hb.mono B12.out.size))
            clear hb
            go_wp2
            go_ret
            exact ⟨rfl, B13.out⟩
          · rw [decide_eq_false hx47] at hun
            rw [hun.out] at HUN
            have hxb : ((x : Int) == 47) = false := by rw [beq_eq_false_iff_ne]; omega
            clear hx47
            go_enter Tryd.func3, Tryd.ntmps3
            go_wp2_with fail
            refine (alive16_c _).mono ?_
            rintro e w1 ⟨rfl, hb⟩
            have B1 := Lib.hid hb
            clear hb
            go_wp2_with fail
            refine (HRC.out w1).mono ?_
            rintro e w2 ⟨rfl, hb⟩
            have B2 := Lib.hid (B1.out.trans (hb.mono B1.out.size))
            clear hb
            go_wp2_with fail
            have B3 : Hid (Below w.heap.size w (w2.alloc (.cells #[] 9))) := B2.out.alloc B2.out.size _
            generalize w2.alloc (.cells #[] 9) = w3 at *
            refine (HRP.out w3).mono ?_
            rintro e w4 ⟨g6, n6, c6, rfl, hown6, hb⟩
            have B4 := Lib.hid (B3.out.trans (hb.mono B3.out.size))
            rw [← hpt.out] at hown6
            have SM0 := Lib.hid (SRow.of_own hown6)
            clear hb hown6
            go_wp2_with fail
            refine (HRD.out w4).mono ?_
            rintro e w5 ⟨rfl, hb⟩
            have B5 := Lib.hid (B4.out.trans (hb.mono B4.out.size))
            have SM := Lib.hid (SM0.out.below hb)
            clear hb
            go_wp2_with fail
            refine (HCK.out w5).mono ?_
            rintro e w6 ⟨rfl, hb⟩
            have B6 := Lib.hid (B5.out.trans (hb.mono B5.out.size))
            have S1 := Lib.hid (SM.out.below hb)
            clear hb
            go_wp2_with fail
            refine (HPT.out w6).mono ?_
            rintro e w7 ⟨A5, n5, c5, rfl, hown5, hb⟩
            have B7 := Lib.hid (B6.out.trans (hb.mono B6.out.size))
            have S5 := Lib.hid (SRow.of_own hown5)
            have S6 := Lib.hid (S1.out.below hb)
            have hn5 : n5 ≤ 1000000 := by have h8 := S5.out.len; have h9 := HPL.out; omega
            clear hb hown5
            go_wp2_with fail
            refine (SameS_c A5 _ n5 _ c5 _ (ptsF l) (ptsF l) w7 S5.out S6.out hn5).mono ?_
            rw [decide_eq_true rfl]
            rintro e w8 ⟨rfl, hb⟩
            have B8 := Lib.hid (B7.out.trans (hb.mono B7.out.size))
            clear hb
            go_wp2_with fail
            refine (HRU.out w8).mono ?_
            rintro e w9 ⟨rfl, hb⟩
            have B9 := Lib.hid (B8.out.trans (hb.mono B8.out.size))
            clear hb
            go_wp2_with fail
            refine (HRR.out w9).mono ?_
            rintro e w10 ⟨rfl, rfl⟩
            go_wp2_with fail
            refine (HFO.out w9).mono ?_
            rintro e w11 ⟨rfl, hb⟩
            have B11 := Lib.hid (B9.out.trans (hb.mono B9.out.size))
            clear hb
            go_wp2_with fail
            refine (HRF.out w11).mono ?_
            rintro e w12 ⟨rfl, hb⟩
            have B12 := Lib.hid (B11.out.trans (hb.mono B11.out.size))
            clear hb
            go_wp2_with fail
            refine (HUN.out w12).mono ?_
            rintro e w13 ⟨rfl, hb⟩
            have B13 := Lib.hid (B12.out.trans (hb.mono B12.out.size))
            clear hb
            go_wp2
            go_ret
            exact ⟨rfl, B13.out⟩
      · rw [decide_eq_false hlt, Bool.false_and] at hun
        rw [hun.out] at HUN
        go_enter Tryd.func3, Tryd.ntmps3
        go_wp2_with fail
        refine (alive16_c _).mono ?_
        rintro e w1 ⟨rfl, hb⟩
        have B1 := Lib.hid hb
        clear hb
        go_wp2_with fail
        refine (HRC.out w1).mono ?_
        rintro e w2 ⟨rfl, hb⟩
        have B2 := Lib.hid (B1.out.trans (hb.mono B1.out.size))
        clear hb
        go_wp2_with fail
        have B3 : Hid (Below w.heap.size w (w2.alloc (.cells #[] 9))) := B2.out.alloc B2.out.size _
        generalize w2.alloc (.cells #[] 9) = w3 at *
        refine (HRP.out w3).mono ?_
        rintro e w4 ⟨g6, n6, c6, rfl, hown6, hb⟩
        have B4 := Lib.hid (B3.out.trans (hb.mono B3.out.size))
        rw [← hpt.out] at hown6
        have SM0 := Lib.hid (SRow.of_own hown6)
        clear hb hown6
        go_wp2_with fail
        refine (HRD.out w4).mono ?_
        rintro e w5 ⟨rfl, hb⟩
        have B5 := Lib.hid (B4.out.trans (hb.mono B4.out.size))
        have SM := Lib.hid (SM0.out.below hb)
        clear hb
        go_wp2_with fail
        refine (HCK.out w5).mono ?_
        rintro e w6 ⟨rfl, hb⟩
        have B6 := Lib.hid (B5.out.trans (hb.mono B5.out.size))
        have S1 := Lib.hid (SM.out.below hb)
        clear hb
        go_wp2_with fail
        refine (HPT.out w6).mono ?_
        rintro e w7 ⟨A5, n5, c5, rfl, hown5, hb⟩
        have B7 := Lib.hid (B6.out.trans (hb.mono B6.out.size))
        have S5 := Lib.hid (SRow.of_own hown5)
        have S6 := Lib.hid (S1.out.below hb)
        have hn5 : n5 ≤ 1000000 := by have h8 := S5.out.len; have h9 := HPL.out; omega
        clear hb hown5
        go_wp2_with fail
        refine (SameS_c A5 _ n5 _ c5 _ (ptsF l) (ptsF l) w7 S5.out S6.out hn5).mono ?_
        rw [decide_eq_true rfl]
        rintro e w8 ⟨rfl, hb⟩
        have B8 := Lib.hid (B7.out.trans (hb.mono B7.out.size))
        clear hb
        go_wp2_with fail
        refine (HRU.out w8).mono ?_
        rintro e w9 ⟨rfl, hb⟩
        have B9 := Lib.hid (B8.out.trans (hb.mono B8.out.size))
        clear hb
        go_wp2_with fail
        refine (HRR.out w9).mono ?_
        rintro e w10 ⟨rfl, rfl⟩
        go_wp2_with fail
        refine (HFO.out w9).mono ?_
        rintro e w11 ⟨rfl, hb⟩
        have B11 := Lib.hid (B9.out.trans (hb.mono B9.out.size))
        clear hb
        go_wp2_with fail
        refine (HRF.out w11).mono ?_
        rintro e w12 ⟨rfl, hb⟩
        have B12 := Lib.hid (B11.out.trans (hb.mono B11.out.size))
        clear hb
        go_wp2_with fail
        refine (HUN.out w12).mono ?_
        rintro e w13 ⟨rfl, hb⟩
        have B13 := Lib.hid (B12.out.trans (hb.mono B12.out.size))
        clear hb
        go_wp2
        go_ret
        exact ⟨rfl, B13.out⟩
end Go.Proofs.YtcodgamhgfafnaaDoor
