/-
  LAW 16: NameJoins, as a walk. No conditions. (WRITTEN by wip/gen16j.py.)
-/
import Derived.Test.YtcodgamhgfafnaaDoorLaw16c
namespace Go.Proofs.YtcodgamhgfafnaaDoor
open Go.RowKit Go.Shelf
set_option maxRecDepth 1000000
set_option linter.unusedVariables false

theorem tw_join {a b : List UInt8} : TwS [a, a ++ [47] ++ b, a] 2 := ⟨.inr ⟨2, by show 2 < 3; omega, rfl, by simp, fun j hj => by
  rcases (by omega : j = 0 ∨ j = 1) with rfl | rfl
  · simp
  · intro h
    simp at h⟩⟩
theorem joined_eq (a b : List UInt8) : a ++ [47] ++ b = a ++ 47 :: b := by simp
theorem ptsF_count {l : List UInt8} (h : nok l = true) : (ptsF l).length = (spl l).length := by unfold ptsF; rw [if_pos h]
theorem partsN {l : List UInt8} (hl : l.length ≤ 1000000) (h : nok l = true) {m : Nat} (hm : (spl l).length = m) (w : World) :
    Calls Tryd.prog 13 #[.string (S l)] w fun e w' => ∃ A c, e = .returned (.slice A m c) ∧ Below w.heap.size w w' := by
  refine (Parts_c l hl w).mono ?_
  rintro e w' ⟨A, n, c, rfl, hown, hb⟩
  have h1 := (SRow.of_own hown).len
  rw [ptsF_count h, hm] at h1
  subst h1
  exact ⟨A, c, rfl, hb⟩
set_option maxHeartbeats 4000000 in
theorem walk_NameJoins (w : World) (_ : True) (s0 : ByteArray) (_ : s0.size ≤ maxLen) (t0 : ByteArray) (_ : t0.size ≤ maxLen) :
    Calls Tryd.prog 6 #[.string s0, .string t0] w fun e w' => e = .returned (.bool true) ∧ Below w.heap.size w w' := by
  obtain ⟨a, rfl⟩ := of_S s0
  obtain ⟨b, rfl⟩ := of_S t0
  have z1 := S_size a
  have z2 := S_size b
  by_cases hl : 300 < a.length
  · generalize S a = sa at *
    generalize S b = sb at *
    go_enter Tryd.func6, Tryd.ntmps6
    go_wp2_with fail
    refine (alive16_c _).mono ?_
    rintro e w1 ⟨rfl, hb⟩
    have B1 := Lib.hid hb
    clear hb
    go_wp2
    go_ret
    exact ⟨rfl, B1.out⟩
  by_cases hd : 300 < b.length
  · generalize S a = sa at *
    generalize S b = sb at *
    go_enter Tryd.func6, Tryd.ntmps6
    go_wp2_with fail
    refine (alive16_c _).mono ?_
    rintro e w1 ⟨rfl, hb⟩
    have B1 := Lib.hid hb
    clear hb
    go_wp2
    go_ret
    exact ⟨rfl, B1.out⟩
  have HCA := Lib.hid (fun W => Check_c a (by omega) W)
  have HCB := Lib.hid (fun W => Check_c b (by omega) W)
  cases hna : nok a with
  | false =>
    rw [nokE_no hna] at HCA
    clear hna HCB
    generalize S a = sa at *
    generalize S b = sb at *
    go_enter Tryd.func6, Tryd.ntmps6
    go_wp2_with fail
    refine (alive16_c _).mono ?_
    rintro e w1 ⟨rfl, hb⟩
    have B1 := Lib.hid hb
    clear hb
    go_wp2_with fail
    refine (HCA.out w1).mono ?_
    rintro e w2 ⟨rfl, hb⟩
    have B2 := Lib.hid (B1.out.trans (hb.mono B1.out.size))
    clear hb
    go_wp2
    go_ret
    exact ⟨rfl, B2.out⟩
  | true =>
    rw [nokE_ok hna] at HCA
    cases hnb : nok b with
    | false =>
      rw [nokE_no hnb] at HCB
      clear hna hnb
      generalize S a = sa at *
      generalize S b = sb at *
      go_enter Tryd.func6, Tryd.ntmps6
      go_wp2_with fail
      refine (alive16_c _).mono ?_
      rintro e w1 ⟨rfl, hb⟩
      have B1 := Lib.hid hb
      clear hb
      go_wp2_with fail
      refine (HCA.out w1).mono ?_
      rintro e w2 ⟨rfl, hb⟩
      have B2 := Lib.hid (B1.out.trans (hb.mono B1.out.size))
      clear hb
      go_wp2_with fail
      refine (HCB.out w2).mono ?_
      rintro e w3 ⟨rfl, hb⟩
      have B3 := Lib.hid (B2.out.trans (hb.mono B2.out.size))
      clear hb
      go_wp2
      go_ret
      exact ⟨rfl, B3.out⟩
    | true =>
      rw [nokE_ok hnb] at HCB
      have hadd1 : S a ++ (⟨#[47]⟩ : ByteArray) = S (a ++ [47]) := S_add _ [47]
      have hadd2 : S (a ++ [47]) ++ S b = S (a ++ [47] ++ b) := S_add _ _
      have z3 := S_size (a ++ [47])
      rw [List.length_append, List.length_singleton] at z3
      have z4 := S_size (a ++ [47] ++ b)
      have hlen : (a ++ [47] ++ b).length = a.length + 1 + b.length := by simp; omega
      rw [hlen] at z4
      obtain ⟨t, ht⟩ : ∃ t, t = a.length + 1 + b.length := ⟨_, rfl⟩
      rw [← ht] at z4
      by_cases hbig : 255 < t
      · have HCC : Hid (∀ W, Calls Tryd.prog 11 #[.string (S (a ++ [47] ++ b))] W fun e w' => e = .returned (.int .i64 40) ∧ Below W.heap.size W w') := fun W => by
          have := Check_c (a ++ [47] ++ b) (by rw [hlen]; omega) W
          rw [nokE_no (nok_no_len (.inr (by rw [hlen]; omega)))] at this
          exact this
        have HUN : Hid (∀ W, Calls Tryd.prog 18 #[.string (S (a ++ [47] ++ b)), .string (S a)] W fun e w' => e = .returned (.bool false) ∧ Below W.heap.size W w') := fun W => by
          have := Under_c (a ++ [47] ++ b) a (by rw [hlen]; omega) (by omega) W
          have e : undB (a ++ [47] ++ b) a = false := by unfold undB; rw [nok_no_len (.inr (by rw [hlen]; omega))]; rfl
          rw [e] at this
          exact this
        generalize S (a ++ [47] ++ b) = sc at *
        generalize S (a ++ [47]) = sd at *
        generalize S a = sa at *
        generalize S b = sb at *
        have ht3 : t ≤ 1000 := by omega
        clear hna hnb hlen ht
        go_enter Tryd.func6, Tryd.ntmps6
        go_wp2_with fail
        refine (alive16_c _).mono ?_
        rintro e w1 ⟨rfl, hb⟩
        have B1 := Lib.hid hb
        clear hb
        go_wp2_with fail
        refine (HCA.out w1).mono ?_
        rintro e w2 ⟨rfl, hb⟩
        have B2 := Lib.hid (B1.out.trans (hb.mono B1.out.size))
        clear hb
        go_wp2_with fail
        refine (HCB.out w2).mono ?_
        rintro e w3 ⟨rfl, hb⟩
        have B3 := Lib.hid (B2.out.trans (hb.mono B2.out.size))
        clear hb
        go_wp2_with fail
        refine (HCC.out w3).mono ?_
        rintro e w4 ⟨rfl, hb⟩
        have B4 := Lib.hid (B3.out.trans (hb.mono B3.out.size))
        clear hb
        go_wp2_with fail
        refine (HUN.out w4).mono ?_
        rintro e w5 ⟨rfl, hb⟩
        have B5 := Lib.hid (B4.out.trans (hb.mono B4.out.size))
        clear hb
        go_wp2
        go_ret
        exact ⟨rfl, B5.out⟩
      · have hnc : nok (a ++ [47] ++ b) = true := by
          rw [joined_eq]
          exact nok_join hna hnb (by rw [← joined_eq, hlen]; omega)
        have HCC : Hid (∀ W, Calls Tryd.prog 11 #[.string (S (a ++ [47] ++ b))] W fun e w' => e = .returned (.int .i64 0) ∧ Below W.heap.size W w') := fun W => by
          have := Check_c (a ++ [47] ++ b) (by rw [hlen]; omega) W
          rw [nokE_ok hnc] at this
          exact this
        have HUN : Hid (∀ W, Calls Tryd.prog 18 #[.string (S (a ++ [47] ++ b)), .string (S a)] W fun e w' => e = .returned (.bool true) ∧ Below W.heap.size W w') := fun W => by
          have := Under_c (a ++ [47] ++ b) a (by rw [hlen]; omega) (by omega) W
          have e : undB (a ++ [47] ++ b) a = true := by unfold undB; rw [hnc, hna, preB_app]; rfl
          rw [e] at this
          exact this
        obtain ⟨p, hp⟩ : ∃ p, (spl a).length = p := ⟨_, rfl⟩
        obtain ⟨q, hq⟩ : ∃ q, (spl b).length = q := ⟨_, rfl⟩
        have hpb := spl_len a
        have hqb := spl_len b
        rw [hp] at hpb
        rw [hq] at hqb
        have HP1 := Lib.hid (fun W => partsN (l := a ++ [47] ++ b) (by rw [hlen]; omega) hnc (m := p + q) (by rw [joined_eq, spl_app, List.length_append, hp, hq]) W)
        have HP2 := Lib.hid (fun W => partsN (l := a) (by omega) hna hp W)
        have HP3 := Lib.hid (fun W => partsN (l := b) (by omega) hnb hq W)
        have HR1 : Hid (∀ W, Calls Tryd.prog 14 #[.string (S (a ++ [47] ++ b))] W fun e w' => e = .returned (.int .i64 ((cnt a + cnt b + 1 : Nat) : Int)) ∧ Below W.heap.size W w') := fun W => by
          have := Runes_c (a ++ [47] ++ b) (by rw [hlen]; omega) W
          rw [show cnt (a ++ [47] ++ b) = cnt a + cnt b + 1 by rw [joined_eq]; exact cnt_join hna b] at this
          exact this
        have HR2 := Lib.hid (fun W => Runes_c a (by omega) W)
        have HR3 := Lib.hid (fun W => Runes_c b (by omega) W)
        have hca := cnt_le a
        have hcb := cnt_le b
        have HTW : Hid (∀ (W : World) (c : Nat), Calls Tryd.prog 19 #[.slice (some ⟨W.heap.size, 0, none⟩) 3 c] (W.alloc (.cells #[.string (S a), .string (S (a ++ [47] ++ b)), .string (S a)] 9)) fun e w' => e = .returned (.int .i64 2) ∧ Below W.heap.size W w') := fun W c =>
          (Twice_c _ 3 c [a, a ++ [47] ++ b, a] _ (SRow.lit3 W a (a ++ [47] ++ b) a) (by omega) (fun i hi => by
            rcases (by omega : i = 0 ∨ i = 1 ∨ i = 2) with rfl | rfl | rfl
            · show a.length ≤ maxLen
              unfold maxLen; omega
            · show (a ++ [47] ++ b).length ≤ maxLen
              rw [hlen]; unfold maxLen; omega
            · show a.length ≤ maxLen
              unfold maxLen; omega)).mono (by
            rintro e w' ⟨z, rfl, hz, hb⟩
            rw [hz.unique tw_join]
            exact ⟨rfl, belS hb⟩)
        generalize cnt a = ra at *
        generalize cnt b = rb at *
        generalize S (a ++ [47] ++ b) = sc at *
        generalize S (a ++ [47]) = sd at *
        generalize S a = sa at *
        generalize S b = sb at *
        have ht3 : t ≤ 255 := by omega
        clear hna hnb hlen ht hp hq hnc
        go_enter Tryd.func6, Tryd.ntmps6
        go_wp2_with fail
        refine (alive16_c _).mono ?_
        rintro e w1 ⟨rfl, hb⟩
        have B1 := Lib.hid hb
        clear hb
        go_wp2_with fail
        refine (HCA.out w1).mono ?_
        rintro e w2 ⟨rfl, hb⟩
        have B2 := Lib.hid (B1.out.trans (hb.mono B1.out.size))
        clear hb
        go_wp2_with fail
        refine (HCB.out w2).mono ?_
        rintro e w3 ⟨rfl, hb⟩
        have B3 := Lib.hid (B2.out.trans (hb.mono B2.out.size))
        clear hb
        go_wp2_with fail
        refine (HCC.out w3).mono ?_
        rintro e w4 ⟨rfl, hb⟩
        have B4 := Lib.hid (B3.out.trans (hb.mono B3.out.size))
        clear hb
        go_wp2_with fail
        refine (HUN.out w4).mono ?_
        rintro e w5 ⟨rfl, hb⟩
        have B5 := Lib.hid (B4.out.trans (hb.mono B4.out.size))
        clear hb
        go_wp2_with fail
        refine (HP1.out w5).mono ?_
        rintro e w6 ⟨A6, c6, rfl, hb⟩
        have B6 := Lib.hid (B5.out.trans (hb.mono B5.out.size))
        clear hb
        go_wp2_with fail
        refine (HP2.out w6).mono ?_
        rintro e w7 ⟨A7, c7, rfl, hb⟩
        have B7 := Lib.hid (B6.out.trans (hb.mono B6.out.size))
        clear hb
        go_wp2_with fail
        refine (HP3.out w7).mono ?_
        rintro e w8 ⟨A8, c8, rfl, hb⟩
        have B8 := Lib.hid (B7.out.trans (hb.mono B7.out.size))
        clear hb
        go_wp2_with fail
        refine (HR1.out w8).mono ?_
        rintro e w9 ⟨rfl, hb⟩
        have B9 := Lib.hid (B8.out.trans (hb.mono B8.out.size))
        clear hb
        go_wp2_with fail
        refine (HR2.out w9).mono ?_
        rintro e w10 ⟨rfl, hb⟩
        have B10 := Lib.hid (B9.out.trans (hb.mono B9.out.size))
        clear hb
        go_wp2_with fail
        refine (HR3.out w10).mono ?_
        rintro e w11 ⟨rfl, hb⟩
        have B11 := Lib.hid (B10.out.trans (hb.mono B10.out.size))
        clear hb
        go_wp2_with fail
        refine (HTW.out w11 _).mono ?_
        rintro e w12 ⟨rfl, hb⟩
        have B12 := Lib.hid (B11.out.trans (hb.mono B11.out.size))
        clear hb
        go_wp2
        go_ret
        exact ⟨rfl, B12.out⟩
end Go.Proofs.YtcodgamhgfafnaaDoor
